/- For every list of coins jointurelaw02.CoinsRights returns true and writes nothing that was there: the program's coins.Right says of each list (of at most 100 coins) what the document's Right says. No condition. -/
import Derived.Test.YtceaaclekolipaaU
import Derived.Test.YtceaaclekolipaaV
set_option linter.unusedSimpArgs false
set_option linter.unusedVariables false
namespace Go.Proofs.Ytceaaclekolipaa
open Go.ChangeShapes Go.WideShapes Go.ChangeAt Go.RowKit

set_option maxHeartbeats 1000000 in
theorem coinsRights_long (a : Option Addr) (len cap : Nat) (h : 100 < len) (hm : len ≤ 9223372036854775807) (w : World) :
    Calls Try.prog 14 #[.slice a len cap] w fun e w' => e = .returned (.bool true) ∧ Below w.heap.size w w' := by
  go_enter Try.func14, Try.ntmps14
  go_wp2_with (go_at_call 39; refine (little_any _).mono ?_; rintro e w1 ⟨rfl, hb⟩)
  go_ret
  exact ⟨rfl, hb⟩

set_option maxHeartbeats 1000000 in
theorem coinsRights_short (a : Option Addr) (len cap : Nat) (h : len ≤ 100) (l : List Cn) (w : World) (hl : IsCoins w (.slice a len cap) l) (hwf : ∀ y ∈ l, CnWf y) :
    Calls Try.prog 14 #[.slice a len cap] w fun e w' => e = .returned (.bool true) ∧ Below w.heap.size w w' := by
  have h' : ¬ (100 : Int) < (len : Int) := by omega
  go_enter Try.func14, Try.ntmps14
  go_wp2_with (first
    | (go_at_call 39; refine (little_any _).mono ?_; rintro e w1 ⟨rfl, hb1⟩)
    | (go_at_call 40; refine (right_any _ (hl.below hb1) hwf).mono ?_; rintro e w2 ⟨rfl, hb2⟩)
    | (go_at_call 41; refine (rightR_any _ ((hl.below hb1).below hb2) hwf).mono ?_; rintro e w3 ⟨rfl, hb3⟩))
  go_ret
  exact ⟨by simp, bt (bt hb1 hb2) hb3⟩

theorem coinsRights_own : ownKnob Try.prog.godebug = none := by kernel_rfl
theorem coinsRights_laid : laidOutB Try.prog = true := by kernel_rfl

set_option maxRecDepth 100000 in
theorem coinsRights_lifted (os : Os) (started : os.Started) (H : Type) (enc : TypeId × Value → H) :
    ReturnsInHanded {} Try.checked os 14 .any (Rows.coinsRightsSpec.pre6 enc Try.prog Try.f14 Rows.coinsRightsRow.domain false) (Rows.coinsRightsSpec.post enc Try.prog Try.f14 false true false false) := by
  refine returnsInHanded_of_change (C := Try.checked) coinsRights_own started (by kernel_rfl) Try.func14
    (ChangeSpec.witness6 (enc := enc) (C := Try.checked) false ⟨#[], #[.slice none 0 0], []⟩ 8 (by kernel_rfl) (by kernel_rfl) (by kernel_rfl) (by kernel_rfl)) ?_
  intro W base args ds gs before hval0 hW hcnd _
  have hval : ∀ (j : Nat) t v, Try.f14.params[j]? = some t → args[j]? = some v → Value.okWide Try.prog W .any base t v := hval0
  have hW' := hW
  obtain ⟨p, q, hA0, hV, rfl, hfz, hnd⟩ := hW
  have hA : DataW.TrodAll enc Try.prog W 0 (fun _ => true) true Try.f14.params.toList args.toList ds p := hA0
  rw [Try.params14] at hA hval
  obtain ⟨v0, vs0, d0, ds0, p0, q0, hargs, rfl, rfl, h0, r0⟩ := trodAll_cons hA
  obtain ⟨rfl, rfl, rfl⟩ := trodAll_nil r0
  obtain rfl : args = #[v0] := by cases args; simp_all
  obtain ⟨rfl, rfl⟩ := trodVars_none hV
  obtain ⟨a0, len0, cap0, rfl⟩ := okWide_slice Try.underlying50 (hval 0 50 v0 rfl rfl)
  have k0 := h0
  have lt0 : ∀ x ∈ p0, x.block < W.heap.size := by obtain ⟨m, hm⟩ := k0; exact DataW.trod_lt m _ _ _ hm
  obtain ⟨fuel, hf⟩ := h0
  simp only [Value.cells] at hf
  clear hA0 hval0
  have walk : Calls Try.prog 14 #[.slice a0 len0 cap0] W fun e w' => e = .returned (.bool true) ∧ Below W.heap.size W w' := by
    by_cases hl : len0 ≤ 100
    · obtain ⟨l, h1, h2, h3⟩ := coins_open hf (by omega)
      exact coinsRights_short a0 len0 cap0 hl l W h1 h3
    · refine coinsRights_long a0 len0 cap0 (by omega) ?_ W
      rcases Deep.open_slice Try.underlying50 hf with ⟨e, -⟩ | ⟨ad, len', cap', m, n, D, Pl, e, hb, hl, hm, hmm, -, hall⟩
      · simp at e; omega
      · simp at e; unfold maxLen at hm; omega
  refine walk.mono fun e W' ⟨he, bel⟩ => ?_
  subst he
  exact ⟨_, rfl, _, _, _, [], _, [], hW', trodAll_mk1 (shut_bool Try.underlying4 _), trodAll_cons_mk (Below.trod coinsRights_laid (by kernel_rfl) (of_decide_eq_true (by kernel_rfl)) k0 bel lt0) trodAll_mk0, rfl, bel.frame _, fun h => by cases h⟩

theorem coinsRights_holds : Rows.CoinsRightsSaid :=
  OpenClaim.holds_of_wide 14 Try.f14 rfl rfl rfl rfl rfl rfl rfl ⟨rfl, rfl, rfl, rfl, rfl⟩ rfl rfl rfl rfl rfl (by kernel_rfl) Try.func14 (by kernel_rfl)
    (of_decide_eq_true (by kernel_rfl)) (by unfold Func.isWrapper; first | (rw [if_pos (by decide +kernel)]; kernel_rfl) | (rw [if_neg (by decide +kernel)]; exact ⟨rfl, rfl⟩))
    (fun os started H enc _ => coinsRights_lifted os started H enc)
#print axioms coinsRights_holds
end Go.Proofs.Ytceaaclekolipaa
