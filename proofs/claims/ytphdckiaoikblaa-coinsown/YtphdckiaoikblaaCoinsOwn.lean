
/- For every two lists and every number jointurelaw02.CoinsOwn returns true and writes nothing that was there: what is answered may be written over. No condition. -/
import Derived.Test.YtphdckiaoikblaaC17
set_option linter.unusedSimpArgs false
set_option linter.unusedVariables false
namespace Go.Proofs.Ytphdckiaoikblaa
open Go.ChangeShapes Go.WideShapes Go.ChangeAt Go.RowKit

set_option maxHeartbeats 1000000 in
theorem coinsOwn_long (a b : Option Addr) (la lb ca cb : Nat) (x0 x1 x2 x3 : Int) (h : 100 < la ∨ 100 < lb) (hm : la ≤ 9223372036854775807) (hn : lb ≤ 9223372036854775807) (w : World) :
    Calls Try.prog 3 #[.slice a la ca, .slice b lb cb, .agg #[.int .u64 x0, .int .u64 x1, .int .u64 x2, .int .u64 x3]] w fun e w' => e = .returned (.bool true) ∧ Below w.heap.size w w' := by
  by_cases h1 : 100 < la
  · have h' : (100 : Int) < (la : Int) := by omega
    go_enter Try.func3, Try.ntmps3
    go_wp2_with (go_at_call 4; refine (little_any _).mono ?_; rintro e w1 ⟨rfl, hb⟩)
    go_ret
    exact ⟨rfl, bt (ba (Below.refl _ _) _) hb⟩
  · have h' : ¬ (100 : Int) < (la : Int) := by omega
    have h'' : (100 : Int) < (lb : Int) := by omega
    go_enter Try.func3, Try.ntmps3
    go_wp2_with (go_at_call 4; refine (little_any _).mono ?_; rintro e w1 ⟨rfl, hb⟩)
    go_ret
    exact ⟨rfl, bt (ba (Below.refl _ _) _) hb⟩

theorem coinsOwn_any {w : World} (a : Option Addr) (la ca : Nat) (b : Option Addr) (lb cb : Nat) (x0 x1 x2 x3 : Int) (hm : la ≤ 9223372036854775807) (ho : la ≤ 1048576 → ∃ l : List Cn, IsCoins w (.slice a la ca) l ∧ l.length = la ∧ ∀ y ∈ l, CnWf y) (hn : lb ≤ 9223372036854775807) (hp : lb ≤ 1048576 → ∃ l : List Cn, IsCoins w (.slice b lb cb) l ∧ l.length = lb ∧ ∀ y ∈ l, CnWf y) (hx : Lim x0 x1 x2 x3) :
    Calls Try.prog 3 #[.slice a la ca, .slice b lb cb, .agg #[.int .u64 x0, .int .u64 x1, .int .u64 x2, .int .u64 x3]] w fun e w' => e = .returned (.bool true) ∧ Below w.heap.size w w' := by
  by_cases h : 100 < la ∨ 100 < lb
  · exact coinsOwn_long a b la lb ca cb x0 x1 x2 x3 h hm hn w
  · obtain ⟨pa, i1, -, i3⟩ := ho (by omega)
    obtain ⟨pb, j1, -, j3⟩ := hp (by omega)
    exact coinsOwn_w a b la lb ca cb x0 x1 x2 x3 (by omega) (by omega) pa pb i3 j3 w i1 j1

theorem coinsOwn_own : ownKnob Try.prog.godebug = none := by kernel_rfl
theorem coinsOwn_laid : laidOutB Try.prog = true := by kernel_rfl

set_option maxRecDepth 100000 in
theorem coinsOwn_lifted (os : Os) (started : os.Started) (H : Type) (enc : TypeId × Value → H) :
    ReturnsInHanded {} Try.checked os 3 .any (Rows.coinsOwnSpec.pre6 enc Try.prog Try.f3 Rows.coinsOwnRow.domain false) (Rows.coinsOwnSpec.post enc Try.prog Try.f3 false true false false) := by
  refine returnsInHanded_of_change (C := Try.checked) coinsOwn_own started (by kernel_rfl) Try.func3
    (ChangeSpec.witness6 (enc := enc) (C := Try.checked) false ⟨#[], #[.slice none 0 0, .slice none 0 0, .agg #[.int .u64 0, .int .u64 0, .int .u64 0, .int .u64 0]], []⟩ 8 (by kernel_rfl) (by kernel_rfl) (by kernel_rfl) (by kernel_rfl)) ?_
  intro W base args ds gs before hval0 hW hcnd _
  have hval : ∀ (j : Nat) t v, Try.f3.params[j]? = some t → args[j]? = some v → Value.okWide Try.prog W .any base t v := hval0
  have hW' := hW
  obtain ⟨p, q, hA0, hV, rfl, hfz, hnd⟩ := hW
  have hA : DataW.TrodAll enc Try.prog W 0 (fun _ => true) true Try.f3.params.toList args.toList ds p := hA0
  rw [Try.params3] at hA hval
  obtain ⟨v0, vs0, d0, ds0, p0, q0, hargs0, rfl, rfl, h0, r0⟩ := trodAll_cons hA
  obtain ⟨v1, vs1, d1, ds1, p1, q1, hargs1, rfl, rfl, h1, r1⟩ := trodAll_cons r0
  obtain ⟨v2, vs2, d2, ds2, p2, q2, hargs2, rfl, rfl, h2, r2⟩ := trodAll_cons r1
  obtain ⟨rfl, rfl, rfl⟩ := trodAll_nil r2
  obtain rfl : args = #[v0, v1, v2] := by cases args; simp_all
  obtain ⟨rfl, rfl⟩ := trodVars_none hV
  have k0 := h0
  have lt0 : ∀ x ∈ p0, x.block < W.heap.size := by obtain ⟨m, hm⟩ := k0; exact DataW.trod_lt m _ _ _ hm
  have k1 := h1
  have lt1 : ∀ x ∈ p1, x.block < W.heap.size := by obtain ⟨m, hm⟩ := k1; exact DataW.trod_lt m _ _ _ hm
  have k2 := h2
  have lt2 : ∀ x ∈ p2, x.block < W.heap.size := by obtain ⟨m, hm⟩ := k2; exact DataW.trod_lt m _ _ _ hm
  obtain ⟨a0, len0, cap0, rfl⟩ := okWide_slice Try.underlying22 (hval 0 22 v0 rfl rfl)
  obtain ⟨fuel0, hf0⟩ := h0
  simp only [Value.cells] at hf0
  obtain ⟨a1, len1, cap1, rfl⟩ := okWide_slice Try.underlying22 (hval 1 22 v1 rfl rfl)
  obtain ⟨fuel1, hf1⟩ := h1
  simp only [Value.cells] at hf1
  obtain ⟨x0, x1, x2, x3, rfl, hx⟩ := num_in (hval 2 25 v2 rfl rfl) h2
  clear hA0 hval0
  have walk : Calls Try.prog 3 _ W fun e w' => e = .returned (.bool true) ∧ Below W.heap.size W w' := coinsOwn_any a0 len0 cap0 a1 len1 cap1 x0 x1 x2 x3 (slice_len' Try.underlying22 hf0) (fun hl => somes_open hf0 hl) (slice_len' Try.underlying22 hf1) (fun hl => somes_open hf1 hl) hx
  refine walk.mono fun e W' ⟨he, bel⟩ => ?_
  subst he
  exact ⟨_, rfl, _, _, _, [], _, [], hW', trodAll_mk1 (shut_bool Try.underlying4 _), trodAll_cons_mk (Below.trod coinsOwn_laid (by kernel_rfl) (of_decide_eq_true (by kernel_rfl)) k0 bel lt0) (trodAll_cons_mk (Below.trod coinsOwn_laid (by kernel_rfl) (of_decide_eq_true (by kernel_rfl)) k1 bel lt1) (trodAll_cons_mk (Below.trod coinsOwn_laid (by kernel_rfl) (of_decide_eq_true (by kernel_rfl)) k2 bel lt2) (trodAll_mk0))), rfl, bel.frame _, fun h => by cases h⟩

theorem coinsOwn_holds : Rows.CoinsOwnSaid :=
  OpenClaim.holds_of_wide 3 Try.f3 rfl rfl rfl rfl rfl rfl rfl ⟨rfl, rfl, rfl, rfl, rfl⟩ rfl rfl rfl rfl rfl (by kernel_rfl) Try.func3 (by kernel_rfl)
    (of_decide_eq_true (by kernel_rfl)) (by unfold Func.isWrapper; first | (rw [if_pos (by decide +kernel)]; kernel_rfl) | (rw [if_neg (by decide +kernel)]; exact ⟨rfl, rfl⟩))
    (fun os started H enc _ => coinsOwn_lifted os started H enc)
#print axioms coinsOwn_holds
end Go.Proofs.Ytphdckiaoikblaa
