
/- For all deeds jointurelaw05.StoreActs returns true and writes nothing that was there: behind each of any deeds, in parts within one another that stay or were not, the store has just what the document says, in order. No condition. -/
import Derived.Test.YthajolagpnakkaaO24
set_option linter.unusedSimpArgs false
set_option linter.unusedVariables false
namespace Go.Proofs.Ythajolagpnakkaa
open Go.ChangeShapes Go.WideShapes Go.ChangeAt Go.RowKit

set_option maxRecDepth 10000 in
set_option maxHeartbeats 8000000 in
theorem storeActs_any {w : World} (a : Option Addr) (len cap : Nat) (l : List Dd) (hm : len ≤ 9223372036854775807) (h : DdsIn w a len l) :
    Calls Try.prog 3 #[.slice a len cap] w fun e w' => e = .returned (.bool true) ∧ Below w.heap.size w w' := by
  cases hf : fewD l
  · have hF : Hid (∀ W, Below w.heap.size w W → Calls Try.prog 12 #[.slice a len cap] W fun e w' => e = .returned (.bool false) ∧ Below W.heap.size W w') := fun W hW => by rw [← hf]; exact few_any hm h W hW
    clear hf
    go_enter Try.func3, Try.ntmps3
    go_wp2_with (first
      | (go_at_call 11; refine (rolls_any w).mono ?_; rintro e w1 ⟨rfl, hb1⟩)
      | (go_at_call 12; refine (hF.out _ hb1).mono ?_; rintro e w2 ⟨rfl, hb2⟩)
      | (go_at_call 11; refine (rolls_any w2).mono ?_; rintro e w3 ⟨rfl, hb3⟩))
    go_ret
    exact ⟨rfl, bt (bt hb1 hb2) hb3⟩
  · have hF : Hid (∀ W, Below w.heap.size w W → Calls Try.prog 12 #[.slice a len cap] W fun e w' => e = .returned (.bool true) ∧ Below W.heap.size W w') := fun W hW => by rw [← hf]; exact few_any hm h W hW
    obtain ⟨hl40, hall⟩ := fewD_t hf
    have hnum := h.num
    have hlen' : (len : Int) ≤ 40 := by omega
    clear hf
    go_enter Try.func3, Try.ntmps3
    go_wp2_with (first
      | (go_at_call 11; refine (rolls_any w).mono ?_; rintro e w1 ⟨rfl, hb1⟩)
      | (go_at_call 12; refine (hF.out _ hb1).mono ?_; rintro e w2 ⟨rfl, hb2⟩)
      | (go_at_call 13; refine (stdNew w2).mono ?_; rintro e w3 ⟨rfl, n3, hb3⟩))
    have hP := Pr.new (bt hb1 hb2) n3 hb3
    clear hb1 hb2 hb3 n3 hF
    generalize w2.heap.size = s at *
    generalize w3.heap.size = m at *
    generalize w3.alloc (.cells #[.slice none 0 0, .slice none 0 0] 31) = w4 at *
    go_loopw [5] (fun iv X => ∃ (i : Nat) (L : List (List Int × List Int)) (ds : List (List (List Int × List Int))) (A B : Nat → Prop), i ≤ len ∧ iv = .int .i64 (i : Int) ∧ Pr w X s m L L ds ds i i s m A B) (fun iv _ => len - (intOf iv).toNat)
    case atStart => exact ⟨0, [], [], _, _, by omega, rfl, hP⟩
    case round =>
      clear hP
      obtain ⟨i, L, ds, A, B, hi, rfl, hP⟩ := hrel
      by_cases hlt : i < len
      · have hlt' : (i : Int) < (len : Int) := by omega
        have hil : i < l.length := by omega
        obtain ⟨blk, off, rfl, hbl, c0, c1, c2⟩ := dd_at h hP.below hil
        have hmem := List.getElem_mem hil
        have hD := hP.does (by omega) (by omega) (h.ok _ hmem) (hall _ hmem).1 (hall _ hmem).2
        rw [ansD_same] at hD
        generalize l[i] = y at *
        go_wp2_with (first
          | (go_at_call 14; refine hD.mono ?_; clear hD; rintro e w5 ⟨rfl, A5, B5, hP5, -⟩; have hS := sameD_any hP5.st hP5.rd (by omega) (by omega))
          | (go_at_call 15; refine hS.mono ?_; clear hS; rintro e w6 ⟨rfl, hb6⟩; have hP6 := hP5.down hb6))
        all_goals go_roundw
        case rel => exact ⟨i + 1, _, _, A5, B5, by omega, by go_num, hP6⟩
        case measure => (simp [intOf]; omega)
      · obtain rfl : i = len := by omega
        go_wp2
        go_ret
        exact ⟨rfl, hP.below⟩

theorem storeActs_own : ownKnob Try.prog.godebug = none := by kernel_rfl
theorem storeActs_laid : laidOutB Try.prog = true := by kernel_rfl

set_option maxRecDepth 100000 in
theorem storeActs_lifted (os : Os) (started : os.Started) (H : Type) (enc : TypeId × Value → H) :
    ReturnsInHanded {} Try.checked os 3 .any (Rows.storeActsSpec.pre6 enc Try.prog Try.f3 Rows.storeActsRow.domain false) (Rows.storeActsSpec.post enc Try.prog Try.f3 false true false false) := by
  refine returnsInHanded_of_change (C := Try.checked) storeActs_own started (by kernel_rfl) Try.func3
    (ChangeSpec.witness6 (enc := enc) (C := Try.checked) false ⟨#[], #[.slice none 0 0], []⟩ 8 (by kernel_rfl) (by kernel_rfl) (by kernel_rfl) (by kernel_rfl)) ?_
  intro W base args ds gs before hval0 hW hcnd _
  have hval : ∀ (j : Nat) t v, Try.f3.params[j]? = some t → args[j]? = some v → Value.okWide Try.prog W .any base t v := hval0
  have hW' := hW
  obtain ⟨p, q, hA0, hV, rfl, hfz, hnd⟩ := hW
  have hA : DataW.TrodAll enc Try.prog W 0 (fun _ => true) true Try.f3.params.toList args.toList ds p := hA0
  rw [Try.params3] at hA hval
  obtain ⟨v0, vs0, d0, ds0, p0, q0, hargs0, rfl, rfl, h0, r0⟩ := trodAll_cons hA
  obtain ⟨rfl, rfl, rfl⟩ := trodAll_nil r0
  obtain rfl : args = #[v0] := by cases args; simp_all
  obtain ⟨rfl, rfl⟩ := trodVars_none hV
  have k0 := h0
  have lt0 : ∀ x ∈ p0, x.block < W.heap.size := by obtain ⟨m, hm⟩ := k0; exact DataW.trod_lt m _ _ _ hm
  obtain ⟨a0, len0, cap0, rfl⟩ := okWide_slice Try.underlying22 (hval 0 22 v0 rfl rfl)
  obtain ⟨fuel0, hf0⟩ := h0
  simp only [Value.cells] at hf0
  obtain ⟨l0, hl0⟩ := acts_open hf0
  clear hA0 hval0
  have walk : Calls Try.prog 3 _ W fun e w' => e = .returned (.bool true) ∧ Below W.heap.size W w' := storeActs_any a0 len0 cap0 l0 (slice_len Try.underlying22 hf0) hl0
  refine walk.mono fun e W' ⟨he, bel⟩ => ?_
  subst he
  exact ⟨_, rfl, _, _, _, [], _, [], hW', trodAll_mk1 (shut_bool Try.underlying4 _), trodAll_cons_mk (Below.trod storeActs_laid (by kernel_rfl) (of_decide_eq_true (by kernel_rfl)) k0 bel lt0) (trodAll_mk0), rfl, bel.frame _, fun h => by cases h⟩

theorem storeActs_holds : Rows.StoreActsSaid :=
  OpenClaim.holds_of_wide 3 Try.f3 rfl rfl rfl rfl rfl rfl rfl ⟨rfl, rfl, rfl, rfl, rfl⟩ rfl rfl rfl rfl rfl (by kernel_rfl) Try.func3 (by kernel_rfl)
    (of_decide_eq_true (by kernel_rfl)) (by unfold Func.isWrapper; first | (rw [if_pos (by decide +kernel)]; kernel_rfl) | (rw [if_neg (by decide +kernel)]; exact ⟨rfl, rfl⟩))
    (fun os started H enc _ => storeActs_lifted os started H enc)
#print axioms storeActs_holds
end Go.Proofs.Ythajolagpnakkaa
