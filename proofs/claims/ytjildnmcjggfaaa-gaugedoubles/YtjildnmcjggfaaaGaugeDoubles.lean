
/- For every number jointurelaw03.GaugeDoubles returns true and writes nothing that was there: twice a number, if it can be, has twice the float. No condition. -/
import Derived.Test.YtjildnmcjggfaaaGM
set_option linter.unusedSimpArgs false
set_option linter.unusedVariables false
namespace Go.Proofs.Ytjildnmcjggfaaa
open Go.ChangeShapes Go.WideShapes Go.ChangeAt Go.RowKit

set_option maxRecDepth 100000 in
set_option maxHeartbeats 4000000 in
theorem gaugeDoubles_w {x0 x1 x2 x3 y0 y1 y2 y3 : Int} {a b : Nat} (h0 : Says 15 #[.agg #[.int .u64 x0, .int .u64 x1, .int .u64 x2, .int .u64 x3], .agg #[.int .u64 x0, .int .u64 x1, .int .u64 x2, .int .u64 x3]] (.tuple #[.agg #[.int .u64 y0, .int .u64 y1, .int .u64 y2, .int .u64 y3], .bool true])) (h1 : ∀ w, Calls Try.prog 12 #[.agg #[.int .u64 x0, .int .u64 x1, .int .u64 x2, .int .u64 x3]] w fun e w' => e = .returned (.float .f64 a) ∧ Below w.heap.size w w') (h2 : ∀ w, Calls Try.prog 12 #[.agg #[.int .u64 y0, .int .u64 y1, .int .u64 y2, .int .u64 y3]] w fun e w' => e = .returned (.float .f64 b) ∧ Below w.heap.size w w') (hm : floatBits .mul .f64 4611686018427387904 a = some b) (he : (FloatKind.f64.format.order b b == some Ordering.eq) = true) (w : World) : Calls Try.prog 5 #[.agg #[.int .u64 x0, .int .u64 x1, .int .u64 x2, .int .u64 x3]] w fun e w' => e = .returned (.bool true) ∧ Below w.heap.size w w' := by
  have hpad := pads
  have hmm : ∀ w : World, (binOp .mul 26 (.float .f64 4611686018427387904) (.float .f64 a)).run Try.prog w = .ok (.float .f64 b) w := fun w => run_float_arith w _ _ _ _ _ _ hm
  clear hm
  go_enter Try.func5, Try.ntmps5
  go_upto_region 2 with (go_at_call 15; with_reducible refine (h0.at _).mono ?_; rintro e w' ⟨rfl, hb⟩; obtain ⟨m1, g1, d1, hm1, rfl⟩ := pad_of hb; clear hb; (try simp [pad_size] at hm1); have st1_w := sz1 (n := w.heap.size) (m := m1) (by omega))
  go_region_held2 (fun W => W.cell? ⟨w.heap.size, 0, none⟩ = some (.int .u64 x0) ∧ W.cell? ⟨w.heap.size, 1, none⟩ = some (.int .u64 x1) ∧ W.cell? ⟨w.heap.size, 2, none⟩ = some (.int .u64 x2) ∧ W.cell? ⟨w.heap.size, 3, none⟩ = some (.int .u64 x3) ∧ W.cell? ⟨m1, 0, none⟩ = some (.int .u64 y0) ∧ W.cell? ⟨m1, 1, none⟩ = some (.int .u64 y1) ∧ W.cell? ⟨m1, 2, none⟩ = some (.int .u64 y2) ∧ W.cell? ⟨m1, 3, none⟩ = some (.int .u64 y3)) (go_simp) (first
    | (go_at_call 11; with_reducible refine (says_turns.at _).mono ?_; rintro e w' ⟨rfl, hb⟩; obtain ⟨m2, g2, d2, hm2, rfl⟩ := pad_of hb; clear hb; (try simp [pad_size] at hm2); have st2_w := sz1 (n := w.heap.size) (m := m2) (by omega); have st2_1 := sz1 (n := m1) (m := m2) (by omega))
    | (go_at_call 12; with_reducible refine (h1 _).mono ?_; rintro e w' ⟨rfl, hb⟩; obtain ⟨m3, g3, d3, hm3, rfl⟩ := pad_of hb; clear hb; (try simp [pad_size] at hm3); have st3_w := sz1 (n := w.heap.size) (m := m3) (by omega); have st3_1 := sz1 (n := m1) (m := m3) (by omega))
    | (go_at_call 12; with_reducible refine (h2 _).mono ?_; rintro e w' ⟨rfl, hb⟩; obtain ⟨m4, g4, d4, hm4, rfl⟩ := pad_of hb; clear hb; (try simp [pad_size] at hm4); have st4_w := sz1 (n := w.heap.size) (m := m4) (by omega); have st4_1 := sz1 (n := m1) (m := m4) (by omega)))
  all_goals go_wp2
  all_goals go_ret
  all_goals exact ⟨rfl, by (repeat (first | (with_reducible exact Below.refl _ _) | (with_reducible assumption) | (with_reducible apply bd) | (with_reducible apply ba) | (with_reducible refine bp ?_ (by first | omega | (simp [pad_size]; done) | (simp [pad_size]; omega)) _ _) | (with_reducible refine bs ?_ (by first | omega | (simp [pad_size]; done) | (simp [pad_size]; omega)) _) | (with_reducible refine bt ?_ (by assumption))))⟩
set_option maxRecDepth 100000 in
set_option maxHeartbeats 4000000 in
theorem gaugeDoubles_no {x0 x1 x2 x3 y0 y1 y2 y3 : Int} {a b : Nat} (h0 : Says 15 #[.agg #[.int .u64 x0, .int .u64 x1, .int .u64 x2, .int .u64 x3], .agg #[.int .u64 x0, .int .u64 x1, .int .u64 x2, .int .u64 x3]] (.tuple #[.agg #[.int .u64 y0, .int .u64 y1, .int .u64 y2, .int .u64 y3], .bool false])) (w : World) : Calls Try.prog 5 #[.agg #[.int .u64 x0, .int .u64 x1, .int .u64 x2, .int .u64 x3]] w fun e w' => e = .returned (.bool true) ∧ Below w.heap.size w w' := by
  have hpad := pads
  go_enter Try.func5, Try.ntmps5
  go_upto_region 2 with (go_at_call 15; with_reducible refine (h0.at _).mono ?_; rintro e w' ⟨rfl, hb⟩; obtain ⟨m1, g1, d1, hm1, rfl⟩ := pad_of hb; clear hb; (try simp [pad_size] at hm1); have st1_w := sz1 (n := w.heap.size) (m := m1) (by omega))
  go_region_with (go_at_call 11; with_reducible refine (says_turns.at _).mono ?_; rintro e w' ⟨rfl, hb⟩; obtain ⟨m2, g2, d2, hm2, rfl⟩ := pad_of hb; clear hb; (try simp [pad_size] at hm2); have st2_w := sz1 (n := w.heap.size) (m := m2) (by omega); have st2_1 := sz1 (n := m1) (m := m2) (by omega))
  all_goals go_wp2
  all_goals go_ret
  all_goals exact ⟨rfl, by (repeat (first | (with_reducible exact Below.refl _ _) | (with_reducible assumption) | (with_reducible apply bd) | (with_reducible apply ba) | (with_reducible refine bp ?_ (by first | omega | (simp [pad_size]; done) | (simp [pad_size]; omega)) _ _) | (with_reducible refine bs ?_ (by first | omega | (simp [pad_size]; done) | (simp [pad_size]; omega)) _) | (with_reducible refine bt ?_ (by assumption))))⟩
theorem fN_twice {n : Nat} (h : n.log2 < 999) : Ieee.double.mul 4611686018427387904 (fN n) = some (fN (2 * n)) := by
  by_cases h0 : n = 0
  · subst h0; decide +kernel
  · have hg := fN_ge h0
    have hl : fN (2 * n) < 2047 * 4503599627370496 := fN_lt (by rw [log_two h0]; omega)
    rw [fN_two h0] at hl ⊢
    have e : (4611686018427387904 : Nat) = (1023 + 1) * 4503599627370496 := by decide
    rw [mul_swap, e, mul_pow (r := fN n) (k := 1) hg (by omega) (by omega), Nat.one_mul]
theorem gaugeDoubles_any (x0 x1 x2 x3 : Int) (hx : Lim x0 x1 x2 x3) (w : World) : Calls Try.prog 5 #[.agg #[.int .u64 x0, .int .u64 x1, .int .u64 x2, .int .u64 x3]] w fun e w' => e = .returned (.bool true) ∧ Below w.heap.size w w' := by
  have v0 := val_lo hx
  by_cases ho : val x0 x1 x2 x3 + val x0 x1 x2 x3 < 115792089237316195423570985008687907853269984665640564039457584007913129639936
  · obtain ⟨y0, y1, y2, y3, hy, ey⟩ := limbs_of (show 0 ≤ val x0 x1 x2 x3 + val x0 x1 x2 x3 by omega) ho
    have e : fI (val y0 y1 y2 y3) = fN (2 * (val x0 x1 x2 x3).toNat) := by unfold fI; rw [ey]; congr 1; omega
    have ht := fN_twice (n := (val x0 x1 x2 x3).toNat) (by have := log_256 (n := (val x0 x1 x2 x3).toNat) (by omega); omega)
    exact gaugeDoubles_w (says_addR hx hx hy ey) (float_any hx) (float_any hy) (by rw [e]; exact ht) (fI_eq hy) w
  · exact gaugeDoubles_no (a := 0) (b := 0) (says_addR_over hx hx (show _ ≤ _ by omega)) w

theorem gaugeDoubles_own : ownKnob Try.prog.godebug = none := by kernel_rfl
theorem gaugeDoubles_laid : laidOutB Try.prog = true := by kernel_rfl

set_option maxRecDepth 100000 in
theorem gaugeDoubles_lifted (os : Os) (started : os.Started) (H : Type) (enc : TypeId × Value → H) :
    ReturnsInHanded {} Try.checked os 5 .any (Rows.gaugeDoublesSpec.pre6 enc Try.prog Try.f5 Rows.gaugeDoublesRow.domain false) (Rows.gaugeDoublesSpec.post enc Try.prog Try.f5 false true false false) := by
  refine returnsInHanded_of_change (C := Try.checked) gaugeDoubles_own started (by kernel_rfl) Try.func5
    (ChangeSpec.witness6 (enc := enc) (C := Try.checked) false ⟨#[], #[.agg #[.int .u64 0, .int .u64 0, .int .u64 0, .int .u64 0]], []⟩ 8 (by kernel_rfl) (by kernel_rfl) (by kernel_rfl) (by kernel_rfl)) ?_
  intro W base args ds gs before hval0 hW hcnd _
  have hval : ∀ (j : Nat) t v, Try.f5.params[j]? = some t → args[j]? = some v → Value.okWide Try.prog W .any base t v := hval0
  have hW' := hW
  obtain ⟨p, q, hA0, hV, rfl, hfz, hnd⟩ := hW
  have hA : DataW.TrodAll enc Try.prog W 0 (fun _ => true) true Try.f5.params.toList args.toList ds p := hA0
  rw [Try.params5] at hA hval
  obtain ⟨v0, vs0, d0, ds0, p0, q0, hargs0, rfl, rfl, h0, r0⟩ := trodAll_cons hA
  obtain ⟨rfl, rfl, rfl⟩ := trodAll_nil r0
  obtain rfl : args = #[v0] := by cases args; simp_all
  obtain ⟨rfl, rfl⟩ := trodVars_none hV
  have k0 := h0
  have lt0 : ∀ x ∈ p0, x.block < W.heap.size := by obtain ⟨m, hm⟩ := k0; exact DataW.trod_lt m _ _ _ hm
  obtain ⟨x0, x1, x2, x3, rfl, hx⟩ := num_in (hval 0 24 v0 rfl rfl) h0
  clear hA0 hval0
  have walk : Calls Try.prog 5 _ W fun e w' => e = .returned (.bool true) ∧ Below W.heap.size W w' := gaugeDoubles_any x0 x1 x2 x3 hx W
  refine walk.mono fun e W' ⟨he, bel⟩ => ?_
  subst he
  exact ⟨_, rfl, _, _, _, [], _, [], hW', trodAll_mk1 (shut_bool Try.underlying4 _), trodAll_cons_mk (Below.trod gaugeDoubles_laid (by kernel_rfl) (of_decide_eq_true (by kernel_rfl)) k0 bel lt0) (trodAll_mk0), rfl, bel.frame _, fun h => by cases h⟩

theorem gaugeDoubles_holds : Rows.GaugeDoublesSaid :=
  OpenClaim.holds_of_wide 5 Try.f5 rfl rfl rfl rfl rfl rfl rfl ⟨rfl, rfl, rfl, rfl, rfl⟩ rfl rfl rfl rfl rfl (by kernel_rfl) Try.func5 (by kernel_rfl)
    (of_decide_eq_true (by kernel_rfl)) (by unfold Func.isWrapper; first | (rw [if_pos (by decide +kernel)]; kernel_rfl) | (rw [if_neg (by decide +kernel)]; exact ⟨rfl, rfl⟩))
    (fun os started H enc _ => gaugeDoubles_lifted os started H enc)
#print axioms gaugeDoubles_holds
end Go.Proofs.Ytjildnmcjggfaaa
