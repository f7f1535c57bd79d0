
/- For every three numbers and either way of rounding jointurelaw01.NumParts returns true and writes nothing that was there: a product by a number is the document's. No condition. -/
import Derived.Test.YtkeimndlcagbbaaE4
set_option linter.unusedSimpArgs false
set_option linter.unusedVariables false
namespace Go.Proofs.Ytkeimndlcagbbaa
open Go.ChangeShapes Go.WideShapes Go.ChangeAt Go.RowKit

set_option maxRecDepth 100000 in
set_option maxHeartbeats 4000000 in
theorem numParts_w (x0 x1 x2 x3 y0 y1 y2 y3 z0 z1 z2 z3 s0 s1 s2 s3 c : Int) (up : Bool)
    (hA : Says 25 #[.agg #[.int .u64 x0, .int .u64 x1, .int .u64 x2, .int .u64 x3], .agg #[.int .u64 y0, .int .u64 y1, .int .u64 y2, .int .u64 y3], .agg #[.int .u64 z0, .int .u64 z1, .int .u64 z2, .int .u64 z3], .bool up] (.tuple #[.agg #[.int .u64 s0, .int .u64 s1, .int .u64 s2, .int .u64 s3], .int .i64 c]))
    (hR : Says 26 #[.agg #[.int .u64 x0, .int .u64 x1, .int .u64 x2, .int .u64 x3], .agg #[.int .u64 y0, .int .u64 y1, .int .u64 y2, .int .u64 y3], .agg #[.int .u64 z0, .int .u64 z1, .int .u64 z2, .int .u64 z3], .bool up] (.tuple #[.agg #[.int .u64 s0, .int .u64 s1, .int .u64 s2, .int .u64 s3], .int .i64 c])) (w : World) :
    Calls Try.prog 7 #[.agg #[.int .u64 x0, .int .u64 x1, .int .u64 x2, .int .u64 x3], .agg #[.int .u64 y0, .int .u64 y1, .int .u64 y2, .int .u64 y3], .agg #[.int .u64 z0, .int .u64 z1, .int .u64 z2, .int .u64 z3], .bool up] w fun e w' => e = .returned (.bool true) ∧ Below w.heap.size w w' := by
  have hpad := pads
  have heq := eq_num
  have hes := eq4_self
  go_enter Try.func7, Try.ntmps7
  go_wp2_with (first
    | (go_at_call 25; with_reducible refine (hA.at _).mono ?_; rintro e w' ⟨rfl, hb⟩; obtain ⟨m1, g1, d1, hm1, rfl⟩ := pad_of hb; clear hb; (try simp [pad_size] at hm1); have st1_w := sz3 (n := w.heap.size) (m := m1) (by omega))
    | (go_at_call 26; with_reducible refine (hR.at _).mono ?_; rintro e w' ⟨rfl, hb⟩; obtain ⟨m2, g2, d2, hm2, rfl⟩ := pad_of hb; clear hb; (try simp [pad_size] at hm2); have st2_w := sz3 (n := w.heap.size) (m := m2) (by omega); have st2_1 := sz1 (n := m1) (m := m2) (by omega))
    | (go_at_call 18; with_reducible refine (says_halves.at _).mono ?_; rintro e w' ⟨rfl, hb⟩; obtain ⟨m3, g3, d3, hm3, rfl⟩ := pad_of hb; clear hb; (try simp [pad_size] at hm3); have st3_w := sz3 (n := w.heap.size) (m := m3) (by omega); have st3_1 := sz1 (n := m1) (m := m3) (by omega); have st3_2 := sz1 (n := m2) (m := m3) (by omega)))
  all_goals go_ret
  all_goals exact ⟨rfl, by (repeat (first | (with_reducible exact Below.refl _ _) | (with_reducible assumption) | (with_reducible apply bd) | (with_reducible apply ba) | (with_reducible refine bp ?_ (by first | omega | (simp [pad_size]; done) | (simp [pad_size]; omega)) _ _) | (with_reducible refine bs ?_ (by first | omega | (simp [pad_size]; done) | (simp [pad_size]; omega)) _) | (with_reducible refine bt ?_ (by assumption))))⟩

theorem numParts_any (x0 x1 x2 x3 y0 y1 y2 y3 z0 z1 z2 z3 : Int) (up : Bool) (hx : Lim x0 x1 x2 x3) (hy : Lim y0 y1 y2 y3) (hz : Lim z0 z1 z2 z3) (w : World) :
    Calls Try.prog 7 #[.agg #[.int .u64 x0, .int .u64 x1, .int .u64 x2, .int .u64 x3], .agg #[.int .u64 y0, .int .u64 y1, .int .u64 y2, .int .u64 y3], .agg #[.int .u64 z0, .int .u64 z1, .int .u64 z2, .int .u64 z3], .bool up] w fun e w' => e = .returned (.bool true) ∧ Below w.heap.size w w' := by
  have c0 := val_lo hz
  have p0 := Int.mul_nonneg (val_lo hx) (val_lo hy)
  rcases Bool.eq_false_or_eq_true (eq4 z0 z1 z2 z3 0 0 0 0) with hq | hq
  · have hq' := hq
    rw [eq4_zero hz, decide_eq_true_iff] at hq'
    exact numParts_w _ _ _ _ _ _ _ _ _ _ _ _ 0 0 0 0 1 up (says_md_zero up hx hy hz hq') (says_mdR_zero up hq) w
  · have hc : ¬ val z0 z1 z2 z3 = 0 := by have h := hq; rw [eq4_zero hz, decide_eq_false_iff_not] at h; exact h
    have hqq : val x0 x1 x2 x3 * val y0 y1 y2 y3 = (val x0 x1 x2 x3 * val y0 y1 y2 y3) / val z0 z1 z2 z3 * val z0 z1 z2 z3 + (val x0 x1 x2 x3 * val y0 y1 y2 y3) % val z0 z1 z2 z3 := by
      have := Int.emod_add_mul_ediv (val x0 x1 x2 x3 * val y0 y1 y2 y3) (val z0 z1 z2 z3)
      rw [Int.mul_comm (_ / _)]; omega
    have hr : 0 ≤ (val x0 x1 x2 x3 * val y0 y1 y2 y3) % val z0 z1 z2 z3 ∧ (val x0 x1 x2 x3 * val y0 y1 y2 y3) % val z0 z1 z2 z3 < val z0 z1 z2 z3 := ⟨Int.emod_nonneg _ hc, Int.emod_lt_of_pos _ (by omega)⟩
    have q0 : 0 ≤ (val x0 x1 x2 x3 * val y0 y1 y2 y3) / val z0 z1 z2 z3 := Int.ediv_nonneg p0 c0
    generalize (val x0 x1 x2 x3 * val y0 y1 y2 y3) / val z0 z1 z2 z3 = q at *
    generalize (val x0 x1 x2 x3 * val y0 y1 y2 y3) % val z0 z1 z2 z3 = r at *
    have f2 : 0 ≤ upI up q r := by unfold upI; split <;> omega
    by_cases ho : upI up q r < 115792089237316195423570985008687907853269984665640564039457584007913129639936
    · obtain ⟨s0, s1, s2, s3, hs, es⟩ := limbs_of f2 ho
      exact numParts_w _ _ _ _ _ _ _ _ _ _ _ _ s0 s1 s2 s3 0 up (says_md up hx hy hz hs hqq hr es) (says_mdR up hx hy hz hs hq ⟨hqq, hr⟩ es) w
    · exact numParts_w _ _ _ _ _ _ _ _ _ _ _ _ 0 0 0 0 2 up (says_md_over up hx hy hz hqq hr (by omega)) (says_mdR_over up hx hy hz hq ⟨hqq, hr⟩ (show _ ≤ _ by omega)) w

theorem numParts_own : ownKnob Try.prog.godebug = none := by kernel_rfl
theorem numParts_laid : laidOutB Try.prog = true := by kernel_rfl

set_option maxRecDepth 100000 in
theorem numParts_lifted (os : Os) (started : os.Started) (H : Type) (enc : TypeId × Value → H) :
    ReturnsInHanded {} Try.checked os 7 .any (Rows.numPartsSpec.pre6 enc Try.prog Try.f7 Rows.numPartsRow.domain false) (Rows.numPartsSpec.post enc Try.prog Try.f7 false true false false) := by
  refine returnsInHanded_of_change (C := Try.checked) numParts_own started (by kernel_rfl) Try.func7
    (ChangeSpec.witness6 (enc := enc) (C := Try.checked) false ⟨#[], #[.agg #[.int .u64 0, .int .u64 0, .int .u64 0, .int .u64 0], .agg #[.int .u64 0, .int .u64 0, .int .u64 0, .int .u64 0], .agg #[.int .u64 0, .int .u64 0, .int .u64 0, .int .u64 0], .bool false], []⟩ 8 (by kernel_rfl) (by kernel_rfl) (by kernel_rfl) (by kernel_rfl)) ?_
  intro W base args ds gs before hval0 hW hcnd _
  have hval : ∀ (j : Nat) t v, Try.f7.params[j]? = some t → args[j]? = some v → Value.okWide Try.prog W .any base t v := hval0
  have hW' := hW
  obtain ⟨p, q, hA0, hV, rfl, hfz, hnd⟩ := hW
  have hA : DataW.TrodAll enc Try.prog W 0 (fun _ => true) true Try.f7.params.toList args.toList ds p := hA0
  rw [Try.params7] at hA hval
  obtain ⟨v0, vs0, d0, ds0, p0, q0, hargs0, rfl, rfl, h0, r0⟩ := trodAll_cons hA
  obtain ⟨v1, vs1, d1, ds1, p1, q1, hargs1, rfl, rfl, h1, r1⟩ := trodAll_cons r0
  obtain ⟨v2, vs2, d2, ds2, p2, q2, hargs2, rfl, rfl, h2, r2⟩ := trodAll_cons r1
  obtain ⟨v3, vs3, d3, ds3, p3, q3, hargs3, rfl, rfl, h3, r3⟩ := trodAll_cons r2
  obtain ⟨rfl, rfl, rfl⟩ := trodAll_nil r3
  obtain rfl : args = #[v0, v1, v2, v3] := by cases args; simp_all
  obtain ⟨rfl, rfl⟩ := trodVars_none hV
  have k0 := h0
  have lt0 : ∀ x ∈ p0, x.block < W.heap.size := by obtain ⟨m, hm⟩ := k0; exact DataW.trod_lt m _ _ _ hm
  have k1 := h1
  have lt1 : ∀ x ∈ p1, x.block < W.heap.size := by obtain ⟨m, hm⟩ := k1; exact DataW.trod_lt m _ _ _ hm
  have k2 := h2
  have lt2 : ∀ x ∈ p2, x.block < W.heap.size := by obtain ⟨m, hm⟩ := k2; exact DataW.trod_lt m _ _ _ hm
  have k3 := h3
  have lt3 : ∀ x ∈ p3, x.block < W.heap.size := by obtain ⟨m, hm⟩ := k3; exact DataW.trod_lt m _ _ _ hm
  obtain ⟨x0, x1, x2, x3, rfl, hx⟩ := num_in (hval 0 24 v0 rfl rfl) h0
  obtain ⟨y0, y1, y2, y3, rfl, hy⟩ := num_in (hval 1 24 v1 rfl rfl) h1
  obtain ⟨z0, z1, z2, z3, rfl, hz⟩ := num_in (hval 2 24 v2 rfl rfl) h2
  obtain ⟨b3, rfl⟩ := okWide_bool Try.underlying4 (hval 3 4 v3 rfl rfl)
  clear hA0 hval0
  have walk : Calls Try.prog 7 _ W fun e w' => e = .returned (.bool true) ∧ Below W.heap.size W w' := numParts_any x0 x1 x2 x3 y0 y1 y2 y3 z0 z1 z2 z3 b3 hx hy hz W
  refine walk.mono fun e W' ⟨he, bel⟩ => ?_
  subst he
  exact ⟨_, rfl, _, _, _, [], _, [], hW', trodAll_mk1 (shut_bool Try.underlying4 _), trodAll_cons_mk (Below.trod numParts_laid (by kernel_rfl) (of_decide_eq_true (by kernel_rfl)) k0 bel lt0) (trodAll_cons_mk (Below.trod numParts_laid (by kernel_rfl) (of_decide_eq_true (by kernel_rfl)) k1 bel lt1) (trodAll_cons_mk (Below.trod numParts_laid (by kernel_rfl) (of_decide_eq_true (by kernel_rfl)) k2 bel lt2) (trodAll_cons_mk (Below.trod numParts_laid (by kernel_rfl) (of_decide_eq_true (by kernel_rfl)) k3 bel lt3) (trodAll_mk0)))), rfl, bel.frame _, fun h => by cases h⟩

theorem numParts_holds : Rows.NumPartsSaid :=
  OpenClaim.holds_of_wide 7 Try.f7 rfl rfl rfl rfl rfl rfl rfl ⟨rfl, rfl, rfl, rfl, rfl⟩ rfl rfl rfl rfl rfl (by kernel_rfl) Try.func7 (by kernel_rfl)
    (of_decide_eq_true (by kernel_rfl)) (by unfold Func.isWrapper; first | (rw [if_pos (by decide +kernel)]; kernel_rfl) | (rw [if_neg (by decide +kernel)]; exact ⟨rfl, rfl⟩))
    (fun os started H enc _ => numParts_lifted os started H enc)
#print axioms numParts_holds
end Go.Proofs.Ytkeimndlcagbbaa
