
/- For every two numbers and every word jointurelaw03.GaugeRises returns true and writes nothing that was there: a greater number has no lesser float; a small one has just itself. No condition. -/
import Derived.Test.YtjildnmcjggfaaaGM
import Derived.Test.YtjildnmcjggfaaaGN
set_option linter.unusedSimpArgs false
set_option linter.unusedVariables false
namespace Go.Proofs.Ytjildnmcjggfaaa
open Go.ChangeShapes Go.WideShapes Go.ChangeAt Go.RowKit

theorem order_le {a b : Nat} (ha : a < 9218868437227405312) (hb : b < 9218868437227405312) (h : a ≤ b) : (FloatKind.f64.format.order a b == some Ordering.gt) = false := by
  rw [order_low (by omega) (by omega)]
  by_cases c : a < b
  · rw [if_pos c]; rfl
  · rw [if_neg c, if_pos (by omega)]; rfl
theorem order_ge {a b : Nat} (ha : a < 9218868437227405312) (hb : b < 9218868437227405312) (h : b ≤ a) : (FloatKind.f64.format.order a b == some Ordering.lt) = false := by
  rw [order_low (by omega) (by omega), if_neg (by omega)]
  split <;> rfl
theorem fI_mono {a b : Int} (h : a ≤ b) : fI a ≤ fI b := fN_mono (by omega)
set_option maxRecDepth 100000 in
set_option maxHeartbeats 4000000 in
theorem gaugeRises_lt {x0 x1 x2 x3 y0 y1 y2 y3 s : Int} {a b n : Nat} (h1 : ∀ w, Calls Try.prog 12 #[.agg #[.int .u64 x0, .int .u64 x1, .int .u64 x2, .int .u64 x3]] w fun e w' => e = .returned (.float .f64 a) ∧ Below w.heap.size w w') (h2 : ∀ w, Calls Try.prog 12 #[.agg #[.int .u64 y0, .int .u64 y1, .int .u64 y2, .int .u64 y3]] w fun e w' => e = .returned (.float .f64 b) ∧ Below w.heap.size w w') (h3 : Says 14 #[.agg #[.int .u64 x0, .int .u64 x1, .int .u64 x2, .int .u64 x3], .agg #[.int .u64 y0, .int .u64 y1, .int .u64 y2, .int .u64 y3]] (.int .i64 (-1))) (hg : (FloatKind.f64.format.order a b == some Ordering.gt) = false) (hn : s.tmod 9007199254740992 = (n : Int)) (h4 : ∀ w, Calls Try.prog 12 #[.agg #[.int .u64 (n : Int), .int .u64 0, .int .u64 0, .int .u64 0]] w fun e w' => e = .returned (.float .f64 (fN n)) ∧ Below w.heap.size w w') (hv : ∀ w : World, (convert 26 22 (.float .f64 (fN n))).run Try.prog w = .ok (.int .u64 (n : Int)) w) (w : World) : Calls Try.prog 4 #[.agg #[.int .u64 x0, .int .u64 x1, .int .u64 x2, .int .u64 x3], .agg #[.int .u64 y0, .int .u64 y1, .int .u64 y2, .int .u64 y3], .int .u64 s] w fun e w' => e = .returned (.bool true) ∧ Below w.heap.size w w' := by
  have hpad := pads
  generalize fN n = f at *
  go_enter Try.func4, Try.ntmps4
  go_upto_region 1 with fail
  go_region_held2 (fun W => W.cell? ⟨w.heap.size, 0, none⟩ = some (.int .u64 x0) ∧ W.cell? ⟨w.heap.size, 1, none⟩ = some (.int .u64 x1) ∧ W.cell? ⟨w.heap.size, 2, none⟩ = some (.int .u64 x2) ∧ W.cell? ⟨w.heap.size, 3, none⟩ = some (.int .u64 x3) ∧ W.cell? ⟨w.heap.size + 1, 0, none⟩ = some (.int .u64 y0) ∧ W.cell? ⟨w.heap.size + 1, 1, none⟩ = some (.int .u64 y1) ∧ W.cell? ⟨w.heap.size + 1, 2, none⟩ = some (.int .u64 y2) ∧ W.cell? ⟨w.heap.size + 1, 3, none⟩ = some (.int .u64 y3)) (go_simp) (first
    | (go_at_call 12; with_reducible refine (h1 _).mono ?_; rintro e w' ⟨rfl, hb⟩; obtain ⟨m1, g1, d1, hm1, rfl⟩ := pad_of hb; clear hb; (try simp [pad_size] at hm1); have st1_w := sz2 (n := w.heap.size) (m := m1) (by omega))
    | (go_at_call 12; with_reducible refine (h2 _).mono ?_; rintro e w' ⟨rfl, hb⟩; obtain ⟨m2, g2, d2, hm2, rfl⟩ := pad_of hb; clear hb; (try simp [pad_size] at hm2); have st2_w := sz2 (n := w.heap.size) (m := m2) (by omega)))
  all_goals
    go_wp2_with (first
      | (go_at_call 14; with_reducible refine (h3.at _).mono ?_; rintro e w' ⟨rfl, hb⟩; obtain ⟨m3, g3, d3, hm3, rfl⟩ := pad_of hb; clear hb; (try simp [pad_size] at hm3); have st3_w := sz2 (n := w.heap.size) (m := m3) (by omega))
      | (go_at_call 11; with_reducible refine (says_turns.at _).mono ?_; rintro e w' ⟨rfl, hb⟩; obtain ⟨m4, g4, d4, hm4, rfl⟩ := pad_of hb; clear hb; (try simp [pad_size] at hm4); have st4_w := sz2 (n := w.heap.size) (m := m4) (by omega))
      | (go_at_call 12; with_reducible refine (h4 _).mono ?_; rintro e w' ⟨rfl, hb⟩; obtain ⟨m5, g5, d5, hm5, rfl⟩ := pad_of hb; clear hb; (try simp [pad_size] at hm5); have st5_w := sz2 (n := w.heap.size) (m := m5) (by omega)))
    all_goals go_ret
    all_goals exact ⟨rfl, by (repeat (first | (with_reducible exact Below.refl _ _) | (with_reducible assumption) | (with_reducible apply bd) | (with_reducible apply ba) | (with_reducible refine bp ?_ (by first | omega | (simp [pad_size]; done) | (simp [pad_size]; omega)) _ _) | (with_reducible refine bs ?_ (by first | omega | (simp [pad_size]; done) | (simp [pad_size]; omega)) _) | (with_reducible refine bt ?_ (by assumption))))⟩
set_option maxRecDepth 100000 in
set_option maxHeartbeats 4000000 in
theorem gaugeRises_eq {x0 x1 x2 x3 y0 y1 y2 y3 s : Int} {a b n : Nat} (h1 : ∀ w, Calls Try.prog 12 #[.agg #[.int .u64 x0, .int .u64 x1, .int .u64 x2, .int .u64 x3]] w fun e w' => e = .returned (.float .f64 a) ∧ Below w.heap.size w w') (h2 : ∀ w, Calls Try.prog 12 #[.agg #[.int .u64 y0, .int .u64 y1, .int .u64 y2, .int .u64 y3]] w fun e w' => e = .returned (.float .f64 b) ∧ Below w.heap.size w w') (h3 : Says 14 #[.agg #[.int .u64 x0, .int .u64 x1, .int .u64 x2, .int .u64 x3], .agg #[.int .u64 y0, .int .u64 y1, .int .u64 y2, .int .u64 y3]] (.int .i64 (0))) (hg : (FloatKind.f64.format.order a b == some Ordering.gt) = false) (hl : (FloatKind.f64.format.order a b == some Ordering.lt) = false) (hn : s.tmod 9007199254740992 = (n : Int)) (h4 : ∀ w, Calls Try.prog 12 #[.agg #[.int .u64 (n : Int), .int .u64 0, .int .u64 0, .int .u64 0]] w fun e w' => e = .returned (.float .f64 (fN n)) ∧ Below w.heap.size w w') (hv : ∀ w : World, (convert 26 22 (.float .f64 (fN n))).run Try.prog w = .ok (.int .u64 (n : Int)) w) (w : World) : Calls Try.prog 4 #[.agg #[.int .u64 x0, .int .u64 x1, .int .u64 x2, .int .u64 x3], .agg #[.int .u64 y0, .int .u64 y1, .int .u64 y2, .int .u64 y3], .int .u64 s] w fun e w' => e = .returned (.bool true) ∧ Below w.heap.size w w' := by
  have hpad := pads
  generalize fN n = f at *
  go_enter Try.func4, Try.ntmps4
  go_upto_region 1 with fail
  go_region_held2 (fun W => W.cell? ⟨w.heap.size, 0, none⟩ = some (.int .u64 x0) ∧ W.cell? ⟨w.heap.size, 1, none⟩ = some (.int .u64 x1) ∧ W.cell? ⟨w.heap.size, 2, none⟩ = some (.int .u64 x2) ∧ W.cell? ⟨w.heap.size, 3, none⟩ = some (.int .u64 x3) ∧ W.cell? ⟨w.heap.size + 1, 0, none⟩ = some (.int .u64 y0) ∧ W.cell? ⟨w.heap.size + 1, 1, none⟩ = some (.int .u64 y1) ∧ W.cell? ⟨w.heap.size + 1, 2, none⟩ = some (.int .u64 y2) ∧ W.cell? ⟨w.heap.size + 1, 3, none⟩ = some (.int .u64 y3)) (go_simp) (first
    | (go_at_call 12; with_reducible refine (h1 _).mono ?_; rintro e w' ⟨rfl, hb⟩; obtain ⟨m1, g1, d1, hm1, rfl⟩ := pad_of hb; clear hb; (try simp [pad_size] at hm1); have st1_w := sz2 (n := w.heap.size) (m := m1) (by omega))
    | (go_at_call 12; with_reducible refine (h2 _).mono ?_; rintro e w' ⟨rfl, hb⟩; obtain ⟨m2, g2, d2, hm2, rfl⟩ := pad_of hb; clear hb; (try simp [pad_size] at hm2); have st2_w := sz2 (n := w.heap.size) (m := m2) (by omega)))
  all_goals
    go_wp2_with (first
      | (go_at_call 14; with_reducible refine (h3.at _).mono ?_; rintro e w' ⟨rfl, hb⟩; obtain ⟨m3, g3, d3, hm3, rfl⟩ := pad_of hb; clear hb; (try simp [pad_size] at hm3); have st3_w := sz2 (n := w.heap.size) (m := m3) (by omega))
      | (go_at_call 11; with_reducible refine (says_turns.at _).mono ?_; rintro e w' ⟨rfl, hb⟩; obtain ⟨m4, g4, d4, hm4, rfl⟩ := pad_of hb; clear hb; (try simp [pad_size] at hm4); have st4_w := sz2 (n := w.heap.size) (m := m4) (by omega))
      | (go_at_call 12; with_reducible refine (h4 _).mono ?_; rintro e w' ⟨rfl, hb⟩; obtain ⟨m5, g5, d5, hm5, rfl⟩ := pad_of hb; clear hb; (try simp [pad_size] at hm5); have st5_w := sz2 (n := w.heap.size) (m := m5) (by omega)))
    all_goals go_ret
    all_goals exact ⟨rfl, by (repeat (first | (with_reducible exact Below.refl _ _) | (with_reducible assumption) | (with_reducible apply bd) | (with_reducible apply ba) | (with_reducible refine bp ?_ (by first | omega | (simp [pad_size]; done) | (simp [pad_size]; omega)) _ _) | (with_reducible refine bs ?_ (by first | omega | (simp [pad_size]; done) | (simp [pad_size]; omega)) _) | (with_reducible refine bt ?_ (by assumption))))⟩
set_option maxRecDepth 100000 in
set_option maxHeartbeats 4000000 in
theorem gaugeRises_gt {x0 x1 x2 x3 y0 y1 y2 y3 s : Int} {a b n : Nat} (h1 : ∀ w, Calls Try.prog 12 #[.agg #[.int .u64 x0, .int .u64 x1, .int .u64 x2, .int .u64 x3]] w fun e w' => e = .returned (.float .f64 a) ∧ Below w.heap.size w w') (h2 : ∀ w, Calls Try.prog 12 #[.agg #[.int .u64 y0, .int .u64 y1, .int .u64 y2, .int .u64 y3]] w fun e w' => e = .returned (.float .f64 b) ∧ Below w.heap.size w w') (h3 : Says 14 #[.agg #[.int .u64 x0, .int .u64 x1, .int .u64 x2, .int .u64 x3], .agg #[.int .u64 y0, .int .u64 y1, .int .u64 y2, .int .u64 y3]] (.int .i64 (1))) (hl : (FloatKind.f64.format.order a b == some Ordering.lt) = false) (hn : s.tmod 9007199254740992 = (n : Int)) (h4 : ∀ w, Calls Try.prog 12 #[.agg #[.int .u64 (n : Int), .int .u64 0, .int .u64 0, .int .u64 0]] w fun e w' => e = .returned (.float .f64 (fN n)) ∧ Below w.heap.size w w') (hv : ∀ w : World, (convert 26 22 (.float .f64 (fN n))).run Try.prog w = .ok (.int .u64 (n : Int)) w) (w : World) : Calls Try.prog 4 #[.agg #[.int .u64 x0, .int .u64 x1, .int .u64 x2, .int .u64 x3], .agg #[.int .u64 y0, .int .u64 y1, .int .u64 y2, .int .u64 y3], .int .u64 s] w fun e w' => e = .returned (.bool true) ∧ Below w.heap.size w w' := by
  have hpad := pads
  generalize fN n = f at *
  go_enter Try.func4, Try.ntmps4
  go_upto_region 1 with fail
  go_region_held2 (fun W => W.cell? ⟨w.heap.size, 0, none⟩ = some (.int .u64 x0) ∧ W.cell? ⟨w.heap.size, 1, none⟩ = some (.int .u64 x1) ∧ W.cell? ⟨w.heap.size, 2, none⟩ = some (.int .u64 x2) ∧ W.cell? ⟨w.heap.size, 3, none⟩ = some (.int .u64 x3) ∧ W.cell? ⟨w.heap.size + 1, 0, none⟩ = some (.int .u64 y0) ∧ W.cell? ⟨w.heap.size + 1, 1, none⟩ = some (.int .u64 y1) ∧ W.cell? ⟨w.heap.size + 1, 2, none⟩ = some (.int .u64 y2) ∧ W.cell? ⟨w.heap.size + 1, 3, none⟩ = some (.int .u64 y3)) (go_simp) (first
    | (go_at_call 12; with_reducible refine (h1 _).mono ?_; rintro e w' ⟨rfl, hb⟩; obtain ⟨m1, g1, d1, hm1, rfl⟩ := pad_of hb; clear hb; (try simp [pad_size] at hm1); have st1_w := sz2 (n := w.heap.size) (m := m1) (by omega))
    | (go_at_call 12; with_reducible refine (h2 _).mono ?_; rintro e w' ⟨rfl, hb⟩; obtain ⟨m2, g2, d2, hm2, rfl⟩ := pad_of hb; clear hb; (try simp [pad_size] at hm2); have st2_w := sz2 (n := w.heap.size) (m := m2) (by omega)))
  all_goals
    go_wp2_with (first
      | (go_at_call 14; with_reducible refine (h3.at _).mono ?_; rintro e w' ⟨rfl, hb⟩; obtain ⟨m3, g3, d3, hm3, rfl⟩ := pad_of hb; clear hb; (try simp [pad_size] at hm3); have st3_w := sz2 (n := w.heap.size) (m := m3) (by omega))
      | (go_at_call 11; with_reducible refine (says_turns.at _).mono ?_; rintro e w' ⟨rfl, hb⟩; obtain ⟨m4, g4, d4, hm4, rfl⟩ := pad_of hb; clear hb; (try simp [pad_size] at hm4); have st4_w := sz2 (n := w.heap.size) (m := m4) (by omega))
      | (go_at_call 12; with_reducible refine (h4 _).mono ?_; rintro e w' ⟨rfl, hb⟩; obtain ⟨m5, g5, d5, hm5, rfl⟩ := pad_of hb; clear hb; (try simp [pad_size] at hm5); have st5_w := sz2 (n := w.heap.size) (m := m5) (by omega)))
    all_goals go_ret
    all_goals exact ⟨rfl, by (repeat (first | (with_reducible exact Below.refl _ _) | (with_reducible assumption) | (with_reducible apply bd) | (with_reducible apply ba) | (with_reducible refine bp ?_ (by first | omega | (simp [pad_size]; done) | (simp [pad_size]; omega)) _ _) | (with_reducible refine bs ?_ (by first | omega | (simp [pad_size]; done) | (simp [pad_size]; omega)) _) | (with_reducible refine bt ?_ (by assumption))))⟩
theorem gaugeRises_any (x0 x1 x2 x3 y0 y1 y2 y3 s : Int) (hx : Lim x0 x1 x2 x3) (hy : Lim y0 y1 y2 y3) (hs : 0 ≤ s ∧ s < 18446744073709551616) (w : World) : Calls Try.prog 4 #[.agg #[.int .u64 x0, .int .u64 x1, .int .u64 x2, .int .u64 x3], .agg #[.int .u64 y0, .int .u64 y1, .int .u64 y2, .int .u64 y3], .int .u64 s] w fun e w' => e = .returned (.bool true) ∧ Below w.heap.size w w' := by
  obtain ⟨n, hn⟩ : ∃ n : Nat, s.tmod 9007199254740992 = (n : Int) := ⟨(s.tmod 9007199254740992).toNat, by rw [Int.tmod_eq_emod_of_nonneg hs.1]; omega⟩
  have hnl : n < 9007199254740992 := by rw [Int.tmod_eq_emod_of_nonneg hs.1] at hn; omega
  have h4 : ∀ w, Calls Try.prog 12 #[.agg #[.int .u64 (n : Int), .int .u64 0, .int .u64 0, .int .u64 0]] w fun e w' => e = .returned (.float .f64 (fN n)) ∧ Below w.heap.size w w' := by
    intro w
    have h := float_any (x0 := (n : Int)) (x1 := 0) (x2 := 0) (x3 := 0) (by unfold Lim; omega) w
    rw [val_of, show fI (n : Int) = fN n by unfold fI; rw [Int.toNat_natCast]] at h
    exact h
  have hv : ∀ w : World, (convert 26 22 (.float .f64 (fN n))).run Try.prog w = .ok (.int .u64 (n : Int)) w := fun w => run_convert_float_int w 26 22 .f64 .u64 (fN n) (n : Int) rfl rfl (by
    unfold floatToIntVal
    rw [show (FloatKind.f64.decode (fN n)).toInt .zero = some (n : Int) from toInt_fN hnl]
    show (if IntKind.u64.min ≤ (n : Int) ∧ (n : Int) ≤ IntKind.u64.max then some (n : Int) else none) = _
    rw [if_pos (by constructor; (show (0 : Int) ≤ _; omega); (show (n : Int) ≤ 18446744073709551615; omega))])
  have fa := fI_fin hx
  have fb := fI_fin hy
  rcases Int.lt_trichotomy (val x0 x1 x2 x3) (val y0 y1 y2 y3) with h | h | h
  · exact gaugeRises_lt (float_any hx) (float_any hy) (says_cmpR hx hy (cmp_lt h)) (order_le fa fb (fI_mono (by omega))) hn h4 hv w
  · exact gaugeRises_eq (float_any hx) (float_any hy) (says_cmpR hx hy (by rw [h, cmp_same])) (order_le fa fb (fI_mono (by omega))) (order_ge fa fb (fI_mono (by omega))) hn h4 hv w
  · exact gaugeRises_gt (float_any hx) (float_any hy) (says_cmpR hx hy (cmp_gt h)) (order_ge fa fb (fI_mono (by omega))) hn h4 hv w

theorem gaugeRises_own : ownKnob Try.prog.godebug = none := by kernel_rfl
theorem gaugeRises_laid : laidOutB Try.prog = true := by kernel_rfl

set_option maxRecDepth 100000 in
theorem gaugeRises_lifted (os : Os) (started : os.Started) (H : Type) (enc : TypeId × Value → H) :
    ReturnsInHanded {} Try.checked os 4 .any (Rows.gaugeRisesSpec.pre6 enc Try.prog Try.f4 Rows.gaugeRisesRow.domain false) (Rows.gaugeRisesSpec.post enc Try.prog Try.f4 false true false false) := by
  refine returnsInHanded_of_change (C := Try.checked) gaugeRises_own started (by kernel_rfl) Try.func4
    (ChangeSpec.witness6 (enc := enc) (C := Try.checked) false ⟨#[], #[.agg #[.int .u64 0, .int .u64 0, .int .u64 0, .int .u64 0], .agg #[.int .u64 0, .int .u64 0, .int .u64 0, .int .u64 0], .int .u64 0], []⟩ 8 (by kernel_rfl) (by kernel_rfl) (by kernel_rfl) (by kernel_rfl)) ?_
  intro W base args ds gs before hval0 hW hcnd _
  have hval : ∀ (j : Nat) t v, Try.f4.params[j]? = some t → args[j]? = some v → Value.okWide Try.prog W .any base t v := hval0
  have hW' := hW
  obtain ⟨p, q, hA0, hV, rfl, hfz, hnd⟩ := hW
  have hA : DataW.TrodAll enc Try.prog W 0 (fun _ => true) true Try.f4.params.toList args.toList ds p := hA0
  rw [Try.params4] at hA hval
  obtain ⟨v0, vs0, d0, ds0, p0, q0, hargs0, rfl, rfl, h0, r0⟩ := trodAll_cons hA
  obtain ⟨v1, vs1, d1, ds1, p1, q1, hargs1, rfl, rfl, h1, r1⟩ := trodAll_cons r0
  obtain ⟨v2, vs2, d2, ds2, p2, q2, hargs2, rfl, rfl, h2, r2⟩ := trodAll_cons r1
  obtain ⟨rfl, rfl, rfl⟩ := trodAll_nil r2
  obtain rfl : args = #[v0, v1, v2] := by cases args; simp_all
  obtain ⟨rfl, rfl⟩ := trodVars_none hV
  have k0 := h0
  have lt0 : ∀ x ∈ p0, x.block < W.heap.size := by obtain ⟨m, hm⟩ := k0; exact DataW.trod_lt m _ _ _ hm
  have k1 := h1
  have lt1 : ∀ x ∈ p1, x.block < W.heap.size := by obtain ⟨m, hm⟩ := k1; exact DataW.trod_lt m _ _ _ hm
  have k2 := h2
  have lt2 : ∀ x ∈ p2, x.block < W.heap.size := by obtain ⟨m, hm⟩ := k2; exact DataW.trod_lt m _ _ _ hm
  obtain ⟨x0, x1, x2, x3, rfl, hx⟩ := num_in (hval 0 24 v0 rfl rfl) h0
  obtain ⟨y0, y1, y2, y3, rfl, hy⟩ := num_in (hval 1 24 v1 rfl rfl) h1
  obtain ⟨n2, rfl⟩ := okWide_int Try.underlying22 (hval 2 22 v2 rfl rfl)
  obtain ⟨fuel2, hf2⟩ := h2
  simp only [Value.cells] at hf2
  clear hA0 hval0
  have walk : Calls Try.prog 4 _ W fun e w' => e = .returned (.bool true) ∧ Below W.heap.size W w' := gaugeRises_any x0 x1 x2 x3 y0 y1 y2 y3 n2 hx hy (u64_in hf2) W
  refine walk.mono fun e W' ⟨he, bel⟩ => ?_
  subst he
  exact ⟨_, rfl, _, _, _, [], _, [], hW', trodAll_mk1 (shut_bool Try.underlying4 _), trodAll_cons_mk (Below.trod gaugeRises_laid (by kernel_rfl) (of_decide_eq_true (by kernel_rfl)) k0 bel lt0) (trodAll_cons_mk (Below.trod gaugeRises_laid (by kernel_rfl) (of_decide_eq_true (by kernel_rfl)) k1 bel lt1) (trodAll_cons_mk (Below.trod gaugeRises_laid (by kernel_rfl) (of_decide_eq_true (by kernel_rfl)) k2 bel lt2) (trodAll_mk0))), rfl, bel.frame _, fun h => by cases h⟩

theorem gaugeRises_holds : Rows.GaugeRisesSaid :=
  OpenClaim.holds_of_wide 4 Try.f4 rfl rfl rfl rfl rfl rfl rfl ⟨rfl, rfl, rfl, rfl, rfl⟩ rfl rfl rfl rfl rfl (by kernel_rfl) Try.func4 (by kernel_rfl)
    (of_decide_eq_true (by kernel_rfl)) (by unfold Func.isWrapper; first | (rw [if_pos (by decide +kernel)]; kernel_rfl) | (rw [if_neg (by decide +kernel)]; exact ⟨rfl, rfl⟩))
    (fun os started H enc _ => gaugeRises_lifted os started H enc)
#print axioms gaugeRises_holds
end Go.Proofs.Ytjildnmcjggfaaa
