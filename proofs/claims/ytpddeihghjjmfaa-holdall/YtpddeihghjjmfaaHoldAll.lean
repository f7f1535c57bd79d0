
/- For every hold and two numbers jointurelaw07.HoldAll returns true and writes nothing that was there: all that is delegated is kept or free, and as much less when it comes back. No condition. -/
import Derived.Test.YtpddeihghjjmfaaT7
set_option linter.unusedSimpArgs false
set_option linter.unusedVariables false
namespace Go.Proofs.Ytpddeihghjjmfaa
open Go.ChangeShapes Go.WideShapes Go.ChangeAt Go.RowKit

set_option maxRecDepth 100000 in
set_option maxHeartbeats 4000000 in
theorem holdAll_a {k0 k1 k2 k3 f0 f1 f2 f3 l0 l1 l2 l3 n0 n1 n2 n3 : Int} (h1 : Says 15 #[.agg #[.int .u64 k0, .int .u64 k1, .int .u64 k2, .int .u64 k3, .int .u64 f0, .int .u64 f1, .int .u64 f2, .int .u64 f3]] (.tuple #[.agg #[.int .u64 0, .int .u64 0, .int .u64 0, .int .u64 0], .bool false])) (h2 : Says 16 #[.agg #[.int .u64 0, .int .u64 0, .int .u64 0, .int .u64 0], .agg #[.int .u64 n0, .int .u64 n1, .int .u64 n2, .int .u64 n3]] (.tuple #[.agg #[.int .u64 n0, .int .u64 n1, .int .u64 n2, .int .u64 n3], .bool true])) (w : World) :
    Calls Try.prog 6 #[.agg #[.int .u64 k0, .int .u64 k1, .int .u64 k2, .int .u64 k3, .int .u64 f0, .int .u64 f1, .int .u64 f2, .int .u64 f3], .agg #[.int .u64 l0, .int .u64 l1, .int .u64 l2, .int .u64 l3], .agg #[.int .u64 n0, .int .u64 n1, .int .u64 n2, .int .u64 n3]] w fun e w' => e = .returned (.bool true) ∧ Below w.heap.size w w' := by
  have hpad := pads
  have heq := eq_num
  have hes := eq4_self
  go_enter Try.func6, Try.ntmps6
  go_wp2_with (first
    | (go_at_call 15; with_reducible refine (h1.at _).mono ?_; rintro e w' ⟨rfl, hb⟩; obtain ⟨m1, g1, d1, hm1, rfl⟩ := pad_of hb; clear hb; (try simp [pad_size] at hm1); have st1_w := sz3 (n := w.heap.size) (m := m1) (by omega))
    | (go_at_call 16; with_reducible refine (h2.at _).mono ?_; rintro e w' ⟨rfl, hb⟩; obtain ⟨m2, g2, d2, hm2, rfl⟩ := pad_of hb; clear hb; (try simp [pad_size] at hm2); have st2_w := sz3 (n := w.heap.size) (m := m2) (by omega); have st2_1 := sz1 (n := m1) (m := m2) (by omega))
    | (go_at_call 10; with_reducible refine (says_tracks.at _).mono ?_; rintro e w' ⟨rfl, hb⟩; obtain ⟨m3, g3, d3, hm3, rfl⟩ := pad_of hb; clear hb; (try simp [pad_size] at hm3); have st3_w := sz3 (n := w.heap.size) (m := m3) (by omega); have st3_1 := sz1 (n := m1) (m := m3) (by omega); have st3_2 := sz1 (n := m2) (m := m3) (by omega)))
  all_goals go_ret
  all_goals exact ⟨rfl, by (repeat (first | (with_reducible exact Below.refl _ _) | (with_reducible assumption) | (with_reducible apply bd) | (with_reducible apply ba) | (with_reducible refine bp ?_ (by first | omega | (simp [pad_size]; done) | (simp [pad_size]; omega)) _ _) | (with_reducible refine bs ?_ (by first | omega | (simp [pad_size]; done) | (simp [pad_size]; omega)) _) | (with_reducible refine bt ?_ (by assumption))))⟩

set_option maxRecDepth 100000 in
set_option maxHeartbeats 4000000 in
theorem holdAll_b {k0 k1 k2 k3 f0 f1 f2 f3 l0 l1 l2 l3 n0 n1 n2 n3 s0 s1 s2 s3 : Int} (h1 : Says 15 #[.agg #[.int .u64 k0, .int .u64 k1, .int .u64 k2, .int .u64 k3, .int .u64 f0, .int .u64 f1, .int .u64 f2, .int .u64 f3]] (.tuple #[.agg #[.int .u64 s0, .int .u64 s1, .int .u64 s2, .int .u64 s3], .bool true])) (h2 : Says 16 #[.agg #[.int .u64 s0, .int .u64 s1, .int .u64 s2, .int .u64 s3], .agg #[.int .u64 n0, .int .u64 n1, .int .u64 n2, .int .u64 n3]] (.tuple #[.agg #[.int .u64 0, .int .u64 0, .int .u64 0, .int .u64 0], .bool false])) (w : World) :
    Calls Try.prog 6 #[.agg #[.int .u64 k0, .int .u64 k1, .int .u64 k2, .int .u64 k3, .int .u64 f0, .int .u64 f1, .int .u64 f2, .int .u64 f3], .agg #[.int .u64 l0, .int .u64 l1, .int .u64 l2, .int .u64 l3], .agg #[.int .u64 n0, .int .u64 n1, .int .u64 n2, .int .u64 n3]] w fun e w' => e = .returned (.bool true) ∧ Below w.heap.size w w' := by
  have hpad := pads
  have heq := eq_num
  have hes := eq4_self
  go_enter Try.func6, Try.ntmps6
  go_wp2_with (first
    | (go_at_call 15; with_reducible refine (h1.at _).mono ?_; rintro e w' ⟨rfl, hb⟩; obtain ⟨m1, g1, d1, hm1, rfl⟩ := pad_of hb; clear hb; (try simp [pad_size] at hm1); have st1_w := sz3 (n := w.heap.size) (m := m1) (by omega))
    | (go_at_call 16; with_reducible refine (h2.at _).mono ?_; rintro e w' ⟨rfl, hb⟩; obtain ⟨m2, g2, d2, hm2, rfl⟩ := pad_of hb; clear hb; (try simp [pad_size] at hm2); have st2_w := sz3 (n := w.heap.size) (m := m2) (by omega); have st2_1 := sz1 (n := m1) (m := m2) (by omega))
    | (go_at_call 10; with_reducible refine (says_tracks.at _).mono ?_; rintro e w' ⟨rfl, hb⟩; obtain ⟨m3, g3, d3, hm3, rfl⟩ := pad_of hb; clear hb; (try simp [pad_size] at hm3); have st3_w := sz3 (n := w.heap.size) (m := m3) (by omega); have st3_1 := sz1 (n := m1) (m := m3) (by omega); have st3_2 := sz1 (n := m2) (m := m3) (by omega)))
  all_goals go_ret
  all_goals exact ⟨rfl, by (repeat (first | (with_reducible exact Below.refl _ _) | (with_reducible assumption) | (with_reducible apply bd) | (with_reducible apply ba) | (with_reducible refine bp ?_ (by first | omega | (simp [pad_size]; done) | (simp [pad_size]; omega)) _ _) | (with_reducible refine bs ?_ (by first | omega | (simp [pad_size]; done) | (simp [pad_size]; omega)) _) | (with_reducible refine bt ?_ (by assumption))))⟩

set_option maxRecDepth 100000 in
set_option maxHeartbeats 4000000 in
theorem holdAll_c {k0 k1 k2 k3 f0 f1 f2 f3 l0 l1 l2 l3 n0 n1 n2 n3 s0 s1 s2 s3 m0 m1 m2 m3 t0 t1 t2 t3 u0 u1 u2 u3 a0 a1 a2 a3 b0 b1 b2 b3 : Int} (h1 : Says 15 #[.agg #[.int .u64 k0, .int .u64 k1, .int .u64 k2, .int .u64 k3, .int .u64 f0, .int .u64 f1, .int .u64 f2, .int .u64 f3]] (.tuple #[.agg #[.int .u64 s0, .int .u64 s1, .int .u64 s2, .int .u64 s3], .bool true])) (h2 : Says 16 #[.agg #[.int .u64 s0, .int .u64 s1, .int .u64 s2, .int .u64 s3], .agg #[.int .u64 n0, .int .u64 n1, .int .u64 n2, .int .u64 n3]] (.tuple #[.agg #[.int .u64 m0, .int .u64 m1, .int .u64 m2, .int .u64 m3], .bool true])) (h3 : Says 8 #[.agg #[.int .u64 k0, .int .u64 k1, .int .u64 k2, .int .u64 k3, .int .u64 f0, .int .u64 f1, .int .u64 f2, .int .u64 f3], .agg #[.int .u64 l0, .int .u64 l1, .int .u64 l2, .int .u64 l3], .agg #[.int .u64 n0, .int .u64 n1, .int .u64 n2, .int .u64 n3]] (.tuple #[.agg #[.int .u64 t0, .int .u64 t1, .int .u64 t2, .int .u64 t3, .int .u64 u0, .int .u64 u1, .int .u64 u2, .int .u64 u3], .int .i64 0])) (h4 : Says 15 #[.agg #[.int .u64 t0, .int .u64 t1, .int .u64 t2, .int .u64 t3, .int .u64 u0, .int .u64 u1, .int .u64 u2, .int .u64 u3]] (.tuple #[.agg #[.int .u64 m0, .int .u64 m1, .int .u64 m2, .int .u64 m3], .bool true])) (h5 : Says 11 #[.agg #[.int .u64 t0, .int .u64 t1, .int .u64 t2, .int .u64 t3, .int .u64 u0, .int .u64 u1, .int .u64 u2, .int .u64 u3], .agg #[.int .u64 n0, .int .u64 n1, .int .u64 n2, .int .u64 n3]] (.agg #[.int .u64 a0, .int .u64 a1, .int .u64 a2, .int .u64 a3, .int .u64 b0, .int .u64 b1, .int .u64 b2, .int .u64 b3])) (h6 : Says 15 #[.agg #[.int .u64 a0, .int .u64 a1, .int .u64 a2, .int .u64 a3, .int .u64 b0, .int .u64 b1, .int .u64 b2, .int .u64 b3]] (.tuple #[.agg #[.int .u64 s0, .int .u64 s1, .int .u64 s2, .int .u64 s3], .bool true])) (w : World) :
    Calls Try.prog 6 #[.agg #[.int .u64 k0, .int .u64 k1, .int .u64 k2, .int .u64 k3, .int .u64 f0, .int .u64 f1, .int .u64 f2, .int .u64 f3], .agg #[.int .u64 l0, .int .u64 l1, .int .u64 l2, .int .u64 l3], .agg #[.int .u64 n0, .int .u64 n1, .int .u64 n2, .int .u64 n3]] w fun e w' => e = .returned (.bool true) ∧ Below w.heap.size w w' := by
  have hpad := pads
  have heq := eq_num
  have hes := eq4_self
  go_enter Try.func6, Try.ntmps6
  go_wp2_with (first
    | (go_at_call 15; with_reducible refine (h1.at _).mono ?_; rintro e w' ⟨rfl, hb⟩; obtain ⟨m1, g1, d1, hm1, rfl⟩ := pad_of hb; clear hb; (try simp [pad_size] at hm1); have st1_w := sz3 (n := w.heap.size) (m := m1) (by omega))
    | (go_at_call 16; with_reducible refine (h2.at _).mono ?_; rintro e w' ⟨rfl, hb⟩; obtain ⟨m2, g2, d2, hm2, rfl⟩ := pad_of hb; clear hb; (try simp [pad_size] at hm2); have st2_w := sz3 (n := w.heap.size) (m := m2) (by omega); have st2_1 := sz1 (n := m1) (m := m2) (by omega))
    | (go_at_call 8; with_reducible refine (h3.at _).mono ?_; rintro e w' ⟨rfl, hb⟩; obtain ⟨m3, g3, d3, hm3, rfl⟩ := pad_of hb; clear hb; (try simp [pad_size] at hm3); have st3_w := sz3 (n := w.heap.size) (m := m3) (by omega); have st3_1 := sz1 (n := m1) (m := m3) (by omega); have st3_2 := sz1 (n := m2) (m := m3) (by omega))
    | (go_at_call 15; with_reducible refine (h4.at _).mono ?_; rintro e w' ⟨rfl, hb⟩; obtain ⟨m4, g4, d4, hm4, rfl⟩ := pad_of hb; clear hb; (try simp [pad_size] at hm4); have st4_w := sz3 (n := w.heap.size) (m := m4) (by omega); have st4_1 := sz1 (n := m1) (m := m4) (by omega); have st4_2 := sz1 (n := m2) (m := m4) (by omega); have st4_3 := sz1 (n := m3) (m := m4) (by omega))
    | (go_at_call 11; with_reducible refine (h5.at _).mono ?_; rintro e w' ⟨rfl, hb⟩; obtain ⟨m5, g5, d5, hm5, rfl⟩ := pad_of hb; clear hb; (try simp [pad_size] at hm5); have st5_w := sz3 (n := w.heap.size) (m := m5) (by omega); have st5_1 := sz1 (n := m1) (m := m5) (by omega); have st5_2 := sz1 (n := m2) (m := m5) (by omega); have st5_3 := sz1 (n := m3) (m := m5) (by omega); have st5_4 := sz1 (n := m4) (m := m5) (by omega))
    | (go_at_call 15; with_reducible refine (h6.at _).mono ?_; rintro e w' ⟨rfl, hb⟩; obtain ⟨m6, g6, d6, hm6, rfl⟩ := pad_of (bt (bp (Below.refl _ _) (by first | omega | (simp [pad_size]; omega)) _ _) hb); clear hb; (try simp [pad_size] at hm6); have st6_w := sz3 (n := w.heap.size) (m := m6) (by omega); have st6_1 := sz1 (n := m1) (m := m6) (by omega); have st6_2 := sz1 (n := m2) (m := m6) (by omega); have st6_3 := sz1 (n := m3) (m := m6) (by omega); have st6_4 := sz1 (n := m4) (m := m6) (by omega))
    | (go_at_call 10; with_reducible refine (says_tracks.at _).mono ?_; rintro e w' ⟨rfl, hb⟩; obtain ⟨m7, g7, d7, hm7, rfl⟩ := pad_of hb; clear hb; (try simp [pad_size] at hm7); have st7_w := sz3 (n := w.heap.size) (m := m7) (by omega); have st7_1 := sz1 (n := m1) (m := m7) (by omega); have st7_2 := sz1 (n := m2) (m := m7) (by omega); have st7_3 := sz1 (n := m3) (m := m7) (by omega); have st7_4 := sz1 (n := m4) (m := m7) (by omega); have st7_6 := sz1 (n := m6) (m := m7) (by omega)))
  all_goals go_ret
  all_goals exact ⟨rfl, by (repeat (first | (with_reducible exact Below.refl _ _) | (with_reducible assumption) | (with_reducible apply bd) | (with_reducible apply ba) | (with_reducible refine bp ?_ (by first | omega | (simp [pad_size]; done) | (simp [pad_size]; omega)) _ _) | (with_reducible refine bs ?_ (by first | omega | (simp [pad_size]; done) | (simp [pad_size]; omega)) _) | (with_reducible refine bt ?_ (by assumption))))⟩

theorem holdAll_any (k0 k1 k2 k3 f0 f1 f2 f3 l0 l1 l2 l3 n0 n1 n2 n3 : Int) (hk : Lim k0 k1 k2 k3) (hf : Lim f0 f1 f2 f3) (hl : Lim l0 l1 l2 l3) (hn : Lim n0 n1 n2 n3) (w : World) :
    Calls Try.prog 6 #[.agg #[.int .u64 k0, .int .u64 k1, .int .u64 k2, .int .u64 k3, .int .u64 f0, .int .u64 f1, .int .u64 f2, .int .u64 f3], .agg #[.int .u64 l0, .int .u64 l1, .int .u64 l2, .int .u64 l3], .agg #[.int .u64 n0, .int .u64 n1, .int .u64 n2, .int .u64 n3]] w fun e w' => e = .returned (.bool true) ∧ Below w.heap.size w w' := by
  have k0' := val_lo hk
  have f0' := val_lo hf
  have n0' := val_lo hn
  have l0' := val_lo hl
  have k1' := val_hi hk
  have l1' := val_hi hl
  have f1' := val_hi hf
  have n1' := val_hi hn
  by_cases hA : val k0 k1 k2 k3 + val f0 f1 f2 f3 < 115792089237316195423570985008687907853269984665640564039457584007913129639936
  · obtain ⟨s0, s1, s2, s3, hs, es⟩ := limbs_of (n := val k0 k1 k2 k3 + val f0 f1 f2 f3) (by omega) hA
    by_cases hB : val s0 s1 s2 s3 + val n0 n1 n2 n3 < 115792089237316195423570985008687907853269984665640564039457584007913129639936
    · obtain ⟨m0, m1, m2, m3, hm, em⟩ := limbs_of (n := val s0 s1 s2 s3 + val n0 n1 n2 n3) (by omega) hB
      obtain ⟨o0, o1, o2, o3, ho, eo⟩ := rest_ex hl hk
      have ho0 := val_lo ho
      have ho1 := val_hi ho
      have hc2 : 0 ≤ leastI (val n0 n1 n2 n3) (val o0 o1 o2 o3) ∧ leastI (val n0 n1 n2 n3) (val o0 o1 o2 o3) ≤ val n0 n1 n2 n3 ∧ leastI (val n0 n1 n2 n3) (val o0 o1 o2 o3) ≤ val o0 o1 o2 o3 := by unfold leastI; split <;> omega
      obtain ⟨c0, c1, c2, c3, hc, ec⟩ := limbs_of (n := leastI (val n0 n1 n2 n3) (val o0 o1 o2 o3)) hc2.1 (by omega)
      obtain ⟨d0, d1, d2, d3, hd, ed⟩ := rest_ex hn hc
      rw [← ec] at hc2
      have ed2 : val d0 d1 d2 d3 = val n0 n1 n2 n3 - val c0 c1 c2 c3 := by rw [ed, restI_of_le hc2.2.1]
      obtain ⟨u0, u1, u2, u3, hu, eu⟩ := limbs_of (n := val f0 f1 f2 f3 + val d0 d1 d2 d3) (by omega) (by omega)
      obtain ⟨t0, t1, t2, t3, ht, et⟩ := limbs_of (n := val k0 k1 k2 k3 + val c0 c1 c2 c3) (by omega) (by omega)
      obtain ⟨q0, q1, q2, q3, hq, eq⟩ := rest_ex hn hu
      obtain ⟨a0, a1, a2, a3, ha, ea⟩ := rest_ex ht hq
      obtain ⟨b0, b1, b2, b3, hb, eb⟩ := rest_ex hu hn
      have hab : val s0 s1 s2 s3 = val a0 a1 a2 a3 + val b0 b1 b2 b3 := by
        by_cases h : val n0 n1 n2 n3 ≤ val u0 u1 u2 u3
        · rw [restI_of_ge h] at eq
          rw [restI_of_le h] at eb
          rw [restI_of_le (by omega)] at ea
          omega
        · rw [restI_of_le (by omega)] at eq
          rw [restI_of_ge (by omega)] at eb
          rw [restI_of_le (by omega)] at ea
          omega
      exact holdAll_c (says_sumH (says_addR hk hf hs es)) (says_addR hs hn hm em) (says_track (says_rest hl hk ho eo) (says_least hn ho hc ec) (says_rest hn hc hd ed) (says_add hf hd hu eu) (says_add hk hc ht et)) (says_sumH (says_addR ht hu hm (by omega))) (says_back (says_rest hn hu hq eq) (says_rest ht hq ha ea) (says_rest hu hn hb eb)) (says_sumH (says_addR ha hb hs hab)) w
    · exact holdAll_b (says_sumH (says_addR hk hf hs es)) (says_addR_over hs hn (by omega)) w
  · exact holdAll_a (says_sumH (says_addR_over hk hf (by omega))) (says_addR lim_zero hn hn (by rw [val0]; omega)) w

theorem holdAll_own : ownKnob Try.prog.godebug = none := by kernel_rfl
theorem holdAll_laid : laidOutB Try.prog = true := by kernel_rfl

set_option maxRecDepth 100000 in
theorem holdAll_lifted (os : Os) (started : os.Started) (H : Type) (enc : TypeId × Value → H) :
    ReturnsInHanded {} Try.checked os 6 .any (Rows.holdAllSpec.pre6 enc Try.prog Try.f6 Rows.holdAllRow.domain false) (Rows.holdAllSpec.post enc Try.prog Try.f6 false true false false) := by
  refine returnsInHanded_of_change (C := Try.checked) holdAll_own started (by kernel_rfl) Try.func6
    (ChangeSpec.witness6 (enc := enc) (C := Try.checked) false ⟨#[], #[.agg #[.int .u64 0, .int .u64 0, .int .u64 0, .int .u64 0, .int .u64 0, .int .u64 0, .int .u64 0, .int .u64 0], .agg #[.int .u64 0, .int .u64 0, .int .u64 0, .int .u64 0], .agg #[.int .u64 0, .int .u64 0, .int .u64 0, .int .u64 0]], []⟩ 8 (by kernel_rfl) (by kernel_rfl) (by kernel_rfl) (by kernel_rfl)) ?_
  intro W base args ds gs before hval0 hW hcnd _
  have hval : ∀ (j : Nat) t v, Try.f6.params[j]? = some t → args[j]? = some v → Value.okWide Try.prog W .any base t v := hval0
  have hW' := hW
  obtain ⟨p, q, hA0, hV, rfl, hfz, hnd⟩ := hW
  have hA : DataW.TrodAll enc Try.prog W 0 (fun _ => true) true Try.f6.params.toList args.toList ds p := hA0
  rw [Try.params6] at hA hval
  obtain ⟨v0, vs0, d0, ds0, p0, q0, hargs0, rfl, rfl, h0, r0⟩ := trodAll_cons hA
  obtain ⟨v1, vs1, d1, ds1, p1, q1, hargs1, rfl, rfl, h1, r1⟩ := trodAll_cons r0
  obtain ⟨v2, vs2, d2, ds2, p2, q2, hargs2, rfl, rfl, h2, r2⟩ := trodAll_cons r1
  obtain ⟨rfl, rfl, rfl⟩ := trodAll_nil r2
  obtain rfl : args = #[v0, v1, v2] := by cases args; simp_all
  obtain ⟨rfl, rfl⟩ := trodVars_none hV
  have k0 := h0
  have lt0 : ∀ x ∈ p0, x.block < W.heap.size := by obtain ⟨m, hm⟩ := k0; exact DataW.trod_lt m _ _ _ hm
  have k1 := h1
  have lt1 : ∀ x ∈ p1, x.block < W.heap.size := by obtain ⟨m, hm⟩ := k1; exact DataW.trod_lt m _ _ _ hm
  have k2 := h2
  have lt2 : ∀ x ∈ p2, x.block < W.heap.size := by obtain ⟨m, hm⟩ := k2; exact DataW.trod_lt m _ _ _ hm
  obtain ⟨aa0, aa1, aa2, aa3, bb0, bb1, bb2, bb3, rfl, hla, hlb⟩ := hold_in (hval 0 26 v0 rfl rfl) h0
  obtain ⟨x0, x1, x2, x3, rfl, hx⟩ := num_in (hval 1 24 v1 rfl rfl) h1
  obtain ⟨y0, y1, y2, y3, rfl, hy⟩ := num_in (hval 2 24 v2 rfl rfl) h2
  clear hA0 hval0
  have walk : Calls Try.prog 6 _ W fun e w' => e = .returned (.bool true) ∧ Below W.heap.size W w' := holdAll_any aa0 aa1 aa2 aa3 bb0 bb1 bb2 bb3 x0 x1 x2 x3 y0 y1 y2 y3 hla hlb hx hy W
  refine walk.mono fun e W' ⟨he, bel⟩ => ?_
  subst he
  exact ⟨_, rfl, _, _, _, [], _, [], hW', trodAll_mk1 (shut_bool Try.underlying4 _), trodAll_cons_mk (Below.trod holdAll_laid (by kernel_rfl) (of_decide_eq_true (by kernel_rfl)) k0 bel lt0) (trodAll_cons_mk (Below.trod holdAll_laid (by kernel_rfl) (of_decide_eq_true (by kernel_rfl)) k1 bel lt1) (trodAll_cons_mk (Below.trod holdAll_laid (by kernel_rfl) (of_decide_eq_true (by kernel_rfl)) k2 bel lt2) (trodAll_mk0))), rfl, bel.frame _, fun h => by cases h⟩

theorem holdAll_holds : Rows.HoldAllSaid :=
  OpenClaim.holds_of_wide 6 Try.f6 rfl rfl rfl rfl rfl rfl rfl ⟨rfl, rfl, rfl, rfl, rfl⟩ rfl rfl rfl rfl rfl (by kernel_rfl) Try.func6 (by kernel_rfl)
    (of_decide_eq_true (by kernel_rfl)) (by unfold Func.isWrapper; first | (rw [if_pos (by decide +kernel)]; kernel_rfl) | (rw [if_neg (by decide +kernel)]; exact ⟨rfl, rfl⟩))
    (fun os started H enc _ => holdAll_lifted os started H enc)
#print axioms holdAll_holds
end Go.Proofs.Ytpddeihghjjmfaa
