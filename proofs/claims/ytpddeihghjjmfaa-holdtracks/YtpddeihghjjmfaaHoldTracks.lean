
/- For every hold and two numbers jointurelaw07.HoldTracks returns true and writes nothing that was there: as much is kept as is locked and not kept yet, the rest is free, or it is too much. No condition. -/
import Derived.Test.YtpddeihghjjmfaaT7
set_option linter.unusedSimpArgs false
set_option linter.unusedVariables false
namespace Go.Proofs.Ytpddeihghjjmfaa
open Go.ChangeShapes Go.WideShapes Go.ChangeAt Go.RowKit

set_option maxRecDepth 100000 in
set_option maxHeartbeats 4000000 in
theorem holdTracks_ok {k0 k1 k2 k3 f0 f1 f2 f3 l0 l1 l2 l3 n0 n1 n2 n3 a0 a1 a2 a3 b0 b1 b2 b3 : Int} (hS : Says 8 #[.agg #[.int .u64 k0, .int .u64 k1, .int .u64 k2, .int .u64 k3, .int .u64 f0, .int .u64 f1, .int .u64 f2, .int .u64 f3], .agg #[.int .u64 l0, .int .u64 l1, .int .u64 l2, .int .u64 l3], .agg #[.int .u64 n0, .int .u64 n1, .int .u64 n2, .int .u64 n3]] (.tuple #[.agg #[.int .u64 a0, .int .u64 a1, .int .u64 a2, .int .u64 a3, .int .u64 b0, .int .u64 b1, .int .u64 b2, .int .u64 b3], .int .i64 0])) (hR : Says 9 #[.agg #[.int .u64 k0, .int .u64 k1, .int .u64 k2, .int .u64 k3, .int .u64 f0, .int .u64 f1, .int .u64 f2, .int .u64 f3], .agg #[.int .u64 l0, .int .u64 l1, .int .u64 l2, .int .u64 l3], .agg #[.int .u64 n0, .int .u64 n1, .int .u64 n2, .int .u64 n3]] (.tuple #[.agg #[.int .u64 a0, .int .u64 a1, .int .u64 a2, .int .u64 a3, .int .u64 b0, .int .u64 b1, .int .u64 b2, .int .u64 b3], .bool true])) (w : World) :
    Calls Try.prog 3 #[.agg #[.int .u64 k0, .int .u64 k1, .int .u64 k2, .int .u64 k3, .int .u64 f0, .int .u64 f1, .int .u64 f2, .int .u64 f3], .agg #[.int .u64 l0, .int .u64 l1, .int .u64 l2, .int .u64 l3], .agg #[.int .u64 n0, .int .u64 n1, .int .u64 n2, .int .u64 n3]] w fun e w' => e = .returned (.bool true) ∧ Below w.heap.size w w' := by
  have hpad := pads
  have heh := eq_hold
  have he8 := eq8_self
  go_enter Try.func3, Try.ntmps3
  go_wp2_with (first
    | (go_at_call 8; with_reducible refine (hS.at _).mono ?_; rintro e w' ⟨rfl, hb⟩; obtain ⟨m1, g1, d1, hm1, rfl⟩ := pad_of hb; clear hb; (try simp [pad_size] at hm1); have st1_w := sz3 (n := w.heap.size) (m := m1) (by omega))
    | (go_at_call 9; with_reducible refine (hR.at _).mono ?_; rintro e w' ⟨rfl, hb⟩; obtain ⟨m2, g2, d2, hm2, rfl⟩ := pad_of hb; clear hb; (try simp [pad_size] at hm2); have st2_w := sz3 (n := w.heap.size) (m := m2) (by omega); have st2_1 := sz1 (n := m1) (m := m2) (by omega))
    | (go_at_call 10; with_reducible refine (says_tracks.at _).mono ?_; rintro e w' ⟨rfl, hb⟩; obtain ⟨m3, g3, d3, hm3, rfl⟩ := pad_of hb; clear hb; (try simp [pad_size] at hm3); have st3_w := sz3 (n := w.heap.size) (m := m3) (by omega); have st3_1 := sz1 (n := m1) (m := m3) (by omega); have st3_2 := sz1 (n := m2) (m := m3) (by omega)))
  all_goals go_ret
  all_goals exact ⟨rfl, by (repeat (first | (with_reducible exact Below.refl _ _) | (with_reducible assumption) | (with_reducible apply bd) | (with_reducible apply ba) | (with_reducible refine bp ?_ (by first | omega | (simp [pad_size]; done) | (simp [pad_size]; omega)) _ _) | (with_reducible refine bs ?_ (by first | omega | (simp [pad_size]; done) | (simp [pad_size]; omega)) _) | (with_reducible refine bt ?_ (by assumption))))⟩

set_option maxRecDepth 100000 in
set_option maxHeartbeats 4000000 in
theorem holdTracks_no {k0 k1 k2 k3 f0 f1 f2 f3 l0 l1 l2 l3 n0 n1 n2 n3 a0 a1 a2 a3 b0 b1 b2 b3 : Int} (hS : Says 8 #[.agg #[.int .u64 k0, .int .u64 k1, .int .u64 k2, .int .u64 k3, .int .u64 f0, .int .u64 f1, .int .u64 f2, .int .u64 f3], .agg #[.int .u64 l0, .int .u64 l1, .int .u64 l2, .int .u64 l3], .agg #[.int .u64 n0, .int .u64 n1, .int .u64 n2, .int .u64 n3]] (.tuple #[.agg #[.int .u64 a0, .int .u64 a1, .int .u64 a2, .int .u64 a3, .int .u64 b0, .int .u64 b1, .int .u64 b2, .int .u64 b3], .int .i64 2])) (hR : Says 9 #[.agg #[.int .u64 k0, .int .u64 k1, .int .u64 k2, .int .u64 k3, .int .u64 f0, .int .u64 f1, .int .u64 f2, .int .u64 f3], .agg #[.int .u64 l0, .int .u64 l1, .int .u64 l2, .int .u64 l3], .agg #[.int .u64 n0, .int .u64 n1, .int .u64 n2, .int .u64 n3]] (.tuple #[.agg #[.int .u64 a0, .int .u64 a1, .int .u64 a2, .int .u64 a3, .int .u64 b0, .int .u64 b1, .int .u64 b2, .int .u64 b3], .bool false])) (w : World) :
    Calls Try.prog 3 #[.agg #[.int .u64 k0, .int .u64 k1, .int .u64 k2, .int .u64 k3, .int .u64 f0, .int .u64 f1, .int .u64 f2, .int .u64 f3], .agg #[.int .u64 l0, .int .u64 l1, .int .u64 l2, .int .u64 l3], .agg #[.int .u64 n0, .int .u64 n1, .int .u64 n2, .int .u64 n3]] w fun e w' => e = .returned (.bool true) ∧ Below w.heap.size w w' := by
  have hpad := pads
  have heh := eq_hold
  have he8 := eq8_self
  go_enter Try.func3, Try.ntmps3
  go_wp2_with (first
    | (go_at_call 8; with_reducible refine (hS.at _).mono ?_; rintro e w' ⟨rfl, hb⟩; obtain ⟨m1, g1, d1, hm1, rfl⟩ := pad_of hb; clear hb; (try simp [pad_size] at hm1); have st1_w := sz3 (n := w.heap.size) (m := m1) (by omega))
    | (go_at_call 9; with_reducible refine (hR.at _).mono ?_; rintro e w' ⟨rfl, hb⟩; obtain ⟨m2, g2, d2, hm2, rfl⟩ := pad_of hb; clear hb; (try simp [pad_size] at hm2); have st2_w := sz3 (n := w.heap.size) (m := m2) (by omega); have st2_1 := sz1 (n := m1) (m := m2) (by omega))
    | (go_at_call 10; with_reducible refine (says_tracks.at _).mono ?_; rintro e w' ⟨rfl, hb⟩; obtain ⟨m3, g3, d3, hm3, rfl⟩ := pad_of hb; clear hb; (try simp [pad_size] at hm3); have st3_w := sz3 (n := w.heap.size) (m := m3) (by omega); have st3_1 := sz1 (n := m1) (m := m3) (by omega); have st3_2 := sz1 (n := m2) (m := m3) (by omega)))
  all_goals go_ret
  all_goals exact ⟨rfl, by (repeat (first | (with_reducible exact Below.refl _ _) | (with_reducible assumption) | (with_reducible apply bd) | (with_reducible apply ba) | (with_reducible refine bp ?_ (by first | omega | (simp [pad_size]; done) | (simp [pad_size]; omega)) _ _) | (with_reducible refine bs ?_ (by first | omega | (simp [pad_size]; done) | (simp [pad_size]; omega)) _) | (with_reducible refine bt ?_ (by assumption))))⟩

theorem holdTracks_any (k0 k1 k2 k3 f0 f1 f2 f3 l0 l1 l2 l3 n0 n1 n2 n3 : Int) (hk : Lim k0 k1 k2 k3) (hf : Lim f0 f1 f2 f3) (hl : Lim l0 l1 l2 l3) (hn : Lim n0 n1 n2 n3) (w : World) :
    Calls Try.prog 3 #[.agg #[.int .u64 k0, .int .u64 k1, .int .u64 k2, .int .u64 k3, .int .u64 f0, .int .u64 f1, .int .u64 f2, .int .u64 f3], .agg #[.int .u64 l0, .int .u64 l1, .int .u64 l2, .int .u64 l3], .agg #[.int .u64 n0, .int .u64 n1, .int .u64 n2, .int .u64 n3]] w fun e w' => e = .returned (.bool true) ∧ Below w.heap.size w w' := by
  have k0' := val_lo hk
  have f0' := val_lo hf
  have n0' := val_lo hn
  have l0' := val_lo hl
  have k1' := val_hi hk
  have l1' := val_hi hl
  have f1' := val_hi hf
  have n1' := val_hi hn
  obtain ⟨o0, o1, o2, o3, ho, eo⟩ := rest_ex hl hk
  have ho0 := val_lo ho
  have hko : val k0 k1 k2 k3 + val o0 o1 o2 o3 < 115792089237316195423570985008687907853269984665640564039457584007913129639936 := by rw [eo]; unfold restI; split <;> omega
  by_cases h : val o0 o1 o2 o3 < val n0 n1 n2 n3
  · obtain ⟨d0, d1, d2, d3, hd, ed⟩ := rest_ex hn ho
    have hd0 := val_lo hd
    obtain ⟨t0, t1, t2, t3, ht, et⟩ := limbs_of (n := val k0 k1 k2 k3 + val o0 o1 o2 o3) (by omega) hko
    have hle : val o0 o1 o2 o3 = leastI (val n0 n1 n2 n3) (val o0 o1 o2 o3) := by unfold leastI; rw [if_neg (by omega)]
    by_cases h2 : val f0 f1 f2 f3 + val d0 d1 d2 d3 < 115792089237316195423570985008687907853269984665640564039457584007913129639936
    · obtain ⟨s0, s1, s2, s3, hs, es⟩ := limbs_of (n := val f0 f1 f2 f3 + val d0 d1 d2 d3) (by omega) h2
      exact holdTracks_ok (says_track (says_rest hl hk ho eo) (says_least hn ho ho hle) (says_rest hn ho hd ed) (says_add hf hd hs es) (says_add hk ho ht et)) (says_trackR_gt (cmp_pos h) (says_restR hl hk ho eo) (says_cmpR hn ho rfl) (says_restR hn ho hd ed) (says_addR hf hd hs es) (says_addR hk ho ht et)) w
    · exact holdTracks_no (a0 := 0) (a1 := 0) (a2 := 0) (a3 := 0) (b0 := 0) (b1 := 0) (b2 := 0) (b3 := 0) (says_track_over (says_rest hl hk ho eo) (says_least hn ho ho hle) (says_rest hn ho hd ed) (says_add_over hf hd (by omega))) (says_trackR_gt_over (cmp_pos h) (says_restR hl hk ho eo) (says_cmpR hn ho rfl) (says_restR hn ho hd ed) (says_addR_over hf hd (by omega)) (says_addR hk ho ht et)) w
  · obtain ⟨d0, d1, d2, d3, hd, ed⟩ := rest_ex hn hn
    have ed0 : val d0 d1 d2 d3 = 0 := by rw [ed, restI_of_ge (Int.le_refl _)]
    obtain ⟨t0, t1, t2, t3, ht, et⟩ := limbs_of (n := val k0 k1 k2 k3 + val n0 n1 n2 n3) (by omega) (by omega)
    obtain ⟨s0, s1, s2, s3, hs, es⟩ := limbs_of (n := val f0 f1 f2 f3 + val d0 d1 d2 d3) (by omega) (by omega)
    have hle : val n0 n1 n2 n3 = leastI (val n0 n1 n2 n3) (val o0 o1 o2 o3) := by unfold leastI; split <;> omega
    exact holdTracks_ok (says_track (says_rest hl hk ho eo) (says_least hn ho hn hle) (says_rest hn hn hd ed) (says_add hf hd hs es) (says_add hk hn ht et)) (says_trackR_le (cmp_le0 (by omega)) (says_restR hl hk ho eo) (says_cmpR hn ho rfl) (says_restR hn hn hd ed) (says_addR hf hd hs es) (says_addR hk hn ht et)) w

theorem holdTracks_own : ownKnob Try.prog.godebug = none := by kernel_rfl
theorem holdTracks_laid : laidOutB Try.prog = true := by kernel_rfl

set_option maxRecDepth 100000 in
theorem holdTracks_lifted (os : Os) (started : os.Started) (H : Type) (enc : TypeId × Value → H) :
    ReturnsInHanded {} Try.checked os 3 .any (Rows.holdTracksSpec.pre6 enc Try.prog Try.f3 Rows.holdTracksRow.domain false) (Rows.holdTracksSpec.post enc Try.prog Try.f3 false true false false) := by
  refine returnsInHanded_of_change (C := Try.checked) holdTracks_own started (by kernel_rfl) Try.func3
    (ChangeSpec.witness6 (enc := enc) (C := Try.checked) false ⟨#[], #[.agg #[.int .u64 0, .int .u64 0, .int .u64 0, .int .u64 0, .int .u64 0, .int .u64 0, .int .u64 0, .int .u64 0], .agg #[.int .u64 0, .int .u64 0, .int .u64 0, .int .u64 0], .agg #[.int .u64 0, .int .u64 0, .int .u64 0, .int .u64 0]], []⟩ 8 (by kernel_rfl) (by kernel_rfl) (by kernel_rfl) (by kernel_rfl)) ?_
  intro W base args ds gs before hval0 hW hcnd _
  have hval : ∀ (j : Nat) t v, Try.f3.params[j]? = some t → args[j]? = some v → Value.okWide Try.prog W .any base t v := hval0
  have hW' := hW
  obtain ⟨p, q, hA0, hV, rfl, hfz, hnd⟩ := hW
  have hA : DataW.TrodAll enc Try.prog W 0 (fun _ => true) true Try.f3.params.toList args.toList ds p := hA0
  rw [Try.params3] at hA hval
  obtain ⟨v0, vs0, d0, ds0, p0, q0, hargs0, rfl, rfl, h0, r0⟩ := trodAll_cons hA
  obtain ⟨v1, vs1, d1, ds1, p1, q1, hargs1, rfl, rfl, h1, r1⟩ := trodAll_cons r0
  obtain ⟨v2, vs2, d2, ds2, p2, q2, hargs2, rfl, rfl, h2, r2⟩ := trodAll_cons r1
  obtain ⟨rfl, rfl, rfl⟩ := trodAll_nil r2
  obtain rfl : args = #[v0, v1, v2] := by cases args; simp_all
  obtain ⟨rfl, rfl⟩ := trodVars_none hV
  have k0 := h0
  have lt0 : ∀ x ∈ p0, x.block < W.heap.size := by obtain ⟨m, hm⟩ := k0; exact DataW.trod_lt m _ _ _ hm
  have k1 := h1
  have lt1 : ∀ x ∈ p1, x.block < W.heap.size := by obtain ⟨m, hm⟩ := k1; exact DataW.trod_lt m _ _ _ hm
  have k2 := h2
  have lt2 : ∀ x ∈ p2, x.block < W.heap.size := by obtain ⟨m, hm⟩ := k2; exact DataW.trod_lt m _ _ _ hm
  obtain ⟨aa0, aa1, aa2, aa3, bb0, bb1, bb2, bb3, rfl, hla, hlb⟩ := hold_in (hval 0 26 v0 rfl rfl) h0
  obtain ⟨x0, x1, x2, x3, rfl, hx⟩ := num_in (hval 1 24 v1 rfl rfl) h1
  obtain ⟨y0, y1, y2, y3, rfl, hy⟩ := num_in (hval 2 24 v2 rfl rfl) h2
  clear hA0 hval0
  have walk : Calls Try.prog 3 _ W fun e w' => e = .returned (.bool true) ∧ Below W.heap.size W w' := holdTracks_any aa0 aa1 aa2 aa3 bb0 bb1 bb2 bb3 x0 x1 x2 x3 y0 y1 y2 y3 hla hlb hx hy W
  refine walk.mono fun e W' ⟨he, bel⟩ => ?_
  subst he
  exact ⟨_, rfl, _, _, _, [], _, [], hW', trodAll_mk1 (shut_bool Try.underlying4 _), trodAll_cons_mk (Below.trod holdTracks_laid (by kernel_rfl) (of_decide_eq_true (by kernel_rfl)) k0 bel lt0) (trodAll_cons_mk (Below.trod holdTracks_laid (by kernel_rfl) (of_decide_eq_true (by kernel_rfl)) k1 bel lt1) (trodAll_cons_mk (Below.trod holdTracks_laid (by kernel_rfl) (of_decide_eq_true (by kernel_rfl)) k2 bel lt2) (trodAll_mk0))), rfl, bel.frame _, fun h => by cases h⟩

theorem holdTracks_holds : Rows.HoldTracksSaid :=
  OpenClaim.holds_of_wide 3 Try.f3 rfl rfl rfl rfl rfl rfl rfl ⟨rfl, rfl, rfl, rfl, rfl⟩ rfl rfl rfl rfl rfl (by kernel_rfl) Try.func3 (by kernel_rfl)
    (of_decide_eq_true (by kernel_rfl)) (by unfold Func.isWrapper; first | (rw [if_pos (by decide +kernel)]; kernel_rfl) | (rw [if_neg (by decide +kernel)]; exact ⟨rfl, rfl⟩))
    (fun os started H enc _ => holdTracks_lifted os started H enc)
#print axioms holdTracks_holds
end Go.Proofs.Ytpddeihghjjmfaa
