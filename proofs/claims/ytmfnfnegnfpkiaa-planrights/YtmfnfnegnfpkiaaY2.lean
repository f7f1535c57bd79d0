
/- num.divide. -/
import Derived.Test.YtmfnfnegnfpkiaaY1
set_option linter.unusedSimpArgs false
set_option linter.unusedVariables false
set_option maxRecDepth 20000
namespace Go.Proofs.Ytmfnfnegnfpkiaa
open Go.RowKit Go.Shelf
attribute [local go_sem] Oper.semAt_some

set_option maxRecDepth 100000 in
set_option maxHeartbeats 8000000 in
theorem divide_any (h0 h1 h2 h3 l0 l1 l2 l3 c0 c1 c2 c3 : Int) (hh : Lim h0 h1 h2 h3) (hl : Lim l0 l1 l2 l3) (hc : Lim c0 c1 c2 c3) (hlt : val h0 h1 h2 h3 < val c0 c1 c2 c3) (w : World) :
    Calls Try.prog 103 #[.agg #[.int .u64 h0, .int .u64 h1, .int .u64 h2, .int .u64 h3], .agg #[.int .u64 l0, .int .u64 l1, .int .u64 l2, .int .u64 l3], .agg #[.int .u64 c0, .int .u64 c1, .int .u64 c2, .int .u64 c3]] w fun e w' =>
      ∃ q0 q1 q2 q3 r : Int, e = .returned (.tuple #[.agg #[.int .u64 q0, .int .u64 q1, .int .u64 q2, .int .u64 q3], .bool (decide (r = 0))]) ∧ Lim q0 q1 q2 q3 ∧ 0 ≤ r ∧ r < val c0 c1 c2 c3 ∧
        Hid (val h0 h1 h2 h3 * 115792089237316195423570985008687907853269984665640564039457584007913129639936 + val l0 l1 l2 l3 = val q0 q1 q2 q3 * val c0 c1 c2 c3 + r) ∧ Below w.heap.size w w' := by
  refine (callsIn_wide (n := 8)).1 ?_
  have hpad := pads
  have ix := ix_num
  have heq := eq_num
  have hfn : ∀ f, Fence.wide.fn f := fun _ => trivial
  have hcp : 0 < val c0 c1 c2 c3 := by have := val_lo hh; omega
  have hlt' : Hid _ := hlt
  clear hlt
  refine callsIn_of_wp_marks Try.func103 rfl trivial ?_ rfl
  simp only [Try.ntmps103, List.size_toArray, List.length_cons, List.length_nil, Nat.reduceAdd, Nat.reduceSub, Array.replicate_succ, Array.replicate_zero, List.push_toArray, List.append_toArray, List.nil_append, List.cons_append]
  gi_wp2_with (first
    | (gi_at_call 119; with_reducible refine (callsIn_wide.2 (noughts_any c0 c1 c2 c3 hc hcp _)).mono ?_; rintro e w1 ⟨k, rfl, hk0, hk1, hkn, hb⟩; obtain ⟨m1, g1, d1, hm1, rfl⟩ := pad_of hb; clear hb; (try simp [pad_size] at hm1); have st1_w := sz4 (n := w.heap.size) (m := m1) (by omega))
    | (gi_at_call 120; with_reducible refine (callsIn_wide.2 (shl_any h0 h1 h2 h3 k hh hk0 hk1 _)).mono ?_; rintro e w1 ⟨a0, a1, a2, a3, rfl, hal, s1, hb⟩; obtain ⟨m2, g2, d2, hm2, rfl⟩ := pad_of (bt (bp (Below.refl _ _) (by first | omega | (simp [pad_size]; omega)) _ _) hb); clear hb; (try simp [pad_size] at hm2); have st2_w := sz4 (n := w.heap.size) (m := m2) (by omega); clear st1_w hm1)
    | (gi_at_call 121; with_reducible refine (callsIn_wide.2 (shr_any l0 l1 l2 l3 (256 - k) hl (by omega) (by omega) _)).mono ?_; rintro e w1 ⟨b0, b1, b2, b3, rfl, hbl, s2, hb⟩; obtain ⟨m3, g3, d3, hm3, rfl⟩ := pad_of hb; clear hb; (try simp [pad_size] at hm3); have st3_w := sz4 (n := w.heap.size) (m := m3) (by omega); have st3_2 := sz1 (n := m2) (m := m3) (by omega)))
  obtain ⟨pm, pl⟩ := div_pre (val_lo hh) ⟨val_lo hl, val_hi hl⟩ hlt'.out hk0 hk1 hkn (val_lo hal) (val_lo hbl) s1 s2
  obtain ⟨⟨o0, u0⟩, ⟨o1, u1⟩, ⟨o2, u2⟩, ⟨o3, u3⟩⟩ := or4 hal hbl hk0 hk1 pm pl
  clear pm pl
  apply wpIn_loop_rounds 5
  simp only [Code.roundsIn]
  gi_wp2_with (first
    | (gi_at_call 120; with_reducible refine (callsIn_wide.2 (shl_any c0 c1 c2 c3 k hc hk0 hk1 _)).mono ?_; rintro e w1 ⟨cc0, cc1, cc2, cc3, rfl, hccl, s3, hb⟩; obtain ⟨m4, g4, d4, hm4, rfl⟩ := pad_of (bt (bp (Below.refl _ _) (by first | omega | (simp [pad_size]; omega)) _ _) hb); clear hb; (try simp [pad_size] at hm4); have st4_w := sz4 (n := w.heap.size) (m := m4) (by omega); have st4_2 := sz1 (n := m2) (m := m4) (by omega); clear st3_w hm3; clear st3_2)
    | (gi_at_call 120; with_reducible refine (callsIn_wide.2 (shl_any l0 l1 l2 l3 k hl hk0 hk1 _)).mono ?_; rintro e w1 ⟨e0, e1, e2, e3, rfl, hel, s4, hb⟩; obtain ⟨m5, g5, d5, hm5, rfl⟩ := pad_of (bt (bp (Below.refl _ _) (by first | omega | (simp [pad_size]; omega)) _ _) hb); clear hb; (try simp [pad_size] at hm5); have st5_w := sz4 (n := w.heap.size) (m := m5) (by omega); have st5_2 := sz1 (n := m2) (m := m5) (by omega); clear st4_w hm4; clear st4_2)
    | (gi_at_call 117; refine (callsIn_wide.2 (down_any _ _ _ _ _)).mono ?_; rintro e w' ⟨rfl, rfl⟩))
  obtain ⟨-, -, v3, v4, v5, v6⟩ := div_setup (val_lo hh) ⟨val_lo hl, val_hi hl⟩ hlt'.out hk0 hk1 hkn (val_lo hal) (val_lo hbl) ⟨val_lo hccl, val_hi hccl⟩ ⟨val_lo hel, val_hi hel⟩ s1 s2 s3 s4
  have hC3 : 9223372036854775808 ≤ cc3 := by unfold val at v3; unfold Lim at hccl; omega
  have hRl : Lim (a0 + b0) (a1 + b1) (a2 + b2) (a3 + b3) := by unfold Lim at hal hbl ⊢; omega
  have hRv : Hid (val (a0 + b0) (a1 + b1) (a2 + b2) (a3 + b3) = val a0 a1 a2 a3 + val b0 b1 b2 b3) := by unfold Hid val; omega
  have hRc : val (a0 + b0) (a1 + b1) (a2 + b2) (a3 + b3) < val cc0 cc1 cc2 cc3 := by rw [hRv.out]; exact v4
  clear s1 s2 s3 s4 v4 o0 o1 o2 o3 u0 u1 u2 u3
  refine wpIn_rangeFunc_ownF rfl (by omega) (gf := 126) (lb := #[.pointer (some ⟨m5, 0, none⟩)]) rfl trivial (enters_of Try.func126 (by kernel_rfl) rfl)
    (down_stops 7 (by omega) m5 hel 69 _ (by (repeat (first | (with_reducible exact al_at (by simp [pad_size])) | (with_reducible refine Eq.trans (dr_blk _ _) ?_) | (with_reducible refine Eq.trans (al_old (by first | omega | (simp [pad_size]; done) | (simp [pad_size]; omega))) ?_) | (with_reducible refine Eq.trans (pad_block (by first | omega | (simp [pad_size]; done) | (simp [pad_size]; omega)) (by first | omega | (simp [pad_size]; done) | (simp [pad_size]; omega))) ?_) | (with_reducible assumption))))) (fun h k => Eq.trans k h) (fun W l o o' hl h _ _ => ?hkb) (Below.refl _ _) (fun _ => rfl)
    (fun pre W => (∃ Q0 Q1 Q2 Q3 R0 R1 R2 R3 : Int, W.heap[w.heap.size + 1 + 1 + 1]? = some (.cells #[.int .u64 Q0, .int .u64 Q1, .int .u64 Q2, .int .u64 Q3] 69 (0, 0)) ∧ W.heap[m2]? = some (.cells #[.int .u64 R0, .int .u64 R1, .int .u64 R2, .int .u64 R3] 69 (0, 0)) ∧ W.heap[w.heap.size + 1 + 1]? = some (.cells #[.int .u64 cc0, .int .u64 cc1, .int .u64 cc2, .int .u64 cc3] 69 (0, 0)) ∧ W.heap[m5]? = some (.cells #[.int .u64 e0, .int .u64 e1, .int .u64 e2, .int .u64 e3] 69 (0, 0)) ∧ Lim Q0 Q1 Q2 Q3 ∧ Lim R0 R1 R2 R3 ∧ val R0 R1 R2 R3 < val cc0 cc1 cc2 cc3 ∧
      (pre <+: limbsDown hel → val (a0 + b0) (a1 + b1) (a2 + b2) (a3 + b3) * powM pre.length + topn pre.length e0 e1 e2 e3 = topn pre.length Q0 Q1 Q2 Q3 * val cc0 cc1 cc2 cc3 + val R0 R1 R2 R3)) ∧ Below w.heap.size w W)
    (fun _ _ _ => False)
    (OwnFrom.and (Own.from (fun s A B row hs hg hr => by obtain ⟨Q0, Q1, Q2, Q3, R0, R1, R2, R3, p1, p2, p3, p4, p5⟩ := hs; exact ⟨Q0, Q1, Q2, Q3, R0, R1, R2, R3, block_kept p1 hg hr, block_kept p2 hg hr, block_kept p3 hg hr, block_kept p4 hg hr, p5⟩) _) (ownFrom_below (Nat.le_refl _) (by simp [pad_size]; omega)))
    (fun _ _ _ _ _ hs _ _ => hs)
    ⟨⟨0, 0, 0, 0, a0 + b0, a1 + b1, a2 + b2, a3 + b3, by (repeat (first | (with_reducible exact al_at (by simp [pad_size])) | (with_reducible refine Eq.trans (dr_blk _ _) ?_) | (with_reducible refine Eq.trans (al_old (by first | omega | (simp [pad_size]; done) | (simp [pad_size]; omega))) ?_) | (with_reducible refine Eq.trans (pad_block (by first | omega | (simp [pad_size]; done) | (simp [pad_size]; omega)) (by first | omega | (simp [pad_size]; done) | (simp [pad_size]; omega))) ?_) | (with_reducible assumption))), by (repeat (first | (with_reducible exact al_at (by simp [pad_size])) | (with_reducible refine Eq.trans (dr_blk _ _) ?_) | (with_reducible refine Eq.trans (al_old (by first | omega | (simp [pad_size]; done) | (simp [pad_size]; omega))) ?_) | (with_reducible refine Eq.trans (pad_block (by first | omega | (simp [pad_size]; done) | (simp [pad_size]; omega)) (by first | omega | (simp [pad_size]; done) | (simp [pad_size]; omega))) ?_) | (with_reducible assumption))), by (repeat (first | (with_reducible exact al_at (by simp [pad_size])) | (with_reducible refine Eq.trans (dr_blk _ _) ?_) | (with_reducible refine Eq.trans (al_old (by first | omega | (simp [pad_size]; done) | (simp [pad_size]; omega))) ?_) | (with_reducible refine Eq.trans (pad_block (by first | omega | (simp [pad_size]; done) | (simp [pad_size]; omega)) (by first | omega | (simp [pad_size]; done) | (simp [pad_size]; omega))) ?_) | (with_reducible assumption))), by (repeat (first | (with_reducible exact al_at (by simp [pad_size])) | (with_reducible refine Eq.trans (dr_blk _ _) ?_) | (with_reducible refine Eq.trans (al_old (by first | omega | (simp [pad_size]; done) | (simp [pad_size]; omega))) ?_) | (with_reducible refine Eq.trans (pad_block (by first | omega | (simp [pad_size]; done) | (simp [pad_size]; omega)) (by first | omega | (simp [pad_size]; done) | (simp [pad_size]; omega))) ?_) | (with_reducible assumption))), lim_zero, hRl, hRc, fun _ => by show _ * 1 + 0 = 0 * _ + _; omega⟩, by (repeat (first | (with_reducible exact Below.refl _ _) | (with_reducible assumption) | (with_reducible apply bd) | (with_reducible apply ba) | (with_reducible refine bp ?_ (by first | omega | (simp [pad_size]; done) | (simp [pad_size]; omega)) _ _) | (with_reducible refine bs ?_ (by first | omega | (simp [pad_size]; done) | (simp [pad_size]; omega)) _) | (with_reducible refine bt ?_ (by assumption))))⟩
    (fun x => { tmps := #[.agg #[.int .u64 h0, .int .u64 h1, .int .u64 h2, .int .u64 h3], .agg #[.int .u64 l0, .int .u64 l1, .int .u64 l2, .int .u64 l3], .agg #[.int .u64 c0, .int .u64 c1, .int .u64 c2, .int .u64 c3], .pointer (some ⟨w.heap.size, 0, none⟩), .pointer (some ⟨w.heap.size + 1, 0, none⟩), .pointer (some ⟨w.heap.size + 1 + 1, 0, none⟩), .pointer (some ⟨w.heap.size + 1 + 1 + 1, 0, none⟩), .bool false, .int .i64 k, .pointer (some ⟨m2, 0, none⟩), .int .i64 3, .int .u64 b3, .int .i64 (x.1.1 : Int), .int .u64 x.1.2, .agg #[.int .u64 c0, .int .u64 c1, .int .u64 c2, .int .u64 c3], .int .i64 k, .agg #[.int .u64 h0, .int .u64 h1, .int .u64 h2, .int .u64 h3], .int .i64 k, .agg #[.int .u64 a0, .int .u64 a1, .int .u64 a2, .int .u64 a3], .agg #[.int .u64 l0, .int .u64 l1, .int .u64 l2, .int .u64 l3], .int .i64 k, .int .i64 (256 - k), .agg #[.int .u64 b0, .int .u64 b1, .int .u64 b2, .int .u64 b3], .int .i64 4, .bool false, .int .i64 3, .int .u64 b3, .int .i64 3, .pointer (some ⟨m2, 3, none⟩), .int .u64 a3, .int .u64 b3, .int .u64 (a3 + b3), .pointer (some ⟨m2, 3, none⟩), .int .i64 4, .agg #[.int .u64 c0, .int .u64 c1, .int .u64 c2, .int .u64 c3], .int .i64 k, .agg #[.int .u64 cc0, .int .u64 cc1, .int .u64 cc2, .int .u64 cc3], .agg #[.int .u64 l0, .int .u64 l1, .int .u64 l2, .int .u64 l3], .int .i64 k, .agg #[.int .u64 e0, .int .u64 e1, .int .u64 e2, .int .u64 e3], .func (.func 126) #[] #[.pointer (some ⟨m5, 0, none⟩)], .int .i64 (x.1.1 : Int), .int .u64 x.1.2, undef, undef, undef, undef, undef, undef, undef, undef, undef, undef, undef, undef, undef], defers := [] }) ?assign ?body ?done ?stop
  case hkb =>
    unfold KpB
    rw [World.putObj_heap_other]
    intro e; simp [pad_size] at hl; omega
  case assign =>
    intro l x W K hK
    gi_wp2
    exact hK
  case body =>
    rintro l pre ⟨⟨i, v⟩, hi, hv⟩ W ⟨⟨Q0, Q1, Q2, Q3, R0, R1, R2, R3, p1, p2, p3, p4, hQ, hR, hRlt, hq⟩, hB⟩ hlen
    obtain ⟨cA, fA⟩ := cells_of_block p1
    obtain ⟨cB, fB⟩ := cells_of_block p2
    obtain ⟨cC, fC⟩ := cells_of_block p3
    have lA := (Array.getElem?_eq_some_iff.1 p1).1
    have lB := (Array.getElem?_eq_some_iff.1 p2).1
    have lC := (Array.getElem?_eq_some_iff.1 p3).1
    have lD := (Array.getElem?_eq_some_iff.1 p4).1
    have hq : Hid _ := hq
    dsimp only at hi hv
    rcases (show i = 0 ∨ i = 1 ∨ i = 2 ∨ i = 3 by omega) with rfl | rfl | rfl | rfl
    all_goals
      gi_wp2_with (gi_at_call 122; refine (CallsIn.inRound l (callsIn_wide.2 (part_any R0 R1 R2 R3 v cc0 cc1 cc2 cc3 hR hv hccl hC3 hRlt _))).mono ?_; rintro e w1 ⟨q, z0, z1, z2, z3, rfl, hq1, hz, hqz, hb⟩; obtain ⟨m6, g6, d6, hm6, rfl⟩ := pad_of hb; clear hb; have lA6 : w.heap.size + 1 + 1 + 1 < m6 := (by omega); have lB6 : m2 < m6 := (by omega); have lC6 : w.heap.size + 1 + 1 < m6 := (by omega))
    · obtain ⟨x1, x2, x3, x4, x5⟩ := blk5 (i := 0) (.int .u64 q) (.int .u64 z0) (.int .u64 z1) (.int .u64 z2) (.int .u64 z3) p1 p2 rfl (by omega)
      refine ⟨x5.trans (keeps_below (bp (Below.refl _ _) (by rw [x4]; exact hm6) _ _)), (pad_block (by rw [x4]; exact lD) (by omega)).trans (x3 m5 (by omega) (by omega)), ⟨q, Q1, Q2, Q3, z0, z1, z2, z3, (pad_block (by rw [x4]; exact lA) lA6).trans x1, (pad_block (by rw [x4]; exact lB) lB6).trans x2, (pad_block (by rw [x4]; exact lC) lC6).trans ((x3 _ (by omega) (by omega)).trans p3), (pad_block (by rw [x4]; exact lD) (by omega)).trans ((x3 _ (by omega) (by omega)).trans p4), ⟨hq1, hQ.2.1, hQ.2.2.1, hQ.2.2.2⟩, hz, hqz.out.2, fun hpre => ?_⟩, ?_⟩
      · obtain ⟨hp, hn', hval⟩ := pref_last hel hpre
        have hn : pre.length = 3 := hn'
        have hq0 := hq.out hp
        rw [hn] at hq0
        rw [List.length_append, hn]
        have hve : v = e0 := hval
        have := step_eq hq0 (hve ▸ hqz.out.1)
        refine Eq.trans ?_ (this.trans ?_)
        · rw [← hve]; simp only [powM, topn, List.length_cons, List.length_nil]; omega
        · simp only [topn, List.length_cons, List.length_nil, Int.zero_mul, Int.zero_add]
      · (repeat (first | (with_reducible exact Below.refl _ _) | (with_reducible assumption) | (with_reducible apply bd) | (with_reducible apply ba) | (with_reducible refine bp ?_ (by first | omega | (simp [pad_size]; done) | (simp [pad_size]; omega)) _ _) | (with_reducible refine bs ?_ (by first | omega | (simp [pad_size]; done) | (simp [pad_size]; omega)) _) | (with_reducible refine bt ?_ (by assumption))))
    · obtain ⟨x1, x2, x3, x4, x5⟩ := blk5 (i := 1) (.int .u64 q) (.int .u64 z0) (.int .u64 z1) (.int .u64 z2) (.int .u64 z3) p1 p2 rfl (by omega)
      refine ⟨x5.trans (keeps_below (bp (Below.refl _ _) (by rw [x4]; exact hm6) _ _)), (pad_block (by rw [x4]; exact lD) (by omega)).trans (x3 m5 (by omega) (by omega)), ⟨Q0, q, Q2, Q3, z0, z1, z2, z3, (pad_block (by rw [x4]; exact lA) lA6).trans x1, (pad_block (by rw [x4]; exact lB) lB6).trans x2, (pad_block (by rw [x4]; exact lC) lC6).trans ((x3 _ (by omega) (by omega)).trans p3), (pad_block (by rw [x4]; exact lD) (by omega)).trans ((x3 _ (by omega) (by omega)).trans p4), ⟨hQ.1, hq1, hQ.2.2.1, hQ.2.2.2⟩, hz, hqz.out.2, fun hpre => ?_⟩, ?_⟩
      · obtain ⟨hp, hn', hval⟩ := pref_last hel hpre
        have hn : pre.length = 2 := hn'
        have hq0 := hq.out hp
        rw [hn] at hq0
        rw [List.length_append, hn]
        have hve : v = e1 := hval
        have := step_eq hq0 (hve ▸ hqz.out.1)
        refine Eq.trans ?_ (this.trans ?_)
        · rw [← hve]; simp only [powM, topn, List.length_cons, List.length_nil]; omega
        · simp only [topn, List.length_cons, List.length_nil, Int.zero_mul, Int.zero_add]
      · (repeat (first | (with_reducible exact Below.refl _ _) | (with_reducible assumption) | (with_reducible apply bd) | (with_reducible apply ba) | (with_reducible refine bp ?_ (by first | omega | (simp [pad_size]; done) | (simp [pad_size]; omega)) _ _) | (with_reducible refine bs ?_ (by first | omega | (simp [pad_size]; done) | (simp [pad_size]; omega)) _) | (with_reducible refine bt ?_ (by assumption))))
    · obtain ⟨x1, x2, x3, x4, x5⟩ := blk5 (i := 2) (.int .u64 q) (.int .u64 z0) (.int .u64 z1) (.int .u64 z2) (.int .u64 z3) p1 p2 rfl (by omega)
      refine ⟨x5.trans (keeps_below (bp (Below.refl _ _) (by rw [x4]; exact hm6) _ _)), (pad_block (by rw [x4]; exact lD) (by omega)).trans (x3 m5 (by omega) (by omega)), ⟨Q0, Q1, q, Q3, z0, z1, z2, z3, (pad_block (by rw [x4]; exact lA) lA6).trans x1, (pad_block (by rw [x4]; exact lB) lB6).trans x2, (pad_block (by rw [x4]; exact lC) lC6).trans ((x3 _ (by omega) (by omega)).trans p3), (pad_block (by rw [x4]; exact lD) (by omega)).trans ((x3 _ (by omega) (by omega)).trans p4), ⟨hQ.1, hQ.2.1, hq1, hQ.2.2.2⟩, hz, hqz.out.2, fun hpre => ?_⟩, ?_⟩
      · obtain ⟨hp, hn', hval⟩ := pref_last hel hpre
        have hn : pre.length = 1 := hn'
        have hq0 := hq.out hp
        rw [hn] at hq0
        rw [List.length_append, hn]
        have hve : v = e2 := hval
        have := step_eq hq0 (hve ▸ hqz.out.1)
        refine Eq.trans ?_ (this.trans ?_)
        · rw [← hve]; simp only [powM, topn, List.length_cons, List.length_nil]; omega
        · simp only [topn, List.length_cons, List.length_nil, Int.zero_mul, Int.zero_add]
      · (repeat (first | (with_reducible exact Below.refl _ _) | (with_reducible assumption) | (with_reducible apply bd) | (with_reducible apply ba) | (with_reducible refine bp ?_ (by first | omega | (simp [pad_size]; done) | (simp [pad_size]; omega)) _ _) | (with_reducible refine bs ?_ (by first | omega | (simp [pad_size]; done) | (simp [pad_size]; omega)) _) | (with_reducible refine bt ?_ (by assumption))))
    · obtain ⟨x1, x2, x3, x4, x5⟩ := blk5 (i := 3) (.int .u64 q) (.int .u64 z0) (.int .u64 z1) (.int .u64 z2) (.int .u64 z3) p1 p2 rfl (by omega)
      refine ⟨x5.trans (keeps_below (bp (Below.refl _ _) (by rw [x4]; exact hm6) _ _)), (pad_block (by rw [x4]; exact lD) (by omega)).trans (x3 m5 (by omega) (by omega)), ⟨Q0, Q1, Q2, q, z0, z1, z2, z3, (pad_block (by rw [x4]; exact lA) lA6).trans x1, (pad_block (by rw [x4]; exact lB) lB6).trans x2, (pad_block (by rw [x4]; exact lC) lC6).trans ((x3 _ (by omega) (by omega)).trans p3), (pad_block (by rw [x4]; exact lD) (by omega)).trans ((x3 _ (by omega) (by omega)).trans p4), ⟨hQ.1, hQ.2.1, hQ.2.2.1, hq1⟩, hz, hqz.out.2, fun hpre => ?_⟩, ?_⟩
      · obtain ⟨hp, hn', hval⟩ := pref_last hel hpre
        have hn : pre.length = 0 := hn'
        have hq0 := hq.out hp
        rw [hn] at hq0
        rw [List.length_append, hn]
        have hve : v = e3 := hval
        have := step_eq hq0 (hve ▸ hqz.out.1)
        refine Eq.trans ?_ (this.trans ?_)
        · rw [← hve]; simp only [powM, topn, List.length_cons, List.length_nil]; omega
        · simp only [topn, List.length_cons, List.length_nil, Int.zero_mul, Int.zero_add]
      · (repeat (first | (with_reducible exact Below.refl _ _) | (with_reducible assumption) | (with_reducible apply bd) | (with_reducible apply ba) | (with_reducible refine bp ?_ (by first | omega | (simp [pad_size]; done) | (simp [pad_size]; omega)) _ _) | (with_reducible refine bs ?_ (by first | omega | (simp [pad_size]; done) | (simp [pad_size]; omega)) _) | (with_reducible refine bt ?_ (by assumption))))
  case done =>
    rintro D ys W hD rfl ⟨⟨Q0, Q1, Q2, Q3, R0, R1, R2, R3, p1, p2, p3, p4, hQ, hR, hRlt, hq⟩, hB⟩ hK
    have hmx : Try.prog.follows .mixedOrders = true := by kernel_rfl
    obtain ⟨cA, fA⟩ := cells_of_block p1
    obtain ⟨cB, fB⟩ := cells_of_block p2
    have hq : Hid _ := hq
    gi_wp2
    apply wpIn_calm
    gi_region_with_o (fail)
    all_goals gi_wp2
    all_goals
      obtain ⟨y1, y2⟩ := blkSame p1
      have hK' := y2.same D _ hK rfl
      refine ⟨by simp [Act.put], .inl ⟨_, _, rfl, run_takeDeferred hK', ?_⟩⟩
      have hb3 := putObj_block (o'' := .deferred none) y1 hK' (by simp)
      obtain ⟨c3, f3⟩ := cells_of_block hb3
      have hq4 := hq.out (List.prefix_refl _)
      have e4 : (limbsDown hel).length = 4 := rfl
      rw [e4, topn4, topn4, hRv.out] at hq4
      obtain ⟨r, r0, r1, r2, r3⟩ := div_end v5 (v6.out.trans hq4) (val_lo hR) hRlt
      refine ⟨.tuple #[.agg #[.int .u64 Q0, .int .u64 Q1, .int .u64 Q2, .int .u64 Q3], .bool (eq4 R0 R1 R2 R3 0 0 0 0)], ?_, Q0, Q1, Q2, Q3, r, ?_, hQ, r0, r1, r2, ?_⟩
      · simp [results, Try.results103, go_sem, c3, Act.put]
      · rw [eq4_zero hR, decide_eq_decide.2 r3]
      · refine Below.trans ?_ (belowK_b (w := w) (Nat.le_refl _) _ D _ _ (by simp [pad_size] at hD; omega) hK' rfl rfl)
        (repeat (first | (with_reducible exact Below.refl _ _) | (with_reducible assumption) | (with_reducible apply bd) | (with_reducible apply ba) | (with_reducible refine bp ?_ (by first | omega | (simp [pad_size]; done) | (simp [pad_size]; omega)) _ _) | (with_reducible refine bs ?_ (by first | omega | (simp [pad_size]; done) | (simp [pad_size]; omega)) _) | (with_reducible refine bt ?_ (by assumption))))
  case stop =>
    rintro D c pre W hD hpre h hK
    exact h.elim
end Go.Proofs.Ytmfnfnegnfpkiaa
