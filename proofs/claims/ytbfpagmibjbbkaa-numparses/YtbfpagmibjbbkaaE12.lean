
/- num.byTen. -/

import Derived.Test.YtbfpagmibjbbkaaY1
set_option linter.unusedSimpArgs false
set_option linter.unusedVariables false
namespace Go.Proofs.Ytbfpagmibjbbkaa
open Go.RowKit Go.Shelf
attribute [local go_sem] Oper.semAt_some

theorem blk2 {W : World} {A B i : Nat} {Qc : Array Value} {t t' : TypeId} {r0 : Value} (q r : Value) (hQ : W.heap[A]? = some (.cells Qc t (0, 0))) (hR : W.heap[B]? = some (.cells #[r0] t' (0, 0))) (hne : A ≠ B) :
    ((W.setCell ⟨A, i, none⟩ q).setCell ⟨B, 0, none⟩ r).heap[A]? = some (.cells (Qc.setIfInBounds i q) t (0, 0)) ∧
    ((W.setCell ⟨A, i, none⟩ q).setCell ⟨B, 0, none⟩ r).heap[B]? = some (.cells #[r] t' (0, 0)) ∧
    (∀ k, k ≠ A → k ≠ B → ((W.setCell ⟨A, i, none⟩ q).setCell ⟨B, 0, none⟩ r).heap[k]? = W.heap[k]?) ∧
    ((W.setCell ⟨A, i, none⟩ q).setCell ⟨B, 0, none⟩ r).heap.size = W.heap.size ∧
    KeepsOthers W ((W.setCell ⟨A, i, none⟩ q).setCell ⟨B, 0, none⟩ r) := by
  have h1 := block_set (i := i) q hQ
  have h2 := block_set_other (i := i) q hR hne
  refine ⟨block_set_other _ h1 (by omega), ?_, fun k h3 h4 => ?_, by simp [World.setCell], (KeepsOthers.setCell _ _ _).trans (KeepsOthers.setCell _ _ _)⟩
  · have := block_set (i := 0) r h2; simpa using this
  · rw [Below.heap_setCell _ _ _ _ (by simpa using h4), Below.heap_setCell _ _ _ _ (by simpa using h3)]

theorem set_same {W : World} {A i : Nat} {c : Array Value} {t : TypeId} {v : Value} (h : W.heap[A]? = some (.cells c t (0, 0))) (hi : c[i]? = some v) : W.setCell ⟨A, i, none⟩ v = W := by
  have e : (W.setCell ⟨A, i, none⟩ v).heap = W.heap := by
    apply Array.ext_getElem?
    intro k
    by_cases hk : A = k
    · subst hk
      rw [block_set v h, h]
      congr 2
      apply Array.ext_getElem?
      intro j
      rw [Array.getElem?_setIfInBounds]
      split
      · rename_i hj; subst hj
        have := (Array.getElem?_eq_some_iff.1 hi).1
        simp [this, hi.symm]
      · rfl
    · exact Below.heap_setCell W ⟨A, i, none⟩ v k (fun e => hk e.symm)
  have e2 : W.setCell ⟨A, i, none⟩ v = { W with heap := (W.setCell ⟨A, i, none⟩ v).heap } := rfl
  rw [e2, e]

theorem ten_step {te tq R v q z : Int} (h : te = tq * 10 + R) (h2 : R * 18446744073709551616 + v = q * 10 + z) : te * 18446744073709551616 + v = (tq * 18446744073709551616 + q) * 10 + z := by omega

set_option maxRecDepth 100000 in
set_option maxHeartbeats 8000000 in
theorem byTen_any (x0 x1 x2 x3 : Int) (hx : Lim x0 x1 x2 x3) (w : World) :
    Calls Try.prog 10 #[.agg #[.int .u64 x0, .int .u64 x1, .int .u64 x2, .int .u64 x3]] w fun e w' => ∃ q0 q1 q2 q3 r : Int, e = .returned (.tuple #[.agg #[.int .u64 q0, .int .u64 q1, .int .u64 q2, .int .u64 q3], .int .u64 r]) ∧ Lim q0 q1 q2 q3 ∧ (0 ≤ r ∧ r < 10) ∧ Hid (val x0 x1 x2 x3 = val q0 q1 q2 q3 * 10 + r) ∧ Below w.heap.size w w' := by
  refine (callsIn_wide (n := 8)).1 ?_
  have hpad := pads
  have hfn : ∀ f, Fence.wide.fn f := fun _ => trivial
  refine callsIn_of_wp_marks Try.func10 rfl trivial ?_ rfl
  simp only [Try.ntmps10, List.size_toArray, List.length_cons, List.length_nil, Nat.reduceAdd, Nat.reduceSub, Array.replicate_succ, Array.replicate_zero, List.push_toArray, List.append_toArray, List.nil_append, List.cons_append]
  gi_wp2_with (gi_at_call 20; refine (callsIn_wide.2 (down_any _ _ _ _ _)).mono ?_; rintro e w' ⟨rfl, rfl⟩)
  refine wpIn_rangeFunc_ownF rfl (by omega) (gf := 28) (lb := #[.pointer (some ⟨w.heap.size + 1 + 1 + 1, 0, none⟩)]) rfl trivial (enters_of Try.func28 (by kernel_rfl) rfl)
    (down_stops 7 (by omega) (w.heap.size + 1 + 1 + 1) hx 24 _ (by (repeat (first | (with_reducible exact al_at (by simp [pad_size])) | (with_reducible refine Eq.trans (dr_blk _ _) ?_) | (with_reducible refine Eq.trans (al_old (by first | omega | (simp [pad_size]; done) | (simp [pad_size]; omega))) ?_) | (with_reducible refine Eq.trans (pad_block (by first | omega | (simp [pad_size]; done) | (simp [pad_size]; omega)) (by first | omega | (simp [pad_size]; done) | (simp [pad_size]; omega))) ?_) | (with_reducible assumption))))) (fun h k => Eq.trans k h) (fun W l o o' hl h _ _ => ?hkb) (Below.refl _ _) (fun _ => rfl)
    (fun pre W => (∃ Q0 Q1 Q2 Q3 R : Int, W.heap[w.heap.size + 1]? = some (.cells #[.int .u64 Q0, .int .u64 Q1, .int .u64 Q2, .int .u64 Q3] 24 (0, 0)) ∧ W.heap[w.heap.size + 1 + 1]? = some (.cells #[.int .u64 R] 22 (0, 0)) ∧ W.heap[w.heap.size + 1 + 1 + 1]? = some (.cells #[.int .u64 x0, .int .u64 x1, .int .u64 x2, .int .u64 x3] 24 (0, 0)) ∧ Lim Q0 Q1 Q2 Q3 ∧ (0 ≤ R ∧ R < 10) ∧
      (pre <+: limbsDown hx → topn pre.length x0 x1 x2 x3 = topn pre.length Q0 Q1 Q2 Q3 * 10 + R)) ∧ Below w.heap.size w W)
    (fun _ _ _ => False)
    (OwnFrom.and (Own.from (fun s A B row hs hg hr => by obtain ⟨Q0, Q1, Q2, Q3, R, p1, p2, p3, p4⟩ := hs; exact ⟨Q0, Q1, Q2, Q3, R, block_kept p1 hg hr, block_kept p2 hg hr, block_kept p3 hg hr, p4⟩) _) (ownFrom_below (Nat.le_refl _) (by simp [pad_size]; omega)))
    (fun _ _ _ _ _ hs _ _ => hs)
    ⟨⟨0, 0, 0, 0, 0, by show _ = some (Obj.cells #[.int .u64 0, .int .u64 0, .int .u64 0, .int .u64 0] 24 (0, 0)); (repeat (first | (with_reducible exact al_at (by simp [pad_size])) | (with_reducible refine Eq.trans (dr_blk _ _) ?_) | (with_reducible refine Eq.trans (al_old (by first | omega | (simp [pad_size]; done) | (simp [pad_size]; omega))) ?_) | (with_reducible refine Eq.trans (pad_block (by first | omega | (simp [pad_size]; done) | (simp [pad_size]; omega)) (by first | omega | (simp [pad_size]; done) | (simp [pad_size]; omega))) ?_) | (with_reducible assumption))), by show _ = some (Obj.cells #[.int .u64 0] 22 (0, 0)); (repeat (first | (with_reducible exact al_at (by simp [pad_size])) | (with_reducible refine Eq.trans (dr_blk _ _) ?_) | (with_reducible refine Eq.trans (al_old (by first | omega | (simp [pad_size]; done) | (simp [pad_size]; omega))) ?_) | (with_reducible refine Eq.trans (pad_block (by first | omega | (simp [pad_size]; done) | (simp [pad_size]; omega)) (by first | omega | (simp [pad_size]; done) | (simp [pad_size]; omega))) ?_) | (with_reducible assumption))), by (repeat (first | (with_reducible exact al_at (by simp [pad_size])) | (with_reducible refine Eq.trans (dr_blk _ _) ?_) | (with_reducible refine Eq.trans (al_old (by first | omega | (simp [pad_size]; done) | (simp [pad_size]; omega))) ?_) | (with_reducible refine Eq.trans (pad_block (by first | omega | (simp [pad_size]; done) | (simp [pad_size]; omega)) (by first | omega | (simp [pad_size]; done) | (simp [pad_size]; omega))) ?_) | (with_reducible assumption))), lim_zero, by omega, fun _ => by show (0 : Int) = 0 * _ + 0; omega⟩, by (repeat (first | (with_reducible exact Below.refl _ _) | (with_reducible assumption) | (with_reducible apply bd) | (with_reducible apply ba) | (with_reducible refine bp ?_ (by first | omega | (simp [pad_size]; done) | (simp [pad_size]; omega)) _ _) | (with_reducible refine bs ?_ (by first | omega | (simp [pad_size]; done) | (simp [pad_size]; omega)) _) | (with_reducible refine bt ?_ (by assumption))))⟩
    (fun x => { tmps := #[.agg #[.int .u64 x0, .int .u64 x1, .int .u64 x2, .int .u64 x3], .pointer (some ⟨w.heap.size, 0, none⟩), .pointer (some ⟨w.heap.size + 1, 0, none⟩), .pointer (some ⟨w.heap.size + 1 + 1, 0, none⟩), .int .i64 (x.1.1 : Int), .int .u64 x.1.2, .agg #[.int .u64 x0, .int .u64 x1, .int .u64 x2, .int .u64 x3], .func (.func 28) #[] #[.pointer (some ⟨w.heap.size + 1 + 1 + 1, 0, none⟩)], .int .i64 (x.1.1 : Int), .int .u64 x.1.2, undef, undef, undef, undef, undef, undef, undef, undef, undef, undef], defers := [] }) ?assign ?body ?done ?stop
  case hkb =>
    unfold KpB
    rw [World.putObj_heap_other]
    intro e; simp [pad_size] at hl; omega
  case assign =>
    intro l x W K hK
    gi_wp2
    exact hK
  case body =>
    rintro l pre ⟨⟨i, v⟩, hi, hv⟩ W ⟨⟨Q0, Q1, Q2, Q3, R, p1, p2, p3, hQ, hR, hq⟩, hB⟩ hlen
    obtain ⟨cA, fA⟩ := cells_of_block p1
    obtain ⟨cB, fB⟩ := cells_of_block p2
    have lA := (Array.getElem?_eq_some_iff.1 p1).1
    have lB := (Array.getElem?_eq_some_iff.1 p2).1
    have lC := (Array.getElem?_eq_some_iff.1 p3).1
    have hq : Hid _ := hq
    dsimp only at hi hv
    rcases (show i = 0 ∨ i = 1 ∨ i = 2 ∨ i = 3 by omega) with rfl | rfl | rfl | rfl
    all_goals
      gi_wp2_with (gi_at_call 21; refine (CallsIn.inRound l (callsIn_wide.2 (div64_any R v 10 hR.1 hR.2 (by omega) hv _))).mono ?_; rintro e w1 ⟨q, z, rfl, hq1, hz, hqz, hb⟩; obtain ⟨m6, g6, d6, hm6, rfl⟩ := pad_of hb; clear hb; have lA6 : w.heap.size + 1 < m6 := (by omega); have lB6 : w.heap.size + 1 + 1 < m6 := (by omega); have lC6 : w.heap.size + 1 + 1 + 1 < m6 := (by omega))
    · obtain ⟨y1, y2, y3, y4, y5⟩ := blk2 (i := 0) (.int .u64 q) (.int .u64 z) p1 p2 (by omega)
      refine ⟨y5.trans (keeps_below (bp (Below.refl _ _) (by rw [y4]; exact hm6) _ _)), (pad_block (by rw [y4]; exact lC) lC6).trans (y3 _ (by omega) (by omega)), ⟨q, Q1, Q2, Q3, z, (pad_block (by rw [y4]; exact lA) lA6).trans y1, (pad_block (by rw [y4]; exact lB) lB6).trans y2, (pad_block (by rw [y4]; exact lC) lC6).trans ((y3 _ (by omega) (by omega)).trans p3), ⟨hq1, hQ.2.1, hQ.2.2.1, hQ.2.2.2⟩, hz, fun hpre => ?_⟩, ?_⟩
      · obtain ⟨hp, hn', hval⟩ := pref_last hx hpre
        have hn : pre.length = 3 := hn'
        have hq0 := hq.out hp
        rw [hn] at hq0
        rw [List.length_append, hn]
        have hve : v = x0 := hval
        have := ten_step hq0 hqz.out
        refine Eq.trans ?_ (this.trans ?_)
        · rw [← hve]; simp only [topn, List.length_cons, List.length_nil]; (try omega)
        · simp only [topn, List.length_cons, List.length_nil, Int.zero_mul, Int.zero_add]
      · (repeat (first | (with_reducible exact Below.refl _ _) | (with_reducible assumption) | (with_reducible apply bd) | (with_reducible apply ba) | (with_reducible refine bp ?_ (by first | omega | (simp [pad_size]; done) | (simp [pad_size]; omega)) _ _) | (with_reducible refine bs ?_ (by first | omega | (simp [pad_size]; done) | (simp [pad_size]; omega)) _) | (with_reducible refine bt ?_ (by assumption))))
    · obtain ⟨y1, y2, y3, y4, y5⟩ := blk2 (i := 1) (.int .u64 q) (.int .u64 z) p1 p2 (by omega)
      refine ⟨y5.trans (keeps_below (bp (Below.refl _ _) (by rw [y4]; exact hm6) _ _)), (pad_block (by rw [y4]; exact lC) lC6).trans (y3 _ (by omega) (by omega)), ⟨Q0, q, Q2, Q3, z, (pad_block (by rw [y4]; exact lA) lA6).trans y1, (pad_block (by rw [y4]; exact lB) lB6).trans y2, (pad_block (by rw [y4]; exact lC) lC6).trans ((y3 _ (by omega) (by omega)).trans p3), ⟨hQ.1, hq1, hQ.2.2.1, hQ.2.2.2⟩, hz, fun hpre => ?_⟩, ?_⟩
      · obtain ⟨hp, hn', hval⟩ := pref_last hx hpre
        have hn : pre.length = 2 := hn'
        have hq0 := hq.out hp
        rw [hn] at hq0
        rw [List.length_append, hn]
        have hve : v = x1 := hval
        have := ten_step hq0 hqz.out
        refine Eq.trans ?_ (this.trans ?_)
        · rw [← hve]; simp only [topn, List.length_cons, List.length_nil]; (try omega)
        · simp only [topn, List.length_cons, List.length_nil, Int.zero_mul, Int.zero_add]
      · (repeat (first | (with_reducible exact Below.refl _ _) | (with_reducible assumption) | (with_reducible apply bd) | (with_reducible apply ba) | (with_reducible refine bp ?_ (by first | omega | (simp [pad_size]; done) | (simp [pad_size]; omega)) _ _) | (with_reducible refine bs ?_ (by first | omega | (simp [pad_size]; done) | (simp [pad_size]; omega)) _) | (with_reducible refine bt ?_ (by assumption))))
    · obtain ⟨y1, y2, y3, y4, y5⟩ := blk2 (i := 2) (.int .u64 q) (.int .u64 z) p1 p2 (by omega)
      refine ⟨y5.trans (keeps_below (bp (Below.refl _ _) (by rw [y4]; exact hm6) _ _)), (pad_block (by rw [y4]; exact lC) lC6).trans (y3 _ (by omega) (by omega)), ⟨Q0, Q1, q, Q3, z, (pad_block (by rw [y4]; exact lA) lA6).trans y1, (pad_block (by rw [y4]; exact lB) lB6).trans y2, (pad_block (by rw [y4]; exact lC) lC6).trans ((y3 _ (by omega) (by omega)).trans p3), ⟨hQ.1, hQ.2.1, hq1, hQ.2.2.2⟩, hz, fun hpre => ?_⟩, ?_⟩
      · obtain ⟨hp, hn', hval⟩ := pref_last hx hpre
        have hn : pre.length = 1 := hn'
        have hq0 := hq.out hp
        rw [hn] at hq0
        rw [List.length_append, hn]
        have hve : v = x2 := hval
        have := ten_step hq0 hqz.out
        refine Eq.trans ?_ (this.trans ?_)
        · rw [← hve]; simp only [topn, List.length_cons, List.length_nil]; (try omega)
        · simp only [topn, List.length_cons, List.length_nil, Int.zero_mul, Int.zero_add]
      · (repeat (first | (with_reducible exact Below.refl _ _) | (with_reducible assumption) | (with_reducible apply bd) | (with_reducible apply ba) | (with_reducible refine bp ?_ (by first | omega | (simp [pad_size]; done) | (simp [pad_size]; omega)) _ _) | (with_reducible refine bs ?_ (by first | omega | (simp [pad_size]; done) | (simp [pad_size]; omega)) _) | (with_reducible refine bt ?_ (by assumption))))
    · obtain ⟨y1, y2, y3, y4, y5⟩ := blk2 (i := 3) (.int .u64 q) (.int .u64 z) p1 p2 (by omega)
      refine ⟨y5.trans (keeps_below (bp (Below.refl _ _) (by rw [y4]; exact hm6) _ _)), (pad_block (by rw [y4]; exact lC) lC6).trans (y3 _ (by omega) (by omega)), ⟨Q0, Q1, Q2, q, z, (pad_block (by rw [y4]; exact lA) lA6).trans y1, (pad_block (by rw [y4]; exact lB) lB6).trans y2, (pad_block (by rw [y4]; exact lC) lC6).trans ((y3 _ (by omega) (by omega)).trans p3), ⟨hQ.1, hQ.2.1, hQ.2.2.1, hq1⟩, hz, fun hpre => ?_⟩, ?_⟩
      · obtain ⟨hp, hn', hval⟩ := pref_last hx hpre
        have hn : pre.length = 0 := hn'
        have hq0 := hq.out hp
        rw [hn] at hq0
        rw [List.length_append, hn]
        have hve : v = x3 := hval
        have := ten_step hq0 hqz.out
        refine Eq.trans ?_ (this.trans ?_)
        · rw [← hve]; simp only [topn, List.length_cons, List.length_nil]; (try omega)
        · simp only [topn, List.length_cons, List.length_nil, Int.zero_mul, Int.zero_add]
      · (repeat (first | (with_reducible exact Below.refl _ _) | (with_reducible assumption) | (with_reducible apply bd) | (with_reducible apply ba) | (with_reducible refine bp ?_ (by first | omega | (simp [pad_size]; done) | (simp [pad_size]; omega)) _ _) | (with_reducible refine bs ?_ (by first | omega | (simp [pad_size]; done) | (simp [pad_size]; omega)) _) | (with_reducible refine bt ?_ (by assumption))))
  case done =>
    rintro D ys W hD rfl ⟨⟨Q0, Q1, Q2, Q3, R, p1, p2, p3, hQ, hR, hq⟩, hB⟩ hK
    have hmx : Try.prog.follows .mixedOrders = true := by kernel_rfl
    obtain ⟨cA, fA⟩ := cells_of_block p1
    obtain ⟨cB, fB⟩ := cells_of_block p2
    have hq : Hid _ := hq
    gi_wp2
    apply wpIn_calm
    gi_region_with_o (fail)
    all_goals gi_wp2
    all_goals
      have s0 := set_same (i := 0) (v := .int .u64 Q0) p1 rfl
      have s1 := set_same (i := 1) (v := .int .u64 Q1) p1 rfl
      have s2 := set_same (i := 2) (v := .int .u64 Q2) p1 rfl
      have s3 := set_same (i := 3) (v := .int .u64 Q3) p1 rfl
      have s4 := set_same (i := 0) (v := .int .u64 R) p2 rfl
      simp only [s0, s1, s2, s3, s4]
      have hK' : W.drew.heap[D]? = _ := hK
      refine ⟨by simp [Act.put], .inl ⟨_, _, rfl, run_takeDeferred hK', ?_⟩⟩
      have hb3 := putObj_block (W := W.drew) (o'' := .deferred none) p1 hK' (by simp)
      have hb4 := putObj_block (W := W.drew) (o'' := .deferred none) p2 hK' (by simp)
      obtain ⟨c3, f3⟩ := cells_of_block hb3
      obtain ⟨c4, f4⟩ := cells_of_block hb4
      have hq4 := hq.out (List.prefix_refl _)
      have e4 : (limbsDown hx).length = 4 := rfl
      rw [e4, topn4, topn4] at hq4
      refine ⟨.tuple #[.agg #[.int .u64 Q0, .int .u64 Q1, .int .u64 Q2, .int .u64 Q3], .int .u64 R], ?_, Q0, Q1, Q2, Q3, R, rfl, hQ, hR, hq4, ?_⟩
      · simp [results, Try.results10, go_sem, c3, c4, Act.put]
      · exact Below.trans hB.drew (belowK_b (w := w) (Nat.le_refl _) _ D _ _ (by simp [pad_size] at hD; omega) hK' rfl rfl)
  case stop =>
    rintro D c pre W hD hpre h hK
    exact h.elim
end Go.Proofs.Ytbfpagmibjbbkaa
