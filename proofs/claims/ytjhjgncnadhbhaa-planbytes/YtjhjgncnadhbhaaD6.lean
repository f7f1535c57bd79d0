
/- The reference's Add. -/
import Derived.Test.YtjhjgncnadhbhaaD2
import Derived.Test.YtjhjgncnadhbhaaD3
import Derived.Test.YtjhjgncnadhbhaaD5
set_option linter.unusedSimpArgs false
set_option linter.unusedVariables false
set_option maxRecDepth 20000
namespace Go.Proofs.Ytjhjgncnadhbhaa
open Go.RowKit

set_option maxRecDepth 100000 in
theorem sm_dg {x0 x1 x2 x3 : Int} (hx : Lim x0 x1 x2 x3) : sm (dg x0 x1 x2 x3) 16 = val x0 x1 x2 x3 := by
  unfold Lim at hx
  simp only [sm, dg, lm, val, Nat.reduceLT, if_true, if_false, Nat.reduceMod, Nat.reduceMul, Int.reducePow]
  omega
theorem val_Lp (dl : Nat → Int) : val (Lp dl 16 0) (Lp dl 16 1) (Lp dl 16 2) (Lp dl 16 3) = sm dl 16 := by
  simp only [sm, Lp, val, Nat.reduceLT, Nat.reduceAdd, Nat.reduceMul, if_true, Int.reducePow]
  omega
theorem lim_Lp {dl : Nat → Int} (h : ∀ i, i < 16 → 0 ≤ dl i ∧ dl i < 65536) : Lim (Lp dl 16 0) (Lp dl 16 1) (Lp dl 16 2) (Lp dl 16 3) := by
  have b0 := h 0 (by omega); have b1 := h 1 (by omega); have b2 := h 2 (by omega); have b3 := h 3 (by omega); have b4 := h 4 (by omega); have b5 := h 5 (by omega); have b6 := h 6 (by omega); have b7 := h 7 (by omega); have b8 := h 8 (by omega); have b9 := h 9 (by omega); have b10 := h 10 (by omega); have b11 := h 11 (by omega); have b12 := h 12 (by omega); have b13 := h 13 (by omega); have b14 := h 14 (by omega); have b15 := h 15 (by omega)
  unfold Lim
  simp only [Lp, Nat.reduceLT, Nat.reduceAdd, Nat.reduceMul, if_true]
  omega

theorem row_below {W W' : World} {base : Nat} {e : TypeId} {size : Nat} {v : Value} {n : Nat} {xs : List Value} (h : W.ownsRow base e size v n xs) (hb : Below W.heap.size W W') : W'.ownsRow base e size v n xs := by
  obtain ⟨h1, h2⟩ := h
  refine ⟨h1, ?_⟩
  rcases h2 with h2 | ⟨g, cap, cur, hv, hg, hh, r⟩
  · exact .inl h2
  · exact .inr ⟨g, cap, cur, hv, hg, (hb.block g (Array.getElem?_eq_some_iff.1 hh).1).trans hh, r⟩
theorem bt' {n : Nat} {A B C : World} (h : Below n A B) (k : Below B.heap.size B C) (hn : n ≤ B.heap.size) : Below n A C := h.trans (k.mono hn)
theorem cell_other {W : World} {b o g k : Nat} {u : Value} (h : g ≠ b) : (W.setCell ⟨b, o, none⟩ u).cell? ⟨g, k, none⟩ = W.cell? ⟨g, k, none⟩ := by
  unfold World.cell?
  rw [show (W.setCell ⟨b, o, none⟩ u).heap[(⟨g, k, none⟩ : Addr).block]? = W.heap[(⟨g, k, none⟩ : Addr).block]? from Below.heap_setCell W ⟨b, o, none⟩ u g h]
theorem add_chain {A B C D : World} (h : Below A.heap.size A B) (h5 : Below A.heap.size B C) (h6 : Below C.heap.size C D) : Below A.heap.size A D := bt (h.trans h5) h6
theorem tail16 {dq : Nat → Int} (h : dq 16 = 0) : ∀ k, 16 ≤ k → k < 17 → dq k = 0 := by
  intro k h1 h2
  obtain rfl : k = 16 := by omega
  exact h
theorem dg_lim {x0 x1 x2 x3 : Int} (k : Nat) : 0 ≤ dg x0 x1 x2 x3 k ∧ dg x0 x1 x2 x3 k < 65536 := by unfold dg; omega
theorem sm_add {a b c : Nat → Int} (n : Nat) (h : ∀ i, i < n → c i = a i + b i) : sm c n = sm a n + sm b n := by
  induction n with
  | zero => rfl
  | succ n ih => simp only [sm]; rw [ih (fun i hi => h i (by omega)), h n (by omega), Int.add_mul]; omega

theorem digits_o (x0 x1 x2 x3 : Int) (hx : Lim x0 x1 x2 x3) (w : World) :
    Calls Try.prog 80 #[.agg #[.int .u64 x0, .int .u64 x1, .int .u64 x2, .int .u64 x3]] w fun e w' => ∃ g cap, e = .returned (.slice (some ⟨g, 0, none⟩) 16 cap) ∧ w'.ownsRow w.heap.size 28 1 (.slice (some ⟨g, 0, none⟩) 16 cap) 16 (encU (fl (dg x0 x1 x2 x3) 16)) ∧ w.heap.size ≤ g ∧ g < w'.heap.size ∧ Below w.heap.size w w' := by
  refine (digits_any x0 x1 x2 x3 hx w).mono ?_
  rintro e w' ⟨v, rfl, hrow, hb⟩
  obtain ⟨g, cap, rfl, h1, h2, -, -⟩ := row_words (n := 15) hrow (dgs_len _ _ _ _ _)
  exact ⟨g, cap, rfl, hrow, h1, h2, hb⟩

set_option maxRecDepth 100000 in
set_option maxHeartbeats 4000000 in
theorem addR_any (x0 x1 x2 x3 y0 y1 y2 y3 : Int) (hx : Lim x0 x1 x2 x3) (hy : Lim y0 y1 y2 y3) (w : World) :
    Calls Try.prog 61 #[.agg #[.int .u64 x0, .int .u64 x1, .int .u64 x2, .int .u64 x3], .agg #[.int .u64 y0, .int .u64 y1, .int .u64 y2, .int .u64 y3]] w fun e w' => ∃ dq : Nat → Int, (∀ i, i < 17 → 0 ≤ dq i ∧ dq i < 65536) ∧ sm dq 17 = val x0 x1 x2 x3 + val y0 y1 y2 y3 ∧
      ((dq 16 = 0 ∧ e = .returned (.tuple #[.agg #[.int .u64 (Lp dq 16 0), .int .u64 (Lp dq 16 1), .int .u64 (Lp dq 16 2), .int .u64 (Lp dq 16 3)], .bool true])) ∨ (0 < dq 16 ∧ e = .returned (.tuple #[.agg #[.int .u64 0, .int .u64 0, .int .u64 0, .int .u64 0], .bool false]))) ∧ Below w.heap.size w w' := by
  have hpad := pads
  go_enter Try.func61, Try.ntmps61
  go_upto_region 1 with fail
  go_cut [6, 7] from 9 to 12 (fun s6 s7 wx => ∃ (g1 c1 g2 c2 : Nat), s6 = .slice (some ⟨g1, 0, none⟩) 16 c1 ∧ s7 = .slice (some ⟨g2, 0, none⟩) 16 c2 ∧ wx.ownsRow (w.heap.size + 1 + 1 + 1) 28 1 (.slice (some ⟨g1, 0, none⟩) 16 c1) 16 (encU (fl (dg x0 x1 x2 x3) 16)) ∧ g1 ≠ g2 ∧ g2 < wx.heap.size ∧ (∀ k, k < 16 → wx.cell? ⟨g2, k, none⟩ = some (.int .u64 (dg y0 y1 y2 y3 k))) ∧ Below (w.heap.size + 1 + 1 + 1) (((w.alloc (.cells #[.int .u64 x0, .int .u64 x1, .int .u64 x2, .int .u64 x3] 64)).alloc (.cells #[.int .u64 y0, .int .u64 y1, .int .u64 y2, .int .u64 y3] 64)).alloc (.cells #[.int .u64 0, .int .u64 0, .int .u64 0, .int .u64 0] 64)) wx)
  case first =>
    go_region_with (first
      | (go_at_call 80; with_reducible refine (digits_o _ _ _ _ hx _).mono ?_; rintro e w1 ⟨r1, cap1, rfl, ho1, hl1, hg1, hb1⟩; obtain ⟨m1, g1, d1, hm1, rfl⟩ := pad_of hb1; clear hb1; (try simp [pad_size] at hm1); have st1_w := sz3 (n := w.heap.size) (m := m1) (by omega))
      | (go_at_call 80; with_reducible refine (digits_o _ _ _ _ hy _).mono ?_; rintro e w2 ⟨r2, cap2, rfl, ho2, hl2, hg2, hb2⟩))
    all_goals (go_wp2_with fail; go_meet)
    all_goals
      obtain ⟨r2', cap2', hv2, -, -, hcell2, -⟩ := row_words (n := 15) ho2 (fl_len _ _)
      cases hv2
      refine ⟨r1, cap1, r2, cap2, rfl, rfl, row_base (row_below ho1 hb2) (by simp), Nat.ne_of_lt (Nat.lt_of_lt_of_le hg1 hl2), hg2, fun k hk => by rw [hcell2 k hk]; simp [fl], ?_⟩
      refine bt' ?_ hb2 (by simp [pad_size]; omega)
      have hp := bp (Below.refl _ (((w.alloc (.cells #[.int .u64 x0, .int .u64 x1, .int .u64 x2, .int .u64 x3] 64)).alloc (.cells #[.int .u64 y0, .int .u64 y1, .int .u64 y2, .int .u64 y3] 64)).alloc (.cells #[.int .u64 0, .int .u64 0, .int .u64 0, .int .u64 0] 64))) (m := m1) (by simp; omega) g1 d1
      simpa using hp
  case rest =>
    obtain ⟨g1, c1, g2, c2, rfl, rfl, hr, hne, hg2, hc2, hB⟩ := hcut
    go_wp2
    go_loopw [8] (fun i wr => ∃ (k : Nat) (dl : Nat → Int), k ≤ 16 ∧ i = .int .i64 k ∧ wr.ownsRow (w.heap.size + 1 + 1 + 1) 28 1 (.slice (some ⟨g1, 0, none⟩) 16 c1) 16 (encU (fl dl 16)) ∧ (∀ j, j < k → dl j = dg x0 x1 x2 x3 j + dg y0 y1 y2 y3 j) ∧ (∀ j, k ≤ j → dl j = dg x0 x1 x2 x3 j) ∧ (∀ j, j < 16 → wr.cell? ⟨g2, j, none⟩ = some (.int .u64 (dg y0 y1 y2 y3 j))) ∧ Below (w.heap.size + 1 + 1 + 1) (((w.alloc (.cells #[.int .u64 x0, .int .u64 x1, .int .u64 x2, .int .u64 x3] 64)).alloc (.cells #[.int .u64 y0, .int .u64 y1, .int .u64 y2, .int .u64 y3] 64)).alloc (.cells #[.int .u64 0, .int .u64 0, .int .u64 0, .int .u64 0] 64)) wr) (fun i _ => 16 - (intOf i).toNat)
    case atStart => exact ⟨0, dg x0 x1 x2 x3, by omega, rfl, hr, fun j h => by omega, fun j _ => rfl, hc2, hB⟩
    case round =>
      clear hr hc2 hB hg2
      obtain ⟨k, dl, hk, rfl, hr, hlo, hhi, hc2, hB⟩ := hrel
      obtain ⟨g1', c1', hv, hg1, hgl, hcell, hfz⟩ := row_words (n := 15) hr (fl_len _ _)
      cases hv
      by_cases hlt : k < 16
      · have ck : wr.cell? ⟨g1, k, none⟩ = some (.int .u64 (dg x0 x1 x2 x3 k)) := by rw [hcell k hlt]; simp [fl, hhi k (Nat.le_refl _)]
        have fk := hfz k
        have c2k := hc2 k hlt
        have p1 := @dg_lim x0 x1 x2 x3 k
        have p2 := @dg_lim y0 y1 y2 y3 k
        obtain ⟨t, hte⟩ : ∃ t, Hid (t = dg x0 x1 x2 x3 k + dg y0 y1 y2 y3 k) := ⟨_, rfl⟩
        have hw : IntKind.u64.wrap (dg x0 x1 x2 x3 k + dg y0 y1 y2 y3 k) = t := by rw [IntKind.wrap_u64]; have := hte.out; omega
        clear hcell hfz
        go_wp2
        go_region
        all_goals go_wp2
        all_goals go_roundw
        case rel =>
          refine ⟨k + 1, upd dl k t, by omega, by go_num, ?_, ?_, ?_, ?_, ?_⟩
          · rw [← fl_set]; exact row_set _ hr hlt
          · intro j hj; unfold upd; split
            · rename_i e; rw [e]; exact hte.out
            · exact hlo j (by omega)
          · intro j hj; unfold upd; rw [if_neg (by omega)]; exact hhi j (by omega)
          · intro j hj; exact (cell_other hne.symm).trans (hc2 j hj)
          · exact (hB.setCell (p := ⟨g1, k, none⟩) hg1 _).drew
        case measure => simp [intOf]; omega
      · have hk' : k = 16 := by omega
        subst hk'
        have hdl : ∀ i, i < 16 → 0 ≤ dl i ∧ dl i ≤ 131070 := fun i hi => by rw [hlo i hi]; have := @dg_lim x0 x1 x2 x3 i; have := @dg_lim y0 y1 y2 y3 i; omega
        have hsum : sm dl 16 = val x0 x1 x2 x3 + val y0 y1 y2 y3 := by rw [sm_add 16 hlo, sm_dg hx, sm_dg hy]
        have hsz : w.heap.size + 1 + 1 + 1 ≤ wr.heap.size := by have := hB.size; simpa using this
        clear hcell hfz hc2 hlo hhi
        go_wp2_with (first
          | (go_at_call 82; refine (carry_any dl hdl _ g1 c1 _ hsz hr).mono ?_; rintro e w5 ⟨dq, v5, rfl, hr5, hq, hsm5, hb5⟩; obtain ⟨g5, cap5, rfl, hg5, hgl5, hcell5, -⟩ := row_words (n := 16) hr5 (fl_len _ _); have hc5 : ∀ k, k < 17 → w5.cell? ⟨g5, k, none⟩ = some (.int .u64 (dq k)) := (fun k hk => by rw [hcell5 k hk]; simp [fl]); clear hcell5; rcases (show dq 16 = 0 ∨ 0 < dq 16 by have := hq 16 (by omega); omega) with h16 | h16)
          | (go_at_call 81; refine (ofR_fit dq 17 g5 cap5 (by omega) (fun k hk => hq k (by omega)) (tail16 h16) _ hgl5 hc5).mono ?_; rintro e w6 ⟨rfl, hb6⟩; obtain ⟨m1, f1, d1, hm1, rfl⟩ := pad_of (add_chain (A := (((w.alloc (.cells #[.int .u64 x0, .int .u64 x1, .int .u64 x2, .int .u64 x3] 64)).alloc (.cells #[.int .u64 y0, .int .u64 y1, .int .u64 y2, .int .u64 y3] 64)).alloc (.cells #[.int .u64 0, .int .u64 0, .int .u64 0, .int .u64 0] 64))) (by simpa using hB) (by simpa using hb5) hb6); clear hb6; simp at hm1; have st1 := sz3 (n := w.heap.size) (m := m1) hm1)
          | (go_at_call 81; refine (ofR_over dq 17 g5 cap5 (by omega) (fun k hk => hq k (by omega)) h16 _ hgl5 hc5).mono ?_; rintro e w6 ⟨rfl, hb6⟩; obtain ⟨m1, f1, d1, hm1, rfl⟩ := pad_of (add_chain (A := (((w.alloc (.cells #[.int .u64 x0, .int .u64 x1, .int .u64 x2, .int .u64 x3] 64)).alloc (.cells #[.int .u64 y0, .int .u64 y1, .int .u64 y2, .int .u64 y3] 64)).alloc (.cells #[.int .u64 0, .int .u64 0, .int .u64 0, .int .u64 0] 64))) (by simpa using hB) (by simpa using hb5) hb6); clear hb6; simp at hm1; have st1 := sz3 (n := w.heap.size) (m := m1) hm1))
        · refine bodyPost_ret (v := .tuple #[.agg #[.int .u64 (Lp dq 16 0), .int .u64 (Lp dq 16 1), .int .u64 (Lp dq 16 2), .int .u64 (Lp dq 16 3)], .bool true]) (by simp only [results, Try.results61]; go_simp) rfl ⟨dq, hq, hsm5.trans hsum, .inl ⟨h16, rfl⟩, by (repeat (first | (with_reducible exact Below.refl _ _) | (with_reducible assumption) | (with_reducible apply bd) | (with_reducible apply ba) | (with_reducible refine bp ?_ (by first | omega | (simp [pad_size]; done) | (simp [pad_size]; omega)) _ _) | (with_reducible refine bs ?_ (by first | omega | (simp [pad_size]; done) | (simp [pad_size]; omega)) _) | (with_reducible refine bt ?_ (by assumption))))⟩
        · refine bodyPost_ret (v := .tuple #[.agg #[.int .u64 0, .int .u64 0, .int .u64 0, .int .u64 0], .bool false]) (by simp only [results, Try.results61]; go_simp) rfl ⟨dq, hq, hsm5.trans hsum, .inr ⟨h16, rfl⟩, by (repeat (first | (with_reducible exact Below.refl _ _) | (with_reducible assumption) | (with_reducible apply bd) | (with_reducible apply ba) | (with_reducible refine bp ?_ (by first | omega | (simp [pad_size]; done) | (simp [pad_size]; omega)) _ _) | (with_reducible refine bs ?_ (by first | omega | (simp [pad_size]; done) | (simp [pad_size]; omega)) _) | (with_reducible refine bt ?_ (by assumption))))⟩
end Go.Proofs.Ytjhjgncnadhbhaa
