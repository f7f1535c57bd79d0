
/- The reference's Of, Amount, One, Same. -/
import Derived.Test.YtjhjgncnadhbhaaC2
import Derived.Laws.Tables
set_option linter.unusedSimpArgs false
set_option linter.unusedVariables false
set_option maxRecDepth 20000
namespace Go.Proofs.Ytjhjgncnadhbhaa
open Go.RowKit

theorem brow {a w : World} (h : Below a.heap.size a w) {g : Nat} (hg : a.heap.size ≤ g) (cs : Array Value) : Below a.heap.size a (w.setRow g cs) :=
  h.trans ⟨setRow_os _ _ _, setRow_tape _ _ _, setRow_output _ _ _, Nat.le_of_eq (setRow_size _ _ _).symm, fun k hk => setRow_other _ _ _ _ (by omega)⟩

theorem ofP_lst {z : Nat → Cn} (hz : Purse z) : ∀ k, k ≤ 8 → ∀ d, ofP (lst z k) d = if d < k then z d else ⟨d, 0, 0, 0, 0⟩
  | 0, _, d => by simp [lst, ofP, zeroP]
  | k + 1, hk, d => by
    have ih := ofP_lst hz k (by omega) d
    have hzk := hz k (by omega)
    simp only [lst]
    rcases Bool.eq_false_or_eq_true (eq4 (z k).a (z k).b (z k).c (z k).e 0 0 0 0) with hq | hq
    · rw [oneL, if_pos hq, List.append_nil, ih]
      by_cases e : d = k
      · subst e
        rw [if_neg (by omega), if_pos (by omega)]
        obtain ⟨h0, h1, h2, h3⟩ := eq4_true.1 hq
        have := hzk.2
        cases hc : z d with | mk d' a b c e' => rw [hc] at h0 h1 h2 h3 this; simp at h0 h1 h2 h3 this; simp [h0, h1, h2, h3, this]
      · by_cases h : d < k
        · rw [if_pos h, if_pos (by omega)]
        · rw [if_neg h, if_neg (by omega)]
    · rw [oneL, if_neg (by simp [hq]), ofP_snoc]
      have e8 : ((z k).d % 8).toNat = k := by rw [hzk.2]; omega
      rw [e8]
      unfold putP
      by_cases e : d = k
      · subst e
        rw [if_pos rfl, if_pos (by omega)]
        have := hzk.2
        cases hc : z d with | mk d' a b c e' => rw [hc] at this; simp at this; simp [this]
      · rw [if_neg e, ih]
        by_cases h : d < k
        · rw [if_pos h, if_pos (by omega)]
        · rw [if_neg h, if_neg (by omega)]
theorem ofP_full {z : Nat → Cn} (hz : Purse z) {d : Nat} (hd : d < 8) : ofP (lst z 8) d = z d := by
  rw [ofP_lst hz 8 (Nat.le_refl _), if_pos hd]
theorem lst_mem {z : Nat → Cn} : ∀ k, ∀ x ∈ lst z k, ∃ d, d < k ∧ x = z d ∧ eq4 x.a x.b x.c x.e 0 0 0 0 = false
  | 0, x, h => by simp [lst] at h
  | k + 1, x, h => by
    simp only [lst] at h
    rcases List.mem_append.1 h with h | h
    · obtain ⟨d, h1, h2, h3⟩ := lst_mem k x h
      exact ⟨d, by omega, h2, h3⟩
    · unfold oneL at h
      split at h
      · simp at h
      · rename_i hq
        rw [List.mem_singleton] at h
        exact ⟨k, by omega, h, by rw [h]; simpa using hq⟩
theorem lst_wf {z : Nat → Cn} (hz : Purse z) : ∀ x ∈ lst z 8, CnWf x := by
  intro x hx
  obtain ⟨d, hd, rfl, -⟩ := lst_mem 8 x hx
  have := hz d hd
  refine ⟨?_, this.1⟩
  rw [this.2]; omega
theorem lst_below {z : Nat → Cn} (hz : Purse z) : ∀ x ∈ lst z 8, 0 ≤ x.d ∧ x.d < 8 := by
  intro x hx
  obtain ⟨d, hd, rfl, -⟩ := lst_mem 8 x hx
  rw [(hz d hd).2]; omega

set_option maxRecDepth 100000 in
set_option maxHeartbeats 8000000 in
theorem purseR_some (blk off cap : Nat) (l : List Cn) (w : World) (hlen : l.length ≤ 1048576) (hlt : blk < w.heap.size) (hall : ∀ i x, l[i]? = some x → CnAt w blk (off + i * 5) x) (hwf : ∀ x ∈ l, 0 ≤ x.d ∧ x.d < 8) :
    Calls Try.prog 60 #[.slice (some ⟨blk, off, none⟩) l.length cap] w fun e w' => ∃ z : Nat → Cn, Hid (z = ofP l) ∧ e = .returned (.agg #[.int .u64 (z 0).a, .int .u64 (z 0).b, .int .u64 (z 0).c, .int .u64 (z 0).e, .int .u64 (z 1).a, .int .u64 (z 1).b, .int .u64 (z 1).c, .int .u64 (z 1).e, .int .u64 (z 2).a, .int .u64 (z 2).b, .int .u64 (z 2).c, .int .u64 (z 2).e, .int .u64 (z 3).a, .int .u64 (z 3).b, .int .u64 (z 3).c, .int .u64 (z 3).e, .int .u64 (z 4).a, .int .u64 (z 4).b, .int .u64 (z 4).c, .int .u64 (z 4).e, .int .u64 (z 5).a, .int .u64 (z 5).b, .int .u64 (z 5).c, .int .u64 (z 5).e, .int .u64 (z 6).a, .int .u64 (z 6).b, .int .u64 (z 6).c, .int .u64 (z 6).e, .int .u64 (z 7).a, .int .u64 (z 7).b, .int .u64 (z 7).c, .int .u64 (z 7).e]) ∧ Below w.heap.size w w' := by
  have hpad := pads
  go_enter Try.func60, Try.ntmps60
  go_wp2
  go_loopw [4] (fun i wr => ∃ (k m : Nat) (g : Nat → Obj) (dr : Nat) (z : Nat → Cn), k ≤ l.length ∧ i = .int .i64 k ∧ Hid (z = ofP (l.take k)) ∧ w.heap.size + 1 + 1 ≤ m ∧ wr = pad ((w.alloc (.cells #[.int .u64 0, .int .u64 0, .int .u64 0, .int .u64 0, .int .u64 0, .int .u64 0, .int .u64 0, .int .u64 0, .int .u64 0, .int .u64 0, .int .u64 0, .int .u64 0, .int .u64 0, .int .u64 0, .int .u64 0, .int .u64 0, .int .u64 0, .int .u64 0, .int .u64 0, .int .u64 0, .int .u64 0, .int .u64 0, .int .u64 0, .int .u64 0, .int .u64 0, .int .u64 0, .int .u64 0, .int .u64 0, .int .u64 0, .int .u64 0, .int .u64 0, .int .u64 0] 96)).alloc (.cells #[.int .u64 (z 0).a, .int .u64 (z 0).b, .int .u64 (z 0).c, .int .u64 (z 0).e, .int .u64 (z 1).a, .int .u64 (z 1).b, .int .u64 (z 1).c, .int .u64 (z 1).e, .int .u64 (z 2).a, .int .u64 (z 2).b, .int .u64 (z 2).c, .int .u64 (z 2).e, .int .u64 (z 3).a, .int .u64 (z 3).b, .int .u64 (z 3).c, .int .u64 (z 3).e, .int .u64 (z 4).a, .int .u64 (z 4).b, .int .u64 (z 4).c, .int .u64 (z 4).e, .int .u64 (z 5).a, .int .u64 (z 5).b, .int .u64 (z 5).c, .int .u64 (z 5).e, .int .u64 (z 6).a, .int .u64 (z 6).b, .int .u64 (z 6).c, .int .u64 (z 6).e, .int .u64 (z 7).a, .int .u64 (z 7).b, .int .u64 (z 7).c, .int .u64 (z 7).e] 96)) m g dr) (fun i _ => l.length - (intOf i).toNat)
  case atStart =>
    obtain ⟨m, g, dr, hm, e⟩ := pad_of (Below.refl _ ((w.alloc (.cells #[.int .u64 0, .int .u64 0, .int .u64 0, .int .u64 0, .int .u64 0, .int .u64 0, .int .u64 0, .int .u64 0, .int .u64 0, .int .u64 0, .int .u64 0, .int .u64 0, .int .u64 0, .int .u64 0, .int .u64 0, .int .u64 0, .int .u64 0, .int .u64 0, .int .u64 0, .int .u64 0, .int .u64 0, .int .u64 0, .int .u64 0, .int .u64 0, .int .u64 0, .int .u64 0, .int .u64 0, .int .u64 0, .int .u64 0, .int .u64 0, .int .u64 0, .int .u64 0] 96)).alloc (.cells #[.int .u64 0, .int .u64 0, .int .u64 0, .int .u64 0, .int .u64 0, .int .u64 0, .int .u64 0, .int .u64 0, .int .u64 0, .int .u64 0, .int .u64 0, .int .u64 0, .int .u64 0, .int .u64 0, .int .u64 0, .int .u64 0, .int .u64 0, .int .u64 0, .int .u64 0, .int .u64 0, .int .u64 0, .int .u64 0, .int .u64 0, .int .u64 0, .int .u64 0, .int .u64 0, .int .u64 0, .int .u64 0, .int .u64 0, .int .u64 0, .int .u64 0, .int .u64 0] 96)))
    refine ⟨0, m, g, dr, zeroP, Nat.zero_le _, rfl, rfl, by simpa using hm, ?_⟩
    simp only [zeroP_a]
    exact e
  case round =>
    obtain ⟨k, m, g, dr, z, hk, rfl, hz, hm, rfl⟩ := hrel
    have st := sz2 (n := w.heap.size) (m := m) hm
    by_cases hkl : k < l.length
    · obtain ⟨h0, h1, h2, h3, h4⟩ := hall k l[k] (by simp [hkl])
      obtain ⟨hd0, hd1⟩ := hwf l[k] (List.getElem_mem hkl)
      have htk : Hid (ofP (l.take (k + 1)) = putP (ofP (l.take k)) (l[k].d % 8).toNat l[k]) := by
        unfold Hid; rw [List.take_succ_eq_append_getElem hkl, ofP_snoc]
      have hlm : blk < m := by omega
      have hgn : ¬ blk = w.heap.size := by omega
      have hgn1 : ¬ blk = w.heap.size + 1 := by omega
      have hgl : blk < w.heap.size + 1 := by omega
      have hgl' : blk < w.heap.size + 1 + 1 := by omega
      generalize l[k] = x at *
      obtain ⟨j, hj⟩ : ∃ j : Nat, Hid (x.d = j) := ⟨x.d.toNat, by unfold Hid; omega⟩
      have hj8 : j < 8 := by have := hj.out; omega
      rw [hj.out] at h0
      obtain ⟨kk, hkk⟩ : ∃ kk : Nat, Hid (kk = k + 1) := ⟨_, rfl⟩
      have hn : Hid (∀ z', z' = putP z j x → z' = ofP (l.take kk)) := by
        intro z' e'; rw [e', hkk.out, htk.out, hz.out, hj.out, show ((j : Int) % 8).toNat = j by omega]
      clear htk hall hwf hd0 hd1
      rcases (show j = 0 ∨ j = 1 ∨ j = 2 ∨ j = 3 ∨ j = 4 ∨ j = 5 ∨ j = 6 ∨ j = 7 by omega) with rfl | rfl | rfl | rfl | rfl | rfl | rfl | rfl
      all_goals
        clear hj8 hj
        go_wp2
        go_region
        all_goals go_wp2
        all_goals go_roundw
        case rel =>
          have e := hkk.out
          refine ⟨kk, m, g, dr + 1, _, by omega, by rw [e]; go_num, hn.out _ rfl, hm, ?_⟩
          simp [putP]
        case measure => (simp [intOf] <;> omega)
    · have hk' : k = l.length := by omega
      subst hk'
      rw [List.take_length] at hz
      have hb1 : (pad ((w.alloc (.cells #[.int .u64 0, .int .u64 0, .int .u64 0, .int .u64 0, .int .u64 0, .int .u64 0, .int .u64 0, .int .u64 0, .int .u64 0, .int .u64 0, .int .u64 0, .int .u64 0, .int .u64 0, .int .u64 0, .int .u64 0, .int .u64 0, .int .u64 0, .int .u64 0, .int .u64 0, .int .u64 0, .int .u64 0, .int .u64 0, .int .u64 0, .int .u64 0, .int .u64 0, .int .u64 0, .int .u64 0, .int .u64 0, .int .u64 0, .int .u64 0, .int .u64 0, .int .u64 0] 96)).alloc (.cells #[.int .u64 (z 0).a, .int .u64 (z 0).b, .int .u64 (z 0).c, .int .u64 (z 0).e, .int .u64 (z 1).a, .int .u64 (z 1).b, .int .u64 (z 1).c, .int .u64 (z 1).e, .int .u64 (z 2).a, .int .u64 (z 2).b, .int .u64 (z 2).c, .int .u64 (z 2).e, .int .u64 (z 3).a, .int .u64 (z 3).b, .int .u64 (z 3).c, .int .u64 (z 3).e, .int .u64 (z 4).a, .int .u64 (z 4).b, .int .u64 (z 4).c, .int .u64 (z 4).e, .int .u64 (z 5).a, .int .u64 (z 5).b, .int .u64 (z 5).c, .int .u64 (z 5).e, .int .u64 (z 6).a, .int .u64 (z 6).b, .int .u64 (z 6).c, .int .u64 (z 6).e, .int .u64 (z 7).a, .int .u64 (z 7).b, .int .u64 (z 7).c, .int .u64 (z 7).e] 96)) m g dr).heap[w.heap.size]? = some (.cells #[.int .u64 0, .int .u64 0, .int .u64 0, .int .u64 0, .int .u64 0, .int .u64 0, .int .u64 0, .int .u64 0, .int .u64 0, .int .u64 0, .int .u64 0, .int .u64 0, .int .u64 0, .int .u64 0, .int .u64 0, .int .u64 0, .int .u64 0, .int .u64 0, .int .u64 0, .int .u64 0, .int .u64 0, .int .u64 0, .int .u64 0, .int .u64 0, .int .u64 0, .int .u64 0, .int .u64 0, .int .u64 0, .int .u64 0, .int .u64 0, .int .u64 0, .int .u64 0] 96 (0, 0)) := by (repeat (first | (with_reducible exact al_at (by simp [pad_size])) | (with_reducible refine Eq.trans (dr_blk _ _) ?_) | (with_reducible refine Eq.trans (al_old (by first | omega | (simp [pad_size]; done) | (simp [pad_size]; omega))) ?_) | (with_reducible refine Eq.trans (pad_block (by first | omega | (simp [pad_size]; done) | (simp [pad_size]; omega)) (by first | omega | (simp [pad_size]; done) | (simp [pad_size]; omega))) ?_) | (with_reducible assumption)))
      go_wp2_with (first
        | (refine wpList_load_row rfl 96 _ rfl (w.heap.size + 1) rfl 96 #[.int .u64 (z 0).a, .int .u64 (z 0).b, .int .u64 (z 0).c, .int .u64 (z 0).e, .int .u64 (z 1).a, .int .u64 (z 1).b, .int .u64 (z 1).c, .int .u64 (z 1).e, .int .u64 (z 2).a, .int .u64 (z 2).b, .int .u64 (z 2).c, .int .u64 (z 2).e, .int .u64 (z 3).a, .int .u64 (z 3).b, .int .u64 (z 3).c, .int .u64 (z 3).e, .int .u64 (z 4).a, .int .u64 (z 4).b, .int .u64 (z 4).c, .int .u64 (z 4).e, .int .u64 (z 5).a, .int .u64 (z 5).b, .int .u64 (z 5).c, .int .u64 (z 5).e, .int .u64 (z 6).a, .int .u64 (z 6).b, .int .u64 (z 6).c, .int .u64 (z 6).e, .int .u64 (z 7).a, .int .u64 (z 7).b, .int .u64 (z 7).c, .int .u64 (z 7).e] (0, 0) _ (by (repeat (first | (with_reducible exact al_at (by simp [pad_size])) | (with_reducible refine Eq.trans (dr_blk _ _) ?_) | (with_reducible refine Eq.trans (al_old (by first | omega | (simp [pad_size]; done) | (simp [pad_size]; omega))) ?_) | (with_reducible refine Eq.trans (pad_block (by first | omega | (simp [pad_size]; done) | (simp [pad_size]; omega)) (by first | omega | (simp [pad_size]; done) | (simp [pad_size]; omega))) ?_) | (with_reducible assumption)))) Try.underlying96 rfl (by kernel_rfl) ?_)
        | (refine wpList_store_row rfl 96 _ _ rfl w.heap.size #[.int .u64 (z 0).a, .int .u64 (z 0).b, .int .u64 (z 0).c, .int .u64 (z 0).e, .int .u64 (z 1).a, .int .u64 (z 1).b, .int .u64 (z 1).c, .int .u64 (z 1).e, .int .u64 (z 2).a, .int .u64 (z 2).b, .int .u64 (z 2).c, .int .u64 (z 2).e, .int .u64 (z 3).a, .int .u64 (z 3).b, .int .u64 (z 3).c, .int .u64 (z 3).e, .int .u64 (z 4).a, .int .u64 (z 4).b, .int .u64 (z 4).c, .int .u64 (z 4).e, .int .u64 (z 5).a, .int .u64 (z 5).b, .int .u64 (z 5).c, .int .u64 (z 5).e, .int .u64 (z 6).a, .int .u64 (z 6).b, .int .u64 (z 6).c, .int .u64 (z 6).e, .int .u64 (z 7).a, .int .u64 (z 7).b, .int .u64 (z 7).c, .int .u64 (z 7).e] rfl rfl 96 #[.int .u64 0, .int .u64 0, .int .u64 0, .int .u64 0, .int .u64 0, .int .u64 0, .int .u64 0, .int .u64 0, .int .u64 0, .int .u64 0, .int .u64 0, .int .u64 0, .int .u64 0, .int .u64 0, .int .u64 0, .int .u64 0, .int .u64 0, .int .u64 0, .int .u64 0, .int .u64 0, .int .u64 0, .int .u64 0, .int .u64 0, .int .u64 0, .int .u64 0, .int .u64 0, .int .u64 0, .int .u64 0, .int .u64 0, .int .u64 0, .int .u64 0, .int .u64 0] hb1 (by kernel_rfl) rfl (by simp [Value.oneCell']) ?_))
      refine bodyPost_ret (v := .agg #[.int .u64 (z 0).a, .int .u64 (z 0).b, .int .u64 (z 0).c, .int .u64 (z 0).e, .int .u64 (z 1).a, .int .u64 (z 1).b, .int .u64 (z 1).c, .int .u64 (z 1).e, .int .u64 (z 2).a, .int .u64 (z 2).b, .int .u64 (z 2).c, .int .u64 (z 2).e, .int .u64 (z 3).a, .int .u64 (z 3).b, .int .u64 (z 3).c, .int .u64 (z 3).e, .int .u64 (z 4).a, .int .u64 (z 4).b, .int .u64 (z 4).c, .int .u64 (z 4).e, .int .u64 (z 5).a, .int .u64 (z 5).b, .int .u64 (z 5).c, .int .u64 (z 5).e, .int .u64 (z 6).a, .int .u64 (z 6).b, .int .u64 (z 6).c, .int .u64 (z 6).e, .int .u64 (z 7).a, .int .u64 (z 7).b, .int .u64 (z 7).c, .int .u64 (z 7).e]) (results_cell_row Try.results60 _ _ w.heap.size 96 _ (0, 0) _ rfl (setRow_heap _ _ _ _ _ _ hb1) Try.underlying96 rfl (by kernel_rfl)) rfl ⟨z, hz, rfl, brow (by (repeat (first | (with_reducible exact Below.refl _ _) | (with_reducible assumption) | (with_reducible apply bd) | (with_reducible apply ba) | (with_reducible refine bp ?_ (by first | omega | (simp [pad_size]; done) | (simp [pad_size]; omega)) _ _) | (with_reducible refine bs ?_ (by first | omega | (simp [pad_size]; done) | (simp [pad_size]; omega)) _) | (with_reducible refine bt ?_ (by assumption))))) (Nat.le_refl _) _⟩
end Go.Proofs.Ytjhjgncnadhbhaa
