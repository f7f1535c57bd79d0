
/- jointurelaw04.of. -/
import Derived.Test.YtoikklbnbgoecaaC2
set_option linter.unusedSimpArgs false
set_option linter.unusedVariables false
namespace Go.Proofs.Ytoikklbnbgoecaa
open Go.RowKit

set_option maxRecDepth 100000 in
set_option maxHeartbeats 8000000 in
theorem of4_some (blk off cap : Nat) (l : List Cn) (w : World) (hlen : l.length ≤ 1048576) (hlt : blk < w.heap.size) (hall : ∀ i x, l[i]? = some x → CnAt w blk (off + i * 5) x) (hwf : ∀ x ∈ l, CnWf x) :
    Calls Try.prog 38 #[.slice (some ⟨blk, off, none⟩) l.length cap] w fun e w' => ∃ v, e = .returned v ∧ w'.ownsRow w.heap.size 74 5 v (lst (ofP l) 8).length (cellsL (lst (ofP l) 8)) ∧ Below w.heap.size w w' := by
  have hpad := pads
  go_enter Try.func38, Try.ntmps38
  go_wp2
  go_loopw [4] (fun i wr => ∃ (k m : Nat) (g : Nat → Obj) (dr : Nat) (z : Nat → Cn), k ≤ l.length ∧ i = .int .i64 k ∧ Hid (z = ofP (l.take k)) ∧ w.heap.size + 1 ≤ m ∧ wr = pad (w.alloc (.cells #[.int .u64 (z 0).a, .int .u64 (z 0).b, .int .u64 (z 0).c, .int .u64 (z 0).e, .int .u64 (z 1).a, .int .u64 (z 1).b, .int .u64 (z 1).c, .int .u64 (z 1).e, .int .u64 (z 2).a, .int .u64 (z 2).b, .int .u64 (z 2).c, .int .u64 (z 2).e, .int .u64 (z 3).a, .int .u64 (z 3).b, .int .u64 (z 3).c, .int .u64 (z 3).e, .int .u64 (z 4).a, .int .u64 (z 4).b, .int .u64 (z 4).c, .int .u64 (z 4).e, .int .u64 (z 5).a, .int .u64 (z 5).b, .int .u64 (z 5).c, .int .u64 (z 5).e, .int .u64 (z 6).a, .int .u64 (z 6).b, .int .u64 (z 6).c, .int .u64 (z 6).e, .int .u64 (z 7).a, .int .u64 (z 7).b, .int .u64 (z 7).c, .int .u64 (z 7).e] 83)) m g dr) (fun i _ => l.length - (intOf i).toNat)
  case atStart =>
    obtain ⟨m, g, dr, hm, e⟩ := pad_of (Below.refl _ (w.alloc (.cells #[.int .u64 0, .int .u64 0, .int .u64 0, .int .u64 0, .int .u64 0, .int .u64 0, .int .u64 0, .int .u64 0, .int .u64 0, .int .u64 0, .int .u64 0, .int .u64 0, .int .u64 0, .int .u64 0, .int .u64 0, .int .u64 0, .int .u64 0, .int .u64 0, .int .u64 0, .int .u64 0, .int .u64 0, .int .u64 0, .int .u64 0, .int .u64 0, .int .u64 0, .int .u64 0, .int .u64 0, .int .u64 0, .int .u64 0, .int .u64 0, .int .u64 0, .int .u64 0] 83)))
    refine ⟨0, m, g, dr, zeroP, Nat.zero_le _, rfl, rfl, by simpa using hm, ?_⟩
    simp only [zeroP_a]
    exact e
  case round =>
    obtain ⟨k, m, g, dr, z, hk, rfl, hz, hm, rfl⟩ := hrel
    have st := sz1 (n := w.heap.size) (m := m) hm
    by_cases hkl : k < l.length
    · obtain ⟨h0, h1, h2, h3, h4⟩ := hall k l[k] (by simp [hkl])
      obtain ⟨⟨hd0, hd1⟩, hlim⟩ := hwf l[k] (List.getElem_mem hkl)
      have htk : Hid (ofP (l.take (k + 1)) = putP (ofP (l.take k)) (l[k].d % 8).toNat l[k]) := by
        unfold Hid; rw [List.take_succ_eq_append_getElem hkl, ofP_snoc]
      have hlm : blk < m := by omega
      have hgn : ¬ blk = w.heap.size := by omega
      have hgl : blk < w.heap.size + 1 := by omega
      generalize l[k] = x at *
      obtain ⟨j, hj⟩ : ∃ j : Nat, Hid (x.d % 8 = j) := ⟨(x.d % 8).toNat, by unfold Hid; omega⟩
      have hj8 : j < 8 := by have := hj.out; omega
      have hjm : x.d.tmod 8 = (j : Int) := by rw [Int.tmod_eq_emod_of_nonneg hd0, hj.out]
      obtain ⟨kk, hkk⟩ : ∃ kk : Nat, Hid (kk = k + 1) := ⟨_, rfl⟩
      have hn : Hid (∀ z', z' = putP z j x → z' = ofP (l.take kk)) := by
        intro z' e'; rw [e', hkk.out, htk.out, hz.out, hj.out]; rfl
      clear htk hall hwf
      rcases (show j = 0 ∨ j = 1 ∨ j = 2 ∨ j = 3 ∨ j = 4 ∨ j = 5 ∨ j = 6 ∨ j = 7 by omega) with rfl | rfl | rfl | rfl | rfl | rfl | rfl | rfl
      all_goals
        clear hj8 hj
        go_wp2
        go_region
        all_goals go_wp2
        all_goals go_roundw
        case rel =>
          have e := hkk.out
          refine ⟨kk, m, g, dr + 1, _, by omega, by rw [e]; go_num, hn.out _ rfl, hm, ?_⟩
          simp [putP]
        case measure => (simp [intOf] <;> omega)
    · have hk' : k = l.length := by omega
      subst hk'
      rw [List.take_length] at hz
      have hp : Purse z := by rw [hz.out]; exact purse_of l (fun x hx => (hwf x hx).2)
      go_wp2_with (first | (refine wpList_load_row rfl 83 _ rfl w.heap.size rfl 83 #[.int .u64 (z 0).a, .int .u64 (z 0).b, .int .u64 (z 0).c, .int .u64 (z 0).e, .int .u64 (z 1).a, .int .u64 (z 1).b, .int .u64 (z 1).c, .int .u64 (z 1).e, .int .u64 (z 2).a, .int .u64 (z 2).b, .int .u64 (z 2).c, .int .u64 (z 2).e, .int .u64 (z 3).a, .int .u64 (z 3).b, .int .u64 (z 3).c, .int .u64 (z 3).e, .int .u64 (z 4).a, .int .u64 (z 4).b, .int .u64 (z 4).c, .int .u64 (z 4).e, .int .u64 (z 5).a, .int .u64 (z 5).b, .int .u64 (z 5).c, .int .u64 (z 5).e, .int .u64 (z 6).a, .int .u64 (z 6).b, .int .u64 (z 6).c, .int .u64 (z 6).e, .int .u64 (z 7).a, .int .u64 (z 7).b, .int .u64 (z 7).c, .int .u64 (z 7).e] (0, 0) _ (by (repeat (first | (with_reducible exact al_at (by simp [pad_size])) | (with_reducible refine Eq.trans (dr_blk _ _) ?_) | (with_reducible refine Eq.trans (al_old (by first | omega | (simp [pad_size]; done) | (simp [pad_size]; omega))) ?_) | (with_reducible refine Eq.trans (pad_block (by first | omega | (simp [pad_size]; done) | (simp [pad_size]; omega)) (by first | omega | (simp [pad_size]; done) | (simp [pad_size]; omega))) ?_) | (with_reducible assumption)))) Try.underlying83 rfl (by kernel_rfl) ?_) | (go_at_call 55; refine (listR_any z hp _).mono ?_; rintro e w1 ⟨v, rfl, ho, hb⟩))
      go_ret
      rw [← hz.out]
      exact ⟨_, rfl, row_base ho (by simp [pad_size]; omega), bt (by (repeat (first | (with_reducible exact Below.refl _ _) | (with_reducible assumption) | (with_reducible apply bd) | (with_reducible apply ba) | (with_reducible refine bp ?_ (by first | omega | (simp [pad_size]; done) | (simp [pad_size]; omega)) _ _) | (with_reducible refine bs ?_ (by first | omega | (simp [pad_size]; done) | (simp [pad_size]; omega)) _) | (with_reducible refine bt ?_ (by assumption))))) hb⟩

set_option maxHeartbeats 4000000 in
theorem of4_none (a : Option Addr) (cap : Nat) (w : World) :
    Calls Try.prog 38 #[.slice a 0 cap] w fun e w' => ∃ v, e = .returned v ∧ w'.ownsRow w.heap.size 74 5 v (lst (ofP []) 8).length (cellsL (lst (ofP []) 8)) ∧ Below w.heap.size w w' := by
  go_enter Try.func38, Try.ntmps38
  go_wp2
  apply wp_loop_rounds 1
  simp only [Code.rounds]
  go_wp2_with (first | (refine wpList_load_row rfl 83 _ rfl w.heap.size rfl 83 #[.int .u64 0, .int .u64 0, .int .u64 0, .int .u64 0, .int .u64 0, .int .u64 0, .int .u64 0, .int .u64 0, .int .u64 0, .int .u64 0, .int .u64 0, .int .u64 0, .int .u64 0, .int .u64 0, .int .u64 0, .int .u64 0, .int .u64 0, .int .u64 0, .int .u64 0, .int .u64 0, .int .u64 0, .int .u64 0, .int .u64 0, .int .u64 0, .int .u64 0, .int .u64 0, .int .u64 0, .int .u64 0, .int .u64 0, .int .u64 0, .int .u64 0, .int .u64 0] (0, 0) _ (by (repeat (first | (with_reducible exact al_at (by simp [pad_size])) | (with_reducible refine Eq.trans (dr_blk _ _) ?_) | (with_reducible refine Eq.trans (al_old (by first | omega | (simp [pad_size]; done) | (simp [pad_size]; omega))) ?_) | (with_reducible refine Eq.trans (pad_block (by first | omega | (simp [pad_size]; done) | (simp [pad_size]; omega)) (by first | omega | (simp [pad_size]; done) | (simp [pad_size]; omega))) ?_) | (with_reducible assumption)))) Try.underlying83 rfl (by kernel_rfl) ?_) | (go_at_call 55; refine (listR_zero _).mono ?_; rintro e w1 ⟨v, rfl, ho, hb⟩))
  go_ret
  exact ⟨_, rfl, row_base ho (by simp), bt (by (repeat (first | (with_reducible exact Below.refl _ _) | (with_reducible assumption) | (with_reducible apply bd) | (with_reducible apply ba) | (with_reducible refine bp ?_ (by first | omega | (simp [pad_size]; done) | (simp [pad_size]; omega)) _ _) | (with_reducible refine bs ?_ (by first | omega | (simp [pad_size]; done) | (simp [pad_size]; omega)) _) | (with_reducible refine bt ?_ (by assumption))))) hb⟩

theorem of4_any {v : Value} {l : List Cn} (w : World) (h : IsCoins w v l) (hwf : ∀ x ∈ l, CnWf x) :
    Calls Try.prog 38 #[v] w fun e w' => ∃ v, e = .returned v ∧ w'.ownsRow w.heap.size 74 5 v (lst (ofP l) 8).length (cellsL (lst (ofP l) 8)) ∧ Below w.heap.size w w' := by
  rcases h with ⟨rfl, a, cap, rfl⟩ | ⟨blk, off, cap, rfl, _, hlen, hlt, hall⟩
  · exact of4_none a cap w
  · exact of4_some blk off cap l w hlen hlt hall hwf
end Go.Proofs.Ytoikklbnbgoecaa
