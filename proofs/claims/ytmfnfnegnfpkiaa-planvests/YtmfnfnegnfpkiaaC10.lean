
/- The reference's Rest, Least, Within, Add of coins: the walks. -/
import Derived.Test.YtmfnfnegnfpkiaaC10a
set_option linter.unusedSimpArgs false
set_option linter.unusedVariables false
set_option maxRecDepth 20000
namespace Go.Proofs.Ytmfnfnegnfpkiaa
open Go.RowKit

set_option maxRecDepth 100000 in
set_option maxHeartbeats 8000000 in
theorem restRC_new {va vb : Value} {z y : Nat → Cn} (hz : Purse z) (hy : Purse y) (w : World) (hA : IsCoins w va (lst z 8)) (hB : IsCoins w vb (lst y 8)) :
    Calls Try.prog 57 #[va, vb] w fun e w' => ∃ u, e = .returned u ∧ IsCoins w' u (lst (opP restI z y) 8) ∧ (∀ g, u.ownBlock = some g → w.heap.size ≤ g ∧ g < w'.heap.size) ∧ Below w.heap.size w w' := by
  obtain ⟨s, hs⟩ : ∃ s, Hid (opP restI z y = s) := ⟨_, rfl⟩
  have hps : Purse s := by rw [← hs.out]; exact purse_rest hz hy
  rw [hs.out]
  have hpad := pads
  go_enter Try.func57, Try.ntmps57
  go_wp2_with (first
    | (go_at_call 58; refine (purseR_any hz _ hA).mono ?_; rintro e w1 ⟨rfl, hb1⟩; have hB1 := hB.below hb1; clear hA)
    | (go_at_call 58; refine (purseR_any hy _ hB1).mono ?_; rintro e w2 ⟨rfl, hb2⟩; have hb3 := bt hb1 hb2; have hsz := hb3.size; clear hb1 hb2 hB1)
    | (refine wpList_store_row rfl 83 _ _ rfl w2.heap.size #[.int .u64 (z 0).a, .int .u64 (z 0).b, .int .u64 (z 0).c, .int .u64 (z 0).e, .int .u64 (z 1).a, .int .u64 (z 1).b, .int .u64 (z 1).c, .int .u64 (z 1).e, .int .u64 (z 2).a, .int .u64 (z 2).b, .int .u64 (z 2).c, .int .u64 (z 2).e, .int .u64 (z 3).a, .int .u64 (z 3).b, .int .u64 (z 3).c, .int .u64 (z 3).e, .int .u64 (z 4).a, .int .u64 (z 4).b, .int .u64 (z 4).c, .int .u64 (z 4).e, .int .u64 (z 5).a, .int .u64 (z 5).b, .int .u64 (z 5).c, .int .u64 (z 5).e, .int .u64 (z 6).a, .int .u64 (z 6).b, .int .u64 (z 6).c, .int .u64 (z 6).e, .int .u64 (z 7).a, .int .u64 (z 7).b, .int .u64 (z 7).c, .int .u64 (z 7).e] rfl rfl 83 #[.int .u64 0, .int .u64 0, .int .u64 0, .int .u64 0, .int .u64 0, .int .u64 0, .int .u64 0, .int .u64 0, .int .u64 0, .int .u64 0, .int .u64 0, .int .u64 0, .int .u64 0, .int .u64 0, .int .u64 0, .int .u64 0, .int .u64 0, .int .u64 0, .int .u64 0, .int .u64 0, .int .u64 0, .int .u64 0, .int .u64 0, .int .u64 0, .int .u64 0, .int .u64 0, .int .u64 0, .int .u64 0, .int .u64 0, .int .u64 0, .int .u64 0, .int .u64 0] (heap_alloc2_old w2 _ _) (by kernel_rfl) rfl (by simp [Value.oneCell']) ?_; rw [row_under])
    | (refine wpList_store_row rfl 83 _ _ rfl (w2.heap.size + 1) #[.int .u64 (y 0).a, .int .u64 (y 0).b, .int .u64 (y 0).c, .int .u64 (y 0).e, .int .u64 (y 1).a, .int .u64 (y 1).b, .int .u64 (y 1).c, .int .u64 (y 1).e, .int .u64 (y 2).a, .int .u64 (y 2).b, .int .u64 (y 2).c, .int .u64 (y 2).e, .int .u64 (y 3).a, .int .u64 (y 3).b, .int .u64 (y 3).c, .int .u64 (y 3).e, .int .u64 (y 4).a, .int .u64 (y 4).b, .int .u64 (y 4).c, .int .u64 (y 4).e, .int .u64 (y 5).a, .int .u64 (y 5).b, .int .u64 (y 5).c, .int .u64 (y 5).e, .int .u64 (y 6).a, .int .u64 (y 6).b, .int .u64 (y 6).c, .int .u64 (y 6).e, .int .u64 (y 7).a, .int .u64 (y 7).b, .int .u64 (y 7).c, .int .u64 (y 7).e] rfl rfl 83 #[.int .u64 0, .int .u64 0, .int .u64 0, .int .u64 0, .int .u64 0, .int .u64 0, .int .u64 0, .int .u64 0, .int .u64 0, .int .u64 0, .int .u64 0, .int .u64 0, .int .u64 0, .int .u64 0, .int .u64 0, .int .u64 0, .int .u64 0, .int .u64 0, .int .u64 0, .int .u64 0, .int .u64 0, .int .u64 0, .int .u64 0, .int .u64 0, .int .u64 0, .int .u64 0, .int .u64 0, .int .u64 0, .int .u64 0, .int .u64 0, .int .u64 0, .int .u64 0] (heap_alloc2_new w2 _ _) (by kernel_rfl) rfl (by simp [Value.oneCell']) ?_; rw [row_new1]))
  go_loopw [7] (fun i wr => ∃ (k m : Nat) (g : Nat → Obj) (dr : Nat) (x : Nat → Cn), k ≤ 8 ∧ i = .int .i64 k ∧ Hid (x = mixP s z k) ∧ w2.heap.size + 1 + 1 ≤ m ∧ wr = pad ((w2.alloc (.cells #[.int .u64 (x 0).a, .int .u64 (x 0).b, .int .u64 (x 0).c, .int .u64 (x 0).e, .int .u64 (x 1).a, .int .u64 (x 1).b, .int .u64 (x 1).c, .int .u64 (x 1).e, .int .u64 (x 2).a, .int .u64 (x 2).b, .int .u64 (x 2).c, .int .u64 (x 2).e, .int .u64 (x 3).a, .int .u64 (x 3).b, .int .u64 (x 3).c, .int .u64 (x 3).e, .int .u64 (x 4).a, .int .u64 (x 4).b, .int .u64 (x 4).c, .int .u64 (x 4).e, .int .u64 (x 5).a, .int .u64 (x 5).b, .int .u64 (x 5).c, .int .u64 (x 5).e, .int .u64 (x 6).a, .int .u64 (x 6).b, .int .u64 (x 6).c, .int .u64 (x 6).e, .int .u64 (x 7).a, .int .u64 (x 7).b, .int .u64 (x 7).c, .int .u64 (x 7).e] 83)).alloc (.cells #[.int .u64 (y 0).a, .int .u64 (y 0).b, .int .u64 (y 0).c, .int .u64 (y 0).e, .int .u64 (y 1).a, .int .u64 (y 1).b, .int .u64 (y 1).c, .int .u64 (y 1).e, .int .u64 (y 2).a, .int .u64 (y 2).b, .int .u64 (y 2).c, .int .u64 (y 2).e, .int .u64 (y 3).a, .int .u64 (y 3).b, .int .u64 (y 3).c, .int .u64 (y 3).e, .int .u64 (y 4).a, .int .u64 (y 4).b, .int .u64 (y 4).c, .int .u64 (y 4).e, .int .u64 (y 5).a, .int .u64 (y 5).b, .int .u64 (y 5).c, .int .u64 (y 5).e, .int .u64 (y 6).a, .int .u64 (y 6).b, .int .u64 (y 6).c, .int .u64 (y 6).e, .int .u64 (y 7).a, .int .u64 (y 7).b, .int .u64 (y 7).c, .int .u64 (y 7).e] 83)) m g dr) (fun i _ => 8 - (intOf i).toNat)
  case atStart =>
    obtain ⟨m, g, dr, hm, e⟩ := pad_of (Below.refl _ ((w2.alloc (.cells #[.int .u64 (z 0).a, .int .u64 (z 0).b, .int .u64 (z 0).c, .int .u64 (z 0).e, .int .u64 (z 1).a, .int .u64 (z 1).b, .int .u64 (z 1).c, .int .u64 (z 1).e, .int .u64 (z 2).a, .int .u64 (z 2).b, .int .u64 (z 2).c, .int .u64 (z 2).e, .int .u64 (z 3).a, .int .u64 (z 3).b, .int .u64 (z 3).c, .int .u64 (z 3).e, .int .u64 (z 4).a, .int .u64 (z 4).b, .int .u64 (z 4).c, .int .u64 (z 4).e, .int .u64 (z 5).a, .int .u64 (z 5).b, .int .u64 (z 5).c, .int .u64 (z 5).e, .int .u64 (z 6).a, .int .u64 (z 6).b, .int .u64 (z 6).c, .int .u64 (z 6).e, .int .u64 (z 7).a, .int .u64 (z 7).b, .int .u64 (z 7).c, .int .u64 (z 7).e] 83)).alloc (.cells #[.int .u64 (y 0).a, .int .u64 (y 0).b, .int .u64 (y 0).c, .int .u64 (y 0).e, .int .u64 (y 1).a, .int .u64 (y 1).b, .int .u64 (y 1).c, .int .u64 (y 1).e, .int .u64 (y 2).a, .int .u64 (y 2).b, .int .u64 (y 2).c, .int .u64 (y 2).e, .int .u64 (y 3).a, .int .u64 (y 3).b, .int .u64 (y 3).c, .int .u64 (y 3).e, .int .u64 (y 4).a, .int .u64 (y 4).b, .int .u64 (y 4).c, .int .u64 (y 4).e, .int .u64 (y 5).a, .int .u64 (y 5).b, .int .u64 (y 5).c, .int .u64 (y 5).e, .int .u64 (y 6).a, .int .u64 (y 6).b, .int .u64 (y 6).c, .int .u64 (y 6).e, .int .u64 (y 7).a, .int .u64 (y 7).b, .int .u64 (y 7).c, .int .u64 (y 7).e] 83)))
    exact ⟨0, m, g, dr, z, by omega, rfl, by unfold Hid; funext d; exact (mix_0 s z d).symm, by simpa using hm, e⟩
  case round =>
    obtain ⟨k, m, g, dr, x, hk, rfl, hx, hm, rfl⟩ := hrel
    have st := sz2 (n := w2.heap.size) (m := m) hm
    have hpx : Purse x := by rw [hx.out]; exact purse_mix hps hz k
    by_cases hlt : k < 8
    · have hcall : ∀ W, Calls Try.prog 90 #[.agg #[.int .u64 (x k).a, .int .u64 (x k).b, .int .u64 (x k).c, .int .u64 (x k).e], .agg #[.int .u64 (y k).a, .int .u64 (y k).b, .int .u64 (y k).c, .int .u64 (y k).e]] W fun e w' => e = .returned (.agg #[.int .u64 (s k).a, .int .u64 (s k).b, .int .u64 (s k).c, .int .u64 (s k).e]) ∧ Below W.heap.size W w' := by
        intro W
        have h := restR_cn (hpx k hlt).1 (hy k hlt).1 k W
        have e1 : x k = z k := by rw [hx.out]; exact if_neg (by omega)
        have e2 : cnOf k (restI (vl (x k)) (vl (y k))) = s k := by rw [e1, ← hs.out]; rfl
        rw [e2] at h
        exact h
      have HC : Hid _ := hcall
      clear hcall
      obtain ⟨kk, hkk⟩ : ∃ kk : Nat, Hid (kk = k + 1) := ⟨_, rfl⟩
      rcases (show k = 0 ∨ k = 1 ∨ k = 2 ∨ k = 3 ∨ k = 4 ∨ k = 5 ∨ k = 6 ∨ k = 7 by omega) with rfl | rfl | rfl | rfl | rfl | rfl | rfl | rfl
      all_goals
        clear hlt hk
        go_wp2
        go_region_with (go_at_call 90; refine (HC.out _).mono ?_; rintro e w' ⟨rfl, hb⟩; obtain ⟨m1, g1, d1, hm1, rfl⟩ := pad_of (bt (bp (Below.refl _ _) (by simp; omega) _ _) hb); clear hb; simp [pad_size] at hm1; have st1 := sz2 (n := w2.heap.size) (m := m1) (by omega))
        all_goals go_wp2
        all_goals
          go_roundw
          case rel =>
            have e := hkk.out
            refine ⟨kk, m1, g1, d1, mixP s z kk, by omega, by rw [e]; go_num, rfl, by omega, ?_⟩
            rw [hx.out, e]
            simp [mixP]
          case measure => (simp [intOf] <;> omega)
    · have hk' : k = 8 := by omega
      subst hk'
      go_wp2_with (first
        | (refine wpList_load_row rfl 83 _ rfl w2.heap.size rfl 83 #[.int .u64 (x 0).a, .int .u64 (x 0).b, .int .u64 (x 0).c, .int .u64 (x 0).e, .int .u64 (x 1).a, .int .u64 (x 1).b, .int .u64 (x 1).c, .int .u64 (x 1).e, .int .u64 (x 2).a, .int .u64 (x 2).b, .int .u64 (x 2).c, .int .u64 (x 2).e, .int .u64 (x 3).a, .int .u64 (x 3).b, .int .u64 (x 3).c, .int .u64 (x 3).e, .int .u64 (x 4).a, .int .u64 (x 4).b, .int .u64 (x 4).c, .int .u64 (x 4).e, .int .u64 (x 5).a, .int .u64 (x 5).b, .int .u64 (x 5).c, .int .u64 (x 5).e, .int .u64 (x 6).a, .int .u64 (x 6).b, .int .u64 (x 6).c, .int .u64 (x 6).e, .int .u64 (x 7).a, .int .u64 (x 7).b, .int .u64 (x 7).c, .int .u64 (x 7).e] (0, 0) _ (by (repeat (first | (with_reducible exact al_at (by simp [pad_size])) | (with_reducible refine Eq.trans (dr_blk _ _) ?_) | (with_reducible refine Eq.trans (al_old (by first | omega | (simp [pad_size]; done) | (simp [pad_size]; omega))) ?_) | (with_reducible refine Eq.trans (pad_block (by first | omega | (simp [pad_size]; done) | (simp [pad_size]; omega)) (by first | omega | (simp [pad_size]; done) | (simp [pad_size]; omega))) ?_) | (with_reducible assumption)))) Try.underlying83 rfl (by kernel_rfl) ?_)
        | (go_at_call 53; refine (listR_any x hpx _).mono ?_; rintro e w3 ⟨v, rfl, ho, hb⟩))
      go_ret
      have hI := own_coins ho (lst8 _)
      rw [hx.out, mix_8] at hI
      refine ⟨_, rfl, hI, fun g hg => (by have h1 := (ho.lt g hg).1; simp [pad_size] at h1; exact ⟨by omega, (ho.lt g hg).2⟩), bt (bp (ba (ba hb3 _) _) (by simp; omega) _ _) hb⟩

theorem restRC_any {va vb : Value} {z y : Nat → Cn} (hz : Purse z) (hy : Purse y) (w : World) (hA : IsCoins w va (lst z 8)) (hB : IsCoins w vb (lst y 8)) :
    Calls Try.prog 57 #[va, vb] w fun e w' => ∃ u, e = .returned u ∧ IsCoins w' u (lst (opP restI z y) 8) ∧ Below w.heap.size w w' := by
  refine (restRC_new hz hy w hA hB).mono ?_
  rintro e w' ⟨u, rfl, h1, -, h2⟩
  exact ⟨u, rfl, h1, h2⟩
end Go.Proofs.Ytmfnfnegnfpkiaa
