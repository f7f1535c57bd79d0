
/- The reference's Rest, Least, Within, Add of coins: the walks. -/
import Derived.Test.YtmfnfnegnfpkiaaC10a
set_option linter.unusedSimpArgs false
set_option linter.unusedVariables false
set_option maxRecDepth 20000
namespace Go.Proofs.Ytmfnfnegnfpkiaa
open Go.RowKit

set_option maxRecDepth 100000 in
set_option maxHeartbeats 8000000 in
theorem withinR_any {va vb : Value} {z y : Nat → Cn} (hz : Purse z) (hy : Purse y) (B : Bool) (hBB : (B = true ∧ ∀ d, d < 8 → vl (z d) ≤ vl (y d)) ∨ (B = false ∧ ∃ d, d < 8 ∧ vl (y d) < vl (z d))) (w : World) (hA : IsCoins w va (lst z 8)) (hB : IsCoins w vb (lst y 8)) :
    Calls Try.prog 23 #[va, vb] w fun e w' => e = .returned (.bool B) ∧ Below w.heap.size w w' := by
  have HB : Hid _ := hBB
  clear hBB
  have hpad := pads
  go_enter Try.func23, Try.ntmps23
  go_wp2_with (first
    | (go_at_call 58; refine (purseR_any hz _ hA).mono ?_; rintro e w1 ⟨rfl, hb1⟩; have hB1 := hB.below hb1; clear hA)
    | (go_at_call 58; refine (purseR_any hy _ hB1).mono ?_; rintro e w2 ⟨rfl, hb2⟩; have hb3 := bt hb1 hb2; have hsz := hb3.size; clear hb1 hb2 hB1)
    | (refine wpList_store_row rfl 83 _ _ rfl w2.heap.size #[.int .u64 (z 0).a, .int .u64 (z 0).b, .int .u64 (z 0).c, .int .u64 (z 0).e, .int .u64 (z 1).a, .int .u64 (z 1).b, .int .u64 (z 1).c, .int .u64 (z 1).e, .int .u64 (z 2).a, .int .u64 (z 2).b, .int .u64 (z 2).c, .int .u64 (z 2).e, .int .u64 (z 3).a, .int .u64 (z 3).b, .int .u64 (z 3).c, .int .u64 (z 3).e, .int .u64 (z 4).a, .int .u64 (z 4).b, .int .u64 (z 4).c, .int .u64 (z 4).e, .int .u64 (z 5).a, .int .u64 (z 5).b, .int .u64 (z 5).c, .int .u64 (z 5).e, .int .u64 (z 6).a, .int .u64 (z 6).b, .int .u64 (z 6).c, .int .u64 (z 6).e, .int .u64 (z 7).a, .int .u64 (z 7).b, .int .u64 (z 7).c, .int .u64 (z 7).e] rfl rfl 83 #[.int .u64 0, .int .u64 0, .int .u64 0, .int .u64 0, .int .u64 0, .int .u64 0, .int .u64 0, .int .u64 0, .int .u64 0, .int .u64 0, .int .u64 0, .int .u64 0, .int .u64 0, .int .u64 0, .int .u64 0, .int .u64 0, .int .u64 0, .int .u64 0, .int .u64 0, .int .u64 0, .int .u64 0, .int .u64 0, .int .u64 0, .int .u64 0, .int .u64 0, .int .u64 0, .int .u64 0, .int .u64 0, .int .u64 0, .int .u64 0, .int .u64 0, .int .u64 0] (heap_alloc2_old w2 _ _) (by kernel_rfl) rfl (by simp [Value.oneCell']) ?_; rw [row_under])
    | (refine wpList_store_row rfl 83 _ _ rfl (w2.heap.size + 1) #[.int .u64 (y 0).a, .int .u64 (y 0).b, .int .u64 (y 0).c, .int .u64 (y 0).e, .int .u64 (y 1).a, .int .u64 (y 1).b, .int .u64 (y 1).c, .int .u64 (y 1).e, .int .u64 (y 2).a, .int .u64 (y 2).b, .int .u64 (y 2).c, .int .u64 (y 2).e, .int .u64 (y 3).a, .int .u64 (y 3).b, .int .u64 (y 3).c, .int .u64 (y 3).e, .int .u64 (y 4).a, .int .u64 (y 4).b, .int .u64 (y 4).c, .int .u64 (y 4).e, .int .u64 (y 5).a, .int .u64 (y 5).b, .int .u64 (y 5).c, .int .u64 (y 5).e, .int .u64 (y 6).a, .int .u64 (y 6).b, .int .u64 (y 6).c, .int .u64 (y 6).e, .int .u64 (y 7).a, .int .u64 (y 7).b, .int .u64 (y 7).c, .int .u64 (y 7).e] rfl rfl 83 #[.int .u64 0, .int .u64 0, .int .u64 0, .int .u64 0, .int .u64 0, .int .u64 0, .int .u64 0, .int .u64 0, .int .u64 0, .int .u64 0, .int .u64 0, .int .u64 0, .int .u64 0, .int .u64 0, .int .u64 0, .int .u64 0, .int .u64 0, .int .u64 0, .int .u64 0, .int .u64 0, .int .u64 0, .int .u64 0, .int .u64 0, .int .u64 0, .int .u64 0, .int .u64 0, .int .u64 0, .int .u64 0, .int .u64 0, .int .u64 0, .int .u64 0, .int .u64 0] (heap_alloc2_new w2 _ _) (by kernel_rfl) rfl (by simp [Value.oneCell']) ?_; rw [row_new1]))
  go_loopw [7] (fun i wr => ∃ (k m : Nat) (g : Nat → Obj) (dr : Nat), k ≤ 8 ∧ i = .int .i64 k ∧ (∀ d, d < k → Hid (vl (z d) ≤ vl (y d))) ∧ w2.heap.size + 1 + 1 ≤ m ∧ wr = pad ((w2.alloc (.cells #[.int .u64 (z 0).a, .int .u64 (z 0).b, .int .u64 (z 0).c, .int .u64 (z 0).e, .int .u64 (z 1).a, .int .u64 (z 1).b, .int .u64 (z 1).c, .int .u64 (z 1).e, .int .u64 (z 2).a, .int .u64 (z 2).b, .int .u64 (z 2).c, .int .u64 (z 2).e, .int .u64 (z 3).a, .int .u64 (z 3).b, .int .u64 (z 3).c, .int .u64 (z 3).e, .int .u64 (z 4).a, .int .u64 (z 4).b, .int .u64 (z 4).c, .int .u64 (z 4).e, .int .u64 (z 5).a, .int .u64 (z 5).b, .int .u64 (z 5).c, .int .u64 (z 5).e, .int .u64 (z 6).a, .int .u64 (z 6).b, .int .u64 (z 6).c, .int .u64 (z 6).e, .int .u64 (z 7).a, .int .u64 (z 7).b, .int .u64 (z 7).c, .int .u64 (z 7).e] 83)).alloc (.cells #[.int .u64 (y 0).a, .int .u64 (y 0).b, .int .u64 (y 0).c, .int .u64 (y 0).e, .int .u64 (y 1).a, .int .u64 (y 1).b, .int .u64 (y 1).c, .int .u64 (y 1).e, .int .u64 (y 2).a, .int .u64 (y 2).b, .int .u64 (y 2).c, .int .u64 (y 2).e, .int .u64 (y 3).a, .int .u64 (y 3).b, .int .u64 (y 3).c, .int .u64 (y 3).e, .int .u64 (y 4).a, .int .u64 (y 4).b, .int .u64 (y 4).c, .int .u64 (y 4).e, .int .u64 (y 5).a, .int .u64 (y 5).b, .int .u64 (y 5).c, .int .u64 (y 5).e, .int .u64 (y 6).a, .int .u64 (y 6).b, .int .u64 (y 6).c, .int .u64 (y 6).e, .int .u64 (y 7).a, .int .u64 (y 7).b, .int .u64 (y 7).c, .int .u64 (y 7).e] 83)) m g dr) (fun i _ => 8 - (intOf i).toNat)
  case atStart =>
    obtain ⟨m, g, dr, hm, e⟩ := pad_of (Below.refl _ ((w2.alloc (.cells #[.int .u64 (z 0).a, .int .u64 (z 0).b, .int .u64 (z 0).c, .int .u64 (z 0).e, .int .u64 (z 1).a, .int .u64 (z 1).b, .int .u64 (z 1).c, .int .u64 (z 1).e, .int .u64 (z 2).a, .int .u64 (z 2).b, .int .u64 (z 2).c, .int .u64 (z 2).e, .int .u64 (z 3).a, .int .u64 (z 3).b, .int .u64 (z 3).c, .int .u64 (z 3).e, .int .u64 (z 4).a, .int .u64 (z 4).b, .int .u64 (z 4).c, .int .u64 (z 4).e, .int .u64 (z 5).a, .int .u64 (z 5).b, .int .u64 (z 5).c, .int .u64 (z 5).e, .int .u64 (z 6).a, .int .u64 (z 6).b, .int .u64 (z 6).c, .int .u64 (z 6).e, .int .u64 (z 7).a, .int .u64 (z 7).b, .int .u64 (z 7).c, .int .u64 (z 7).e] 83)).alloc (.cells #[.int .u64 (y 0).a, .int .u64 (y 0).b, .int .u64 (y 0).c, .int .u64 (y 0).e, .int .u64 (y 1).a, .int .u64 (y 1).b, .int .u64 (y 1).c, .int .u64 (y 1).e, .int .u64 (y 2).a, .int .u64 (y 2).b, .int .u64 (y 2).c, .int .u64 (y 2).e, .int .u64 (y 3).a, .int .u64 (y 3).b, .int .u64 (y 3).c, .int .u64 (y 3).e, .int .u64 (y 4).a, .int .u64 (y 4).b, .int .u64 (y 4).c, .int .u64 (y 4).e, .int .u64 (y 5).a, .int .u64 (y 5).b, .int .u64 (y 5).c, .int .u64 (y 5).e, .int .u64 (y 6).a, .int .u64 (y 6).b, .int .u64 (y 6).c, .int .u64 (y 6).e, .int .u64 (y 7).a, .int .u64 (y 7).b, .int .u64 (y 7).c, .int .u64 (y 7).e] 83)))
    exact ⟨0, m, g, dr, by omega, rfl, fun d h => by omega, by simpa using hm, e⟩
  case round =>
    obtain ⟨k, m, g, dr, hk, rfl, hle, hm, rfl⟩ := hrel
    have st := sz2 (n := w2.heap.size) (m := m) hm
    by_cases hlt : k < 8
    · obtain ⟨c, hc⟩ : ∃ c, Hid (cmpI (vl (z k)) (vl (y k)) = c) := ⟨_, rfl⟩
      have hcall : ∀ W, Calls Try.prog 60 #[.agg #[.int .u64 (z k).a, .int .u64 (z k).b, .int .u64 (z k).c, .int .u64 (z k).e], .agg #[.int .u64 (y k).a, .int .u64 (y k).b, .int .u64 (y k).c, .int .u64 (y k).e]] W fun e w' => e = .returned (.int .i64 c) ∧ Below W.heap.size W w' := by
        intro W
        have h := cmpR_any _ _ _ _ _ _ _ _ (hz k hlt).1 (hy k hlt).1 W
        rw [show cmpI (val (z k).a (z k).b (z k).c (z k).e) (val (y k).a (y k).b (y k).c (y k).e) = c from hc.out] at h
        exact h
      have HC : Hid _ := hcall
      clear hcall
      obtain ⟨kk, hkk⟩ : ∃ kk : Nat, Hid (kk = k + 1) := ⟨_, rfl⟩
      have hnext : Hid (vl (z k) ≤ vl (y k) → ∀ d, d < kk → Hid (vl (z d) ≤ vl (y d))) := by
        intro h d hd
        have e := hkk.out
        by_cases e2 : d = k
        · rw [e2]; exact h
        · exact hle d (by omega)
      clear hle
      by_cases hgt : vl (y k) < vl (z k)
      · have hcd : decide (0 < c) = true := by rw [← hc.out, cmp_gt hgt]; rfl
        have hBf : Hid (B = false) := by
          rcases HB.out with ⟨h1, h2⟩ | ⟨h1, h2⟩
          · have := h2 k hlt; omega
          · exact h1
        rcases (show k = 0 ∨ k = 1 ∨ k = 2 ∨ k = 3 ∨ k = 4 ∨ k = 5 ∨ k = 6 ∨ k = 7 by omega) with rfl | rfl | rfl | rfl | rfl | rfl | rfl | rfl
        all_goals
          clear hlt hk hgt hnext
          go_wp2
          go_region_with (go_at_call 60; refine (HC.out _).mono ?_; rintro e w' ⟨rfl, hb⟩; obtain ⟨m1, g1, d1, hm1, rfl⟩ := pad_of (bt (bp (Below.refl _ _) (by simp; omega) _ _) hb); clear hb; simp [pad_size] at hm1; have st1 := sz2 (n := w2.heap.size) (m := m1) (by omega))
          all_goals go_wp2
          all_goals go_ret
          all_goals exact ⟨ret_bool (a := false) hBf.out.symm, bp (ba (ba hb3 _) _) (by simp; omega) _ _⟩
      · have hcd : decide (0 < c) = false := by
          rw [← hc.out]; have := cmpI_le (show vl (z k) ≤ vl (y k) by omega); simp; omega
        have hok : Hid (vl (z k) ≤ vl (y k)) := show _ ≤ _ by omega
        have hno : Hid (∀ d, d < kk → Hid (vl (z d) ≤ vl (y d))) := hnext.out hok.out
        rcases (show k = 0 ∨ k = 1 ∨ k = 2 ∨ k = 3 ∨ k = 4 ∨ k = 5 ∨ k = 6 ∨ k = 7 by omega) with rfl | rfl | rfl | rfl | rfl | rfl | rfl | rfl
        all_goals
          clear hlt hk hgt hnext hok
          go_wp2
          go_region_with (go_at_call 60; refine (HC.out _).mono ?_; rintro e w' ⟨rfl, hb⟩; obtain ⟨m1, g1, d1, hm1, rfl⟩ := pad_of (bt (bp (Below.refl _ _) (by simp; omega) _ _) hb); clear hb; simp [pad_size] at hm1; have st1 := sz2 (n := w2.heap.size) (m := m1) (by omega))
          all_goals go_wp2
          all_goals
            go_roundw
            case rel =>
              have e := hkk.out
              exact ⟨kk, m1, g1, d1, by omega, by rw [e]; go_num, hno.out, by omega, rfl⟩
            case measure => (simp [intOf] <;> omega)
    · have hk' : k = 8 := by omega
      subst hk'
      have hBt : Hid (B = true) := by
        rcases HB.out with ⟨h1, h2⟩ | ⟨h1, d, hd, h2⟩
        · exact h1
        · have := (hle d hd).out; omega
      go_wp2
      go_ret
      exact ⟨ret_bool (a := true) hBt.out.symm, bp (ba (ba hb3 _) _) (by simp; omega) _ _⟩
end Go.Proofs.Ytmfnfnegnfpkiaa
