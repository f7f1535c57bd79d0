
/- The reference's Of: the number that digits are. -/
import Derived.Test.YtjhjgncnadhbhaaB
set_option linter.unusedSimpArgs false
set_option linter.unusedVariables false
set_option maxRecDepth 20000
namespace Go.Proofs.Ytjhjgncnadhbhaa
open Go.RowKit

/-- The part j of the first k digits. -/
def Lp (dl : Nat → Int) (k j : Nat) : Int := (if 4 * j < k then dl (4 * j) else 0) + (if 4 * j + 1 < k then dl (4 * j + 1) * 65536 else 0) + (if 4 * j + 2 < k then dl (4 * j + 2) * 4294967296 else 0) + (if 4 * j + 3 < k then dl (4 * j + 3) * 281474976710656 else 0)

theorem Lp_stop (dl : Nat → Int) {k : Nat} (h : 16 ≤ k) : Lp dl k 0 = Lp dl 16 0 ∧ Lp dl k 1 = Lp dl 16 1 ∧ Lp dl k 2 = Lp dl 16 2 ∧ Lp dl k 3 = Lp dl 16 3 := by
  unfold Lp
  refine ⟨?_, ?_, ?_, ?_⟩ <;> (rw [if_pos (by omega), if_pos (by omega), if_pos (by omega), if_pos (by omega)]; rfl)

set_option maxRecDepth 100000 in
set_option maxHeartbeats 8000000 in
theorem ofR_fit (dl : Nat → Int) (n g cap : Nat) (hn : 16 ≤ n ∧ n ≤ 64) (hb : ∀ k, k < 16 → 0 ≤ dl k ∧ dl k < 65536) (h0 : ∀ k, 16 ≤ k → k < n → dl k = 0) (w : World) (hg : g < w.heap.size) (hc : ∀ k, k < n → w.cell? ⟨g, k, none⟩ = some (.int .u64 (dl k))) :
    Calls Try.prog 81 #[.slice (some ⟨g, 0, none⟩) n cap] w fun e w' => e = .returned (.tuple #[.agg #[.int .u64 (Lp dl 16 0), .int .u64 (Lp dl 16 1), .int .u64 (Lp dl 16 2), .int .u64 (Lp dl 16 3)], .bool true]) ∧ Below w.heap.size w w' := by
  have hpad := pads
  go_enter Try.func81, Try.ntmps81
  go_wp2
  go_loopw [5] (fun i wr => ∃ (k m : Nat) (f : Nat → Obj) (dr : Nat), k ≤ n ∧ i = .int .i64 k ∧ w.heap.size + 1 + 1 ≤ m ∧ wr = pad ((w.alloc (.cells #[.int .u64 0, .int .u64 0, .int .u64 0, .int .u64 0] 64)).alloc (.cells #[.int .u64 (Lp dl k 0), .int .u64 (Lp dl k 1), .int .u64 (Lp dl k 2), .int .u64 (Lp dl k 3)] 64)) m f dr) (fun i _ => n - (intOf i).toNat)
  case atStart =>
    obtain ⟨m, f, dr, hm, e⟩ := pad_of (Below.refl _ ((w.alloc (.cells #[.int .u64 0, .int .u64 0, .int .u64 0, .int .u64 0] 64)).alloc (.cells #[.int .u64 0, .int .u64 0, .int .u64 0, .int .u64 0] 64)))
    exact ⟨0, m, f, dr, by omega, rfl, by simpa using hm, by simpa [Lp] using e⟩
  case round =>
    obtain ⟨k, m, f, dr, hk, rfl, hm, rfl⟩ := hrel
    have st := sz2 (n := w.heap.size) (m := m) hm
    have hgm : g < m := by omega
    have hgn : ¬ g = w.heap.size := by omega
    have hgn1 : ¬ g = w.heap.size + 1 := by omega
    have hgl : g < w.heap.size + 1 := by omega
    have hgl' : g < w.heap.size + 1 + 1 := by omega
    by_cases hlt : k < n
    · by_cases h16 : k < 16
      · have c := hc k hlt
        have hb' := hb k h16
        obtain ⟨kk, hkk⟩ : ∃ kk : Nat, Hid (kk = k + 1) := ⟨_, rfl⟩
        rcases (show k = 0 ∨ k = 1 ∨ k = 2 ∨ k = 3 ∨ k = 4 ∨ k = 5 ∨ k = 6 ∨ k = 7 ∨ k = 8 ∨ k = 9 ∨ k = 10 ∨ k = 11 ∨ k = 12 ∨ k = 13 ∨ k = 14 ∨ k = 15 by omega) with rfl | rfl | rfl | rfl | rfl | rfl | rfl | rfl | rfl | rfl | rfl | rfl | rfl | rfl | rfl | rfl
        all_goals
          clear h16 hb'
          go_wp2
          go_region
          all_goals go_wp2
          all_goals go_roundw
          case rel =>
            have e := hkk.out
            have b0 := hb 0 (by omega); have b1 := hb 1 (by omega); have b2 := hb 2 (by omega); have b3 := hb 3 (by omega); have b4 := hb 4 (by omega); have b5 := hb 5 (by omega); have b6 := hb 6 (by omega); have b7 := hb 7 (by omega); have b8 := hb 8 (by omega); have b9 := hb 9 (by omega); have b10 := hb 10 (by omega); have b11 := hb 11 (by omega); have b12 := hb 12 (by omega); have b13 := hb 13 (by omega); have b14 := hb 14 (by omega); have b15 := hb 15 (by omega)
            refine ⟨kk, m, f, dr + 1, by omega, by rw [e]; go_num, hm, ?_⟩
            rw [e]
            simp (disch := omega) [Lp, IntKind.wrap_u64, Int.emod_eq_of_lt]
          case measure => simp [intOf]; omega
      · have c := hc k hlt
        have hz := h0 k (by omega) hlt
        rw [hz] at c
        have h16' : ¬ (k : Int) < 16 := by omega
        have h16'' : (16 : Int) ≤ (k : Int) := by omega
        go_wp2
        go_roundw
        case rel =>
          refine ⟨k + 1, m, f, dr, by omega, by go_num, hm, ?_⟩
          simp only [Lp_stop dl (k := k + 1) (by omega), Lp_stop dl (k := k) (by omega)]
        case measure => simp [intOf]; omega
    · have hk' : k = n := by omega
      subst hk'
      go_wp2
      refine bodyPost_ret (v := .tuple #[.agg #[.int .u64 (Lp dl k 0), .int .u64 (Lp dl k 1), .int .u64 (Lp dl k 2), .int .u64 (Lp dl k 3)], .bool true]) (by simp only [results, Try.results81]; go_simp) rfl ⟨?_, by (repeat (first | (with_reducible exact Below.refl _ _) | (with_reducible assumption) | (with_reducible apply bd) | (with_reducible apply ba) | (with_reducible refine bp ?_ (by first | omega | (simp [pad_size]; done) | (simp [pad_size]; omega)) _ _) | (with_reducible refine bs ?_ (by first | omega | (simp [pad_size]; done) | (simp [pad_size]; omega)) _) | (with_reducible refine bt ?_ (by assumption))))⟩
      obtain ⟨l0, l1, l2, l3⟩ := Lp_stop dl (k := k) (by omega)
      rw [l0, l1, l2, l3]

set_option maxRecDepth 100000 in
set_option maxHeartbeats 8000000 in
theorem ofR_over (dl : Nat → Int) (n g cap : Nat) (hn : 17 ≤ n ∧ n ≤ 64) (hb : ∀ k, k < 16 → 0 ≤ dl k ∧ dl k < 65536) (h0 : 0 < dl 16) (w : World) (hg : g < w.heap.size) (hc : ∀ k, k < n → w.cell? ⟨g, k, none⟩ = some (.int .u64 (dl k))) :
    Calls Try.prog 81 #[.slice (some ⟨g, 0, none⟩) n cap] w fun e w' => e = .returned (.tuple #[.agg #[.int .u64 0, .int .u64 0, .int .u64 0, .int .u64 0], .bool false]) ∧ Below w.heap.size w w' := by
  have hpad := pads
  go_enter Try.func81, Try.ntmps81
  go_wp2
  go_loopw [5] (fun i wr => ∃ (k m : Nat) (f : Nat → Obj) (dr : Nat), k ≤ 16 ∧ i = .int .i64 k ∧ w.heap.size + 1 + 1 ≤ m ∧ wr = pad ((w.alloc (.cells #[.int .u64 0, .int .u64 0, .int .u64 0, .int .u64 0] 64)).alloc (.cells #[.int .u64 (Lp dl k 0), .int .u64 (Lp dl k 1), .int .u64 (Lp dl k 2), .int .u64 (Lp dl k 3)] 64)) m f dr) (fun i _ => n - (intOf i).toNat)
  case atStart =>
    obtain ⟨m, f, dr, hm, e⟩ := pad_of (Below.refl _ ((w.alloc (.cells #[.int .u64 0, .int .u64 0, .int .u64 0, .int .u64 0] 64)).alloc (.cells #[.int .u64 0, .int .u64 0, .int .u64 0, .int .u64 0] 64)))
    exact ⟨0, m, f, dr, by omega, rfl, by simpa using hm, by simpa [Lp] using e⟩
  case round =>
    obtain ⟨k, m, f, dr, hk, rfl, hm, rfl⟩ := hrel
    have st := sz2 (n := w.heap.size) (m := m) hm
    have hgm : g < m := by omega
    have hgn : ¬ g = w.heap.size := by omega
    have hgn1 : ¬ g = w.heap.size + 1 := by omega
    have hgl : g < w.heap.size + 1 := by omega
    have hgl' : g < w.heap.size + 1 + 1 := by omega
    have hlt : k < n := by omega
    by_cases h16 : k < 16
    · have c := hc k hlt
      have hb' := hb k h16
      obtain ⟨kk, hkk⟩ : ∃ kk : Nat, Hid (kk = k + 1) := ⟨_, rfl⟩
      rcases (show k = 0 ∨ k = 1 ∨ k = 2 ∨ k = 3 ∨ k = 4 ∨ k = 5 ∨ k = 6 ∨ k = 7 ∨ k = 8 ∨ k = 9 ∨ k = 10 ∨ k = 11 ∨ k = 12 ∨ k = 13 ∨ k = 14 ∨ k = 15 by omega) with rfl | rfl | rfl | rfl | rfl | rfl | rfl | rfl | rfl | rfl | rfl | rfl | rfl | rfl | rfl | rfl
      all_goals
        clear h16 hb'
        go_wp2
        go_region
        all_goals go_wp2
        all_goals go_roundw
        case rel =>
          have e := hkk.out
          have b0 := hb 0 (by omega); have b1 := hb 1 (by omega); have b2 := hb 2 (by omega); have b3 := hb 3 (by omega); have b4 := hb 4 (by omega); have b5 := hb 5 (by omega); have b6 := hb 6 (by omega); have b7 := hb 7 (by omega); have b8 := hb 8 (by omega); have b9 := hb 9 (by omega); have b10 := hb 10 (by omega); have b11 := hb 11 (by omega); have b12 := hb 12 (by omega); have b13 := hb 13 (by omega); have b14 := hb 14 (by omega); have b15 := hb 15 (by omega)
          refine ⟨kk, m, f, dr + 1, by omega, by rw [e]; go_num, hm, ?_⟩
          rw [e]
          simp (disch := omega) [Lp, IntKind.wrap_u64, Int.emod_eq_of_lt]
        case measure => simp [intOf]; omega
    · have hk' : k = 16 := by omega
      subst hk'
      have c := hc 16 hlt
      go_wp2
      refine bodyPost_ret (v := .tuple #[.agg #[.int .u64 0, .int .u64 0, .int .u64 0, .int .u64 0], .bool false]) (by simp only [results, Try.results81]; go_simp) rfl ⟨rfl, by (repeat (first | (with_reducible exact Below.refl _ _) | (with_reducible assumption) | (with_reducible apply bd) | (with_reducible apply ba) | (with_reducible refine bp ?_ (by first | omega | (simp [pad_size]; done) | (simp [pad_size]; omega)) _ _) | (with_reducible refine bs ?_ (by first | omega | (simp [pad_size]; done) | (simp [pad_size]; omega)) _) | (with_reducible refine bt ?_ (by assumption))))⟩
end Go.Proofs.Ytjhjgncnadhbhaa
