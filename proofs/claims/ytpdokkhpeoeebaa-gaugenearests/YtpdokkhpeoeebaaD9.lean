
/- The reference's Of where there is too much anywhere; its Mul. -/
import Derived.Test.YtpdokkhpeoeebaaD8
import Derived.Test.YtpdokkhpeoeebaaF2
set_option linter.unusedSimpArgs false
set_option linter.unusedVariables false
set_option maxRecDepth 20000
namespace Go.Proofs.Ytpdokkhpeoeebaa
open Go.RowKit

set_option maxRecDepth 100000 in
set_option maxHeartbeats 8000000 in
theorem ofR_more (dl : Nat → Int) (n g cap : Nat) (hn : n ≤ 64) (hb : ∀ k, k < 16 → 0 ≤ dl k ∧ dl k < 65536) (hp : ∀ k, 16 ≤ k → k < n → 0 ≤ dl k) (h0 : ∃ k, 16 ≤ k ∧ k < n ∧ 0 < dl k) (w : World) (hg : g < w.heap.size) (hc : ∀ k, k < n → w.cell? ⟨g, k, none⟩ = some (.int .u64 (dl k))) :
    Calls Try.prog 31 #[.slice (some ⟨g, 0, none⟩) n cap] w fun e w' => e = .returned (.tuple #[.agg #[.int .u64 0, .int .u64 0, .int .u64 0, .int .u64 0], .bool false]) ∧ Below w.heap.size w w' := by
  have hpad := pads
  go_enter Try.func31, Try.ntmps31
  go_wp2
  go_loopw [5] (fun i wr => ∃ (k m : Nat) (f : Nat → Obj) (dr : Nat), k ≤ n ∧ (∀ j, 16 ≤ j → j < k → dl j = 0) ∧ i = .int .i64 k ∧ w.heap.size + 1 + 1 ≤ m ∧ wr = pad ((w.alloc (.cells #[.int .u64 0, .int .u64 0, .int .u64 0, .int .u64 0] 24)).alloc (.cells #[.int .u64 (Lp dl k 0), .int .u64 (Lp dl k 1), .int .u64 (Lp dl k 2), .int .u64 (Lp dl k 3)] 24)) m f dr) (fun i _ => n - (intOf i).toNat)
  case atStart =>
    obtain ⟨m, f, dr, hm, e⟩ := pad_of (Below.refl _ ((w.alloc (.cells #[.int .u64 0, .int .u64 0, .int .u64 0, .int .u64 0] 24)).alloc (.cells #[.int .u64 0, .int .u64 0, .int .u64 0, .int .u64 0] 24)))
    exact ⟨0, m, f, dr, by omega, fun j h1 h2 => by omega, rfl, by simpa using hm, by simpa [Lp] using e⟩
  case round =>
    obtain ⟨k, m, f, dr, hk, hzz, rfl, hm, rfl⟩ := hrel
    have st := sz2 (n := w.heap.size) (m := m) hm
    have hgm : g < m := by omega
    have hgn : ¬ g = w.heap.size := by omega
    have hgn1 : ¬ g = w.heap.size + 1 := by omega
    have hgl : g < w.heap.size + 1 := by omega
    have hgl' : g < w.heap.size + 1 + 1 := by omega
    have hlt : k < n := by
      obtain ⟨j, h1, h2, h3⟩ := h0
      rcases Nat.lt_or_ge j k with h | h
      · have := hzz j h1 h; omega
      · omega
    by_cases h16 : k < 16
    · have c := hc k hlt
      have hb' := hb k h16
      obtain ⟨kk, hkk⟩ : ∃ kk : Nat, Hid (kk = k + 1) := ⟨_, rfl⟩
      rcases (show k = 0 ∨ k = 1 ∨ k = 2 ∨ k = 3 ∨ k = 4 ∨ k = 5 ∨ k = 6 ∨ k = 7 ∨ k = 8 ∨ k = 9 ∨ k = 10 ∨ k = 11 ∨ k = 12 ∨ k = 13 ∨ k = 14 ∨ k = 15 by omega) with rfl | rfl | rfl | rfl | rfl | rfl | rfl | rfl | rfl | rfl | rfl | rfl | rfl | rfl | rfl | rfl
      all_goals
        clear h16 hb'
        go_wp2
        go_region
        all_goals go_wp2
        all_goals go_roundw
        case rel =>
          have e := hkk.out
          have b0 := hb 0 (by omega); have b1 := hb 1 (by omega); have b2 := hb 2 (by omega); have b3 := hb 3 (by omega); have b4 := hb 4 (by omega); have b5 := hb 5 (by omega); have b6 := hb 6 (by omega); have b7 := hb 7 (by omega); have b8 := hb 8 (by omega); have b9 := hb 9 (by omega); have b10 := hb 10 (by omega); have b11 := hb 11 (by omega); have b12 := hb 12 (by omega); have b13 := hb 13 (by omega); have b14 := hb 14 (by omega); have b15 := hb 15 (by omega)
          refine ⟨kk, m, f, dr + 1, by omega, fun j h1 h2 => by omega, by rw [e]; go_num, hm, ?_⟩
          rw [e]
          simp (disch := omega) [Lp, IntKind.wrap_u64, Int.emod_eq_of_lt]
        case measure => simp [intOf]; omega
    · have c := hc k hlt
      have h16' : ¬ (k : Int) < 16 := by omega
      have h16'' : (16 : Int) ≤ (k : Int) := by omega
      by_cases hzk : dl k = 0
      · rw [hzk] at c
        clear hc
        go_wp2
        go_roundw
        case rel =>
          refine ⟨k + 1, m, f, dr, by omega, fun j h1 h2 => ?_, by go_num, hm, ?_⟩
          · by_cases e : j = k
            · rw [e]; exact hzk
            · exact hzz j h1 (by omega)
          · simp only [Lp_stop dl (k := k + 1) (by omega), Lp_stop dl (k := k) (by omega)]
        case measure => simp [intOf]; omega
      · have hpk : 0 < dl k := by have := hp k (by omega) hlt; omega
        clear hc
        go_wp2
        refine bodyPost_ret (v := .tuple #[.agg #[.int .u64 0, .int .u64 0, .int .u64 0, .int .u64 0], .bool false]) (by simp only [results, Try.results31]; go_simp) rfl ⟨rfl, by (repeat (first | (with_reducible exact Below.refl _ _) | (with_reducible assumption) | (with_reducible apply bd) | (with_reducible apply ba) | (with_reducible refine bp ?_ (by first | omega | (simp [pad_size]; done) | (simp [pad_size]; omega)) _ _) | (with_reducible refine bs ?_ (by first | omega | (simp [pad_size]; done) | (simp [pad_size]; omega)) _) | (with_reducible refine bt ?_ (by assumption))))⟩

theorem row_cells {W : World} {base g cap n : Nat} {dl : Nat → Int} (h : W.ownsRow base 22 1 (.slice (some ⟨g, 0, none⟩) (n + 1) cap) (n + 1) (encU (fl dl (n + 1)))) : g < W.heap.size ∧ ∀ k, k < n + 1 → W.cell? ⟨g, k, none⟩ = some (.int .u64 (dl k)) := by
  obtain ⟨g', c', hv, -, hgl, hcell, -⟩ := row_words h (fl_len _ _)
  cases hv
  exact ⟨hgl, fun k hk => by rw [hcell k hk]; simp [fl]⟩

theorem pow_up {a b : Nat} (h : a ≤ b) : (65536 : Int) ^ a ≤ 65536 ^ b := by
  obtain ⟨d, rfl⟩ := Nat.exists_eq_add_of_le h
  rw [Int.pow_add]
  have h1 : (0 : Int) < 65536 ^ a := Int.pow_pos (by decide)
  have h2 : (0 : Int) < 65536 ^ d := Int.pow_pos (by decide)
  have h3 : 65536 ^ a * 1 ≤ (65536 : Int) ^ a * 65536 ^ d := Int.mul_le_mul_of_nonneg_left (by omega) (by omega)
  omega

theorem sm_ge {dl : Nat → Int} {k : Nat} (n : Nat) (h : ∀ i, i < n → 0 ≤ dl i) (hk : k < n) (hp : 0 < dl k) : 65536 ^ k ≤ sm dl n := by
  induction n with
  | zero => omega
  | succ n ih =>
    have h0 : (0 : Int) < 65536 ^ n := Int.pow_pos (by decide)
    have hn : 0 ≤ dl n * 65536 ^ n := Int.mul_nonneg (h n (by omega)) (by omega)
    rw [sm_succ]
    by_cases e : k = n
    · subst e
      have hs : ∀ m, m ≤ k → 0 ≤ sm dl m := by
        intro m
        induction m with
        | zero => intro _; exact Int.le_refl _
        | succ m im => intro hm; rw [sm_succ]; have := Int.mul_nonneg (h m (by omega)) (Int.le_of_lt (show (0 : Int) < 65536 ^ m from Int.pow_pos (by decide))); have := im (by omega); omega
      have := hs k (Nat.le_refl _)
      have h2 : 1 * 65536 ^ k ≤ dl k * 65536 ^ k := Int.mul_le_mul_of_nonneg_right (by omega) (by omega)
      omega
    · have := ih (fun i hi => h i (by omega)) (by omega)
      omega

/-- The number that digits are, or that it is too much. -/
theorem says_ofR {dl : Nat → Int} {n : Nat} {z0 z1 z2 z3 : Int} (hn : 16 ≤ n ∧ n ≤ 64) (hb : ∀ k, k < n → 0 ≤ dl k ∧ dl k < 65536) (hz : Lim z0 z1 z2 z3) (hs : sm dl n = val z0 z1 z2 z3) (g cap : Nat) (w : World) (hg : g < w.heap.size) (hc : ∀ k, k < n → w.cell? ⟨g, k, none⟩ = some (.int .u64 (dl k))) :
    Calls Try.prog 31 #[.slice (some ⟨g, 0, none⟩) n cap] w fun e w' => e = .returned (.tuple #[.agg #[.int .u64 z0, .int .u64 z1, .int .u64 z2, .int .u64 z3], .bool true]) ∧ Below w.heap.size w w' := by
  have e16 : (65536 : Int) ^ 16 = 115792089237316195423570985008687907853269984665640564039457584007913129639936 := by decide
  have hzero : ∀ k, 16 ≤ k → k < n → dl k = 0 := by
    intro k h1 h2
    apply Int.le_antisymm _ (hb k h2).1
    apply Int.not_lt.1
    intro h
    have h3 := sm_ge n (fun i hi => (hb i hi).1) h2 h
    have h4 : (65536 : Int) ^ 16 ≤ 65536 ^ k := pow_up h1
    have := val_hi hz
    omega
  refine (ofR_fit dl n g cap hn (fun k hk => hb k (by omega)) hzero w hg hc).mono ?_
  rintro e w' ⟨rfl, hbw⟩
  have hs' : sm dl 16 = val z0 z1 z2 z3 := by
    obtain ⟨d, rfl⟩ := Nat.exists_eq_add_of_le hn.1
    rw [← hs, sm_stop d (fun j h1 h2 => hzero j h1 h2)]
  obtain ⟨h0, h1, h2, h3⟩ := val_inj (lim_Lp (fun i hi => hb i (by omega))) hz (by rw [val_Lp]; exact hs')
  rw [h0, h1, h2, h3]
  exact ⟨rfl, hbw⟩
theorem says_ofR_over {dl : Nat → Int} {n : Nat} (hn : 16 ≤ n ∧ n ≤ 64) (hb : ∀ k, k < n → 0 ≤ dl k ∧ dl k < 65536) (hs : 115792089237316195423570985008687907853269984665640564039457584007913129639936 ≤ sm dl n) (g cap : Nat) (w : World) (hg : g < w.heap.size) (hc : ∀ k, k < n → w.cell? ⟨g, k, none⟩ = some (.int .u64 (dl k))) :
    Calls Try.prog 31 #[.slice (some ⟨g, 0, none⟩) n cap] w fun e w' => e = .returned (.tuple #[.agg #[.int .u64 0, .int .u64 0, .int .u64 0, .int .u64 0], .bool false]) ∧ Below w.heap.size w w' := by
  have e16 : (65536 : Int) ^ 16 = 115792089237316195423570985008687907853269984665640564039457584007913129639936 := by decide
  refine ofR_more dl n g cap hn.2 (fun k hk => hb k (by omega)) (fun k _ h => (hb k h).1) ?_ w hg hc
  apply Classical.byContradiction
  intro hne
  have hzero : ∀ k, 16 ≤ k → k < n → dl k = 0 := by
    intro k h1 h2
    apply Int.le_antisymm _ (hb k h2).1
    apply Int.not_lt.1
    intro h
    exact hne ⟨k, h1, h2, h⟩
  have hl := sm_lim 16 (fun i hi => hb i (by omega))
  obtain ⟨d, rfl⟩ := Nat.exists_eq_add_of_le hn.1
  rw [sm_stop d (fun j h1 h2 => hzero j h1 h2)] at hs
  omega

end Go.Proofs.Ytpdokkhpeoeebaa
