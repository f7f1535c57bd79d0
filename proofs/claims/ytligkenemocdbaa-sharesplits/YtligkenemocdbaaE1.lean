
/- The reference's less, of lists of digits; plain facts on digits. -/
import Derived.Test.YtligkenemocdbaaN1
set_option linter.unusedSimpArgs false
set_option linter.unusedVariables false
namespace Go.Proofs.Ytligkenemocdbaa
open Go.RowKit

set_option maxRecDepth 100000 in
set_option maxHeartbeats 8000000 in
theorem less_any (dl de : Nat → Int) (n g1 c1 g2 c2 : Nat) (hn : 0 < n ∧ n ≤ 64) (w : World) (hg1 : g1 < w.heap.size) (hg2 : g2 < w.heap.size) (hc1 : ∀ k, k < n → w.cell? ⟨g1, k, none⟩ = some (.int .u64 (dl k))) (hc2 : ∀ k, k < n → w.cell? ⟨g2, k, none⟩ = some (.int .u64 (de k))) (hl1 : ∀ i, i < n → 0 ≤ dl i ∧ dl i < 65536) (hl2 : ∀ i, i < n → 0 ≤ de i ∧ de i < 65536) :
    Calls Try.prog 45 #[.slice (some ⟨g1, 0, none⟩) n c1, .slice (some ⟨g2, 0, none⟩) n c2] w fun e w' => e = .returned (.bool (decide (sm dl n < sm de n))) ∧ Below w.heap.size w w' := by
  have hpad := pads
  have hret : ∀ c : Bool, c = decide (sm dl n < sm de n) → ∀ wz, Below w.heap.size w wz → (Ending.returned (.bool c) = .returned (.bool (decide (sm dl n < sm de n))) ∧ Below w.heap.size w wz) := by
    rintro c rfl wz hbz; exact ⟨rfl, hbz⟩
  go_enter Try.func45, Try.ntmps45
  go_wp2
  go_loopw [5] (fun i wr => ∃ (k m : Nat) (f : Nat → Obj) (dr : Nat), k ≤ n ∧ i = .int .i64 ((k : Int) - 1) ∧ w.heap.size ≤ m ∧ wr = pad w m f dr ∧ (∀ j, k ≤ j → j < n → Hid (dl j = de j))) (fun i _ => (intOf i + 1).toNat)
  case atStart =>
    obtain ⟨m, f, dr, hm, e⟩ := pad_of (Below.refl w.heap.size w)
    exact ⟨n, m, f, dr, by omega, rfl, hm, e, fun j h1 h2 => by omega⟩
  case round =>
    obtain ⟨k, m, f, dr, hk, rfl, hm, rfl, hpre⟩ := hrel
    cases k with
    | zero =>
      go_wp2
      go_ret
      refine hret _ ?_ _ (by (repeat (first | (with_reducible exact Below.refl _ _) | (with_reducible assumption) | (with_reducible apply bd) | (with_reducible apply ba) | (with_reducible refine bp ?_ (by first | omega | (simp [pad_size]; done) | (simp [pad_size]; omega)) _ _) | (with_reducible refine bs ?_ (by first | omega | (simp [pad_size]; done) | (simp [pad_size]; omega)) _) | (with_reducible refine bt ?_ (by assumption)))))
      rw [sm_congr n (fun i hi => (hpre i (Nat.zero_le _) hi).out)]
      simp
    | succ j =>
      have e : (((j + 1 : Nat) : Int) - 1) = (j : Int) := by omega
      rw [e]
      clear e
      have hj : j < n := by omega
      have d1 := hc1 j hj
      have d2 := hc2 j hj
      have hg1m : g1 < m := by omega
      have hg2m : g2 < m := by omega
      have b1 := hl1 j hj
      have b2 := hl2 j hj
      clear hc1 hc2
      rcases Int.lt_trichotomy (dl j) (de j) with hlt | he | hgt
      · have hne : (dl j != de j) = true := by simp; omega
        have hdc : decide (dl j < de j) = true := by simpa using hlt
        go_wp2
        go_region
        all_goals go_wp2
        all_goals go_region
        all_goals go_wp2
        all_goals go_ret
        all_goals
          refine hret _ ?_ _ (by (repeat (first | (with_reducible exact Below.refl _ _) | (with_reducible assumption) | (with_reducible apply bd) | (with_reducible apply ba) | (with_reducible refine bp ?_ (by first | omega | (simp [pad_size]; done) | (simp [pad_size]; omega)) _ _) | (with_reducible refine bs ?_ (by first | omega | (simp [pad_size]; done) | (simp [pad_size]; omega)) _) | (with_reducible refine bt ?_ (by assumption)))))
          have h := sm_less hj hlt hl1 hl2 (fun i h1 h2 => (hpre i (by omega) h2).out)
          exact (decide_eq_true (by omega)).symm
      · have he' : Hid _ := he
        rw [← he] at d2
        have hne : (dl j != dl j) = false := by simp
        clear he
        go_wp2
        go_region
        all_goals go_wp2
        all_goals go_roundw
        case rel =>
          refine ⟨j, m, f, dr + 1, by omega, by go_num, hm, by first | rfl | (simp [hpad]; done), fun i h1 h2 => ?_⟩
          by_cases e : i = j
          · rw [e]; exact he'
          · exact hpre i (by omega) h2
        case measure => simp [intOf]
      · have hne : (dl j != de j) = true := by simp; omega
        have hdc : decide (dl j < de j) = false := by simp; omega
        go_wp2
        go_region
        all_goals go_wp2
        all_goals go_region
        all_goals go_wp2
        all_goals go_ret
        all_goals
          refine hret _ ?_ _ (by (repeat (first | (with_reducible exact Below.refl _ _) | (with_reducible assumption) | (with_reducible apply bd) | (with_reducible apply ba) | (with_reducible refine bp ?_ (by first | omega | (simp [pad_size]; done) | (simp [pad_size]; omega)) _ _) | (with_reducible refine bs ?_ (by first | omega | (simp [pad_size]; done) | (simp [pad_size]; omega)) _) | (with_reducible refine bt ?_ (by assumption)))))
          have h := sm_less hj hgt hl2 hl1 (fun i h1 h2 => (hpre i (by omega) h2).out.symm)
          exact (decide_eq_false (by omega)).symm

theorem sm_high {dl : Nat → Int} (j : Nat) : ∀ d, ∃ X : Int, sm dl (j + 1 + d) = sm dl j + (dl j + 65536 * X) * 65536 ^ j
  | 0 => ⟨0, by show sm dl (j + 1) = _; rw [sm_succ, Int.mul_zero, Int.add_zero]⟩
  | d + 1 => by
    obtain ⟨X, h⟩ := sm_high (dl := dl) j d
    refine ⟨X + dl (j + 1 + d) * 65536 ^ d, ?_⟩
    show sm dl (j + 1 + d + 1) = _
    rw [sm_succ, h, show j + 1 + d = j + (1 + d) by omega, Int.pow_add, Int.pow_add, show (65536 : Int) ^ 1 = 65536 by decide]
    generalize (65536 : Int) ^ j = P
    generalize (65536 : Int) ^ d = Q
    grind
theorem sm_dig {dl : Nat → Int} {n j : Nat} (hj : j < n) (hl : ∀ i, i < n → 0 ≤ dl i ∧ dl i < 65536) : sm dl n / 65536 ^ j % 65536 = dl j := by
  obtain ⟨d, rfl⟩ := Nat.exists_eq_add_of_le (show j + 1 ≤ n by omega)
  obtain ⟨X, h⟩ := sm_high (dl := dl) j d
  have h0 := sm_lim j (fun i hi => hl i (by omega))
  have h1 := hl j (by omega)
  have hp : (0 : Int) < 65536 ^ j := Int.pow_pos (by decide)
  rw [h, Int.add_mul_ediv_right _ _ (by omega), Int.ediv_eq_zero_of_lt h0.1 h0.2]
  omega
theorem pow_16 (j s : Nat) : (2 : Int) ^ (16 * j + s) = 65536 ^ j * 2 ^ s := by
  rw [Int.pow_add, Int.pow_mul]; rfl
theorem ediv_pow (P : Int) (j s : Nat) : P / 2 ^ (16 * j + s) = P / 65536 ^ j / 2 ^ s := by
  rw [pow_16]
  first
    | exact (Int.ediv_ediv_eq_ediv_mul _ (Int.pow_nonneg (by decide))).symm
    | exact (Int.ediv_ediv (Int.pow_nonneg (by decide))).symm
    | exact (Int.ediv_ediv_of_nonneg (Int.pow_nonneg (by decide))).symm
theorem ediv_half (P : Int) (k : Nat) : P / 2 ^ k = 2 * (P / 2 ^ (k + 1)) + P / 2 ^ k % 2 := by
  have e : P / 2 ^ (k + 1) = P / 2 ^ k / 2 := by
    rw [Int.pow_succ]
    first
      | exact (Int.ediv_ediv_eq_ediv_mul _ (Int.pow_nonneg (by decide))).symm
      | exact (Int.ediv_ediv (Int.pow_nonneg (by decide))).symm
      | exact (Int.ediv_ediv_of_nonneg (Int.pow_nonneg (by decide))).symm
  rw [e]
  generalize P / 2 ^ k = q
  omega
def Z17 : Array Value := #[.int .u64 0, .int .u64 0, .int .u64 0, .int .u64 0, .int .u64 0, .int .u64 0, .int .u64 0, .int .u64 0, .int .u64 0, .int .u64 0, .int .u64 0, .int .u64 0, .int .u64 0, .int .u64 0, .int .u64 0, .int .u64 0, .int .u64 0]
theorem make17 (w : World) : (Instr.makeSlice 42 (.int .i64 17) (.int .i64 17)).run Try.prog w = .ok (.slice (some ⟨w.heap.size, 0, none⟩) 17 17) (w.alloc (.cells Z17 22)) := by kernel_rfl
theorem row17 (w : World) : (w.alloc (.cells Z17 22)).ownsRow w.heap.size 22 1 (.slice (some ⟨w.heap.size, 0, none⟩) 17 17) 17 (encU (fl (fun _ => 0) 17)) := by
  refine ⟨by simp [encU, fl], .inr ⟨w.heap.size, 17, Z17, rfl, Nat.le_refl _, World.alloc_heap_new w _, by omega, ?_⟩⟩
  exact ⟨by decide, by rfl, by rfl⟩
end Go.Proofs.Ytligkenemocdbaa
