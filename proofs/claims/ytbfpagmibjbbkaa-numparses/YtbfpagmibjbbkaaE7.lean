
/- The reference's Parse where it is no number's text, or too long. -/
import Derived.Test.YtbfpagmibjbbkaaE6
set_option linter.unusedSimpArgs false
set_option linter.unusedVariables false
namespace Go.Proofs.Ytbfpagmibjbbkaa
open Go.RowKit

set_option maxHeartbeats 2000000 in
theorem parseR_nought (s : ByteArray) (hs : 1 < s.size ∧ s.size ≤ 300) (h0 : ((s[0]'(by omega)).toNat : Int) = 48) (w : World) :
    Calls Try.prog 9 #[.string s] w fun e w' => e = .returned (.tuple #[.agg #[.int .u64 0, .int .u64 0, .int .u64 0, .int .u64 0], .int .i64 4]) ∧ Below w.heap.size w w' := by
  have hne : ((s.size : Int) == 0) = false := by rw [beq_eq_false_iff_ne]; omega
  have hsp : (0 : Int) < (s.size : Int) := by omega
  have hgt : decide ((1 : Int) < (s.size : Int)) = true := by simp; omega
  have hgt' : (1 : Int) < (s.size : Int) := by omega
  go_enter Try.func9, Try.ntmps9
  go_wp2
  refine bodyPost_ret (v := .tuple #[.agg #[.int .u64 0, .int .u64 0, .int .u64 0, .int .u64 0], .int .i64 4]) (by simp only [results, Try.results9]; go_simp) rfl ⟨rfl, by (repeat (first | (with_reducible exact Below.refl _ _) | (with_reducible assumption) | (with_reducible apply bd) | (with_reducible apply ba) | (with_reducible refine bp ?_ (by first | omega | (simp [pad_size]; done) | (simp [pad_size]; omega)) _ _) | (with_reducible refine bs ?_ (by first | omega | (simp [pad_size]; done) | (simp [pad_size]; omega)) _) | (with_reducible refine bt ?_ (by assumption))))⟩

set_option maxHeartbeats 4000000 in
theorem parseR_strange (s : ByteArray) (hs : 0 < s.size ∧ s.size ≤ 300) (h0 : ((s[0]'hs.1).toNat : Int) ≠ 48 ∨ s.size = 1) (hb : ∃ i, ∃ h : i < s.size, ¬ (48 ≤ (s[i].toNat : Int) ∧ (s[i].toNat : Int) ≤ 57)) (w : World) :
    Calls Try.prog 9 #[.string s] w fun e w' => e = .returned (.tuple #[.agg #[.int .u64 0, .int .u64 0, .int .u64 0, .int .u64 0], .int .i64 4]) ∧ Below w.heap.size w w' := by
  have hne : ((s.size : Int) == 0) = false := by rw [beq_eq_false_iff_ne]; omega
  have hsp : (0 : Int) < (s.size : Int) := by omega
  have hs3 : (s.size : Int) ≤ 300 := by omega
  obtain ⟨c0, hc0⟩ : ∃ c : Int, ((s[0]'hs.1).toNat : Int) = c := ⟨_, rfl⟩
  have hcase : (c0 == 48) = false ∨ ((c0 == 48) = true ∧ decide ((1 : Int) < (s.size : Int)) = false) := by
    rcases h0 with h | h
    · left; rw [← hc0]; simp; omega
    · by_cases e : c0 = 48
      · right; exact ⟨by simp [e], by simp; omega⟩
      · left; simp [e]
  clear h0
  rcases hcase with hq | ⟨hq, hq2⟩
  all_goals
    go_enter Try.func9, Try.ntmps9
    go_wp2
    go_loop [4] (fun i => ∃ k : Nat, k ≤ s.size ∧ i = .int .i64 k ∧ ∀ j, ∀ h : j < s.size, j < k → Hid (48 ≤ (s[j].toNat : Int) ∧ (s[j].toNat : Int) ≤ 57)) (fun i => s.size - (intOf i).toNat)
    case atStart => exact ⟨0, by omega, rfl, fun j _ h => by omega⟩
    case round =>
      obtain ⟨k, hk, rfl, hall⟩ := hrel
      by_cases hlt : k < s.size
      · obtain ⟨c, hck⟩ : ∃ c : Int, (s[k].toNat : Int) = c := ⟨_, rfl⟩
        by_cases d1 : c < 48
        · have d1' : decide (c < 48) = true := by simpa using d1
          clear hall
          go_wp2
          refine bodyPost_ret (v := .tuple #[.agg #[.int .u64 0, .int .u64 0, .int .u64 0, .int .u64 0], .int .i64 4]) (by simp only [results, Try.results9]; go_simp) rfl ⟨rfl, by (repeat (first | (with_reducible exact Below.refl _ _) | (with_reducible assumption) | (with_reducible apply bd) | (with_reducible apply ba) | (with_reducible refine bp ?_ (by first | omega | (simp [pad_size]; done) | (simp [pad_size]; omega)) _ _) | (with_reducible refine bs ?_ (by first | omega | (simp [pad_size]; done) | (simp [pad_size]; omega)) _) | (with_reducible refine bt ?_ (by assumption))))⟩
        · have d1' : decide (c < 48) = false := by simpa using d1
          by_cases d2 : 57 < c
          · have d2' : decide (57 < c) = true := by simpa using d2
            clear hall
            go_wp2
            refine bodyPost_ret (v := .tuple #[.agg #[.int .u64 0, .int .u64 0, .int .u64 0, .int .u64 0], .int .i64 4]) (by simp only [results, Try.results9]; go_simp) rfl ⟨rfl, by (repeat (first | (with_reducible exact Below.refl _ _) | (with_reducible assumption) | (with_reducible apply bd) | (with_reducible apply ba) | (with_reducible refine bp ?_ (by first | omega | (simp [pad_size]; done) | (simp [pad_size]; omega)) _ _) | (with_reducible refine bs ?_ (by first | omega | (simp [pad_size]; done) | (simp [pad_size]; omega)) _) | (with_reducible refine bt ?_ (by assumption))))⟩
          · have d2' : decide (57 < c) = false := by simpa using d2
            have hok : Hid (∀ j, ∀ h : j < s.size, j < k + 1 → Hid (48 ≤ (s[j].toNat : Int) ∧ (s[j].toNat : Int) ≤ 57)) := by
              intro j h hj
              by_cases e : j = k
              · subst e; show _ ∧ _; omega
              · exact hall j h (by omega)
            clear hall
            go_wp2
            go_round
            case rel => exact ⟨k + 1, by omega, by go_num, hok.out⟩
            case measure => (simp [intOf] <;> omega)
      · obtain ⟨i, hi, hn⟩ := hb
        exact absurd (hall i hi (by omega)).out hn

set_option maxHeartbeats 4000000 in
theorem parseR_long (s : ByteArray) (hs : 78 < s.size ∧ s.size ≤ 300) (hd : DigS s) (h0 : ((s[0]'(by omega)).toNat : Int) ≠ 48) (w : World) :
    Calls Try.prog 9 #[.string s] w fun e w' => e = .returned (.tuple #[.agg #[.int .u64 0, .int .u64 0, .int .u64 0, .int .u64 0], .int .i64 2]) ∧ Below w.heap.size w w' := by
  have hne : ((s.size : Int) == 0) = false := by rw [beq_eq_false_iff_ne]; omega
  have hsp : (0 : Int) < (s.size : Int) := by omega
  have hs3 : (s.size : Int) ≤ 300 := by omega
  have hs7 : (78 : Int) < (s.size : Int) := by omega
  have hz : 0 < s.size := by omega
  obtain ⟨c0, hc0⟩ : ∃ c : Int, ((s[0]'hz).toNat : Int) = c := ⟨_, rfl⟩
  have hq : (c0 == 48) = false := by rw [← hc0]; simp; omega
  go_enter Try.func9, Try.ntmps9
  go_wp2
  go_loop [4] (fun i => ∃ k : Nat, k ≤ s.size ∧ i = .int .i64 k) (fun i => s.size - (intOf i).toNat)
  case atStart => exact ⟨0, by omega, rfl⟩
  case round =>
    obtain ⟨k, hk, rfl⟩ := hrel
    by_cases hlt : k < s.size
    · have hdk := hd k hlt
      have d1 : decide ((s[k].toNat : Int) < 48) = false := by simp; omega
      have d2 : decide (57 < (s[k].toNat : Int)) = false := by simp; omega
      go_wp2
      go_round
      case rel => exact ⟨k + 1, by omega, by go_num⟩
      case measure => (simp [intOf] <;> omega)
    · have hk' : k = s.size := by omega
      subst hk'
      go_wp2
      refine bodyPost_ret (v := .tuple #[.agg #[.int .u64 0, .int .u64 0, .int .u64 0, .int .u64 0], .int .i64 2]) (by simp only [results, Try.results9]; go_simp) rfl ⟨rfl, by (repeat (first | (with_reducible exact Below.refl _ _) | (with_reducible assumption) | (with_reducible apply bd) | (with_reducible apply ba) | (with_reducible refine bp ?_ (by first | omega | (simp [pad_size]; done) | (simp [pad_size]; omega)) _ _) | (with_reducible refine bs ?_ (by first | omega | (simp [pad_size]; done) | (simp [pad_size]; omega)) _) | (with_reducible refine bt ?_ (by assumption))))⟩
end Go.Proofs.Ytbfpagmibjbbkaa
