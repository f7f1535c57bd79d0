
/- num.Parse of what is no number's text. -/
import Derived.Test.YtbfpagmibjbbkaaE8
set_option linter.unusedSimpArgs false
set_option linter.unusedVariables false
namespace Go.Proofs.Ytbfpagmibjbbkaa
open Go.RowKit

set_option maxHeartbeats 2000000 in
theorem parse_empty (s : ByteArray) (hs : s.size = 0) (w : World) : Calls Try.prog 6 #[.string s] w fun e w' => e = .returned (.tuple #[.agg #[.int .u64 0, .int .u64 0, .int .u64 0, .int .u64 0], .int .i64 4]) ∧ Below w.heap.size w w' := by
  have hl1 : s.toList = [] := by rw [ByteArray.toList_eq]; exact List.eq_nil_of_length_eq_zero (by simpa using hs)
  go_enter Try.func6, Try.ntmps6
  go_wp2
  refine bodyPost_ret (v := .tuple #[.agg #[.int .u64 0, .int .u64 0, .int .u64 0, .int .u64 0], .int .i64 4]) (by simp only [results, Try.results6]; go_simp) rfl ⟨rfl, by (repeat (first | (with_reducible exact Below.refl _ _) | (with_reducible assumption) | (with_reducible apply bd) | (with_reducible apply ba) | (with_reducible refine bp ?_ (by first | omega | (simp [pad_size]; done) | (simp [pad_size]; omega)) _ _) | (with_reducible refine bs ?_ (by first | omega | (simp [pad_size]; done) | (simp [pad_size]; omega)) _) | (with_reducible refine bt ?_ (by assumption))))⟩

set_option maxHeartbeats 2000000 in
theorem parse_nought (s : ByteArray) (hs : 1 < s.size) (h0 : ((s[0]'(by omega)).toNat : Int) = 48) (w : World) :
    Calls Try.prog 6 #[.string s] w fun e w' => e = .returned (.tuple #[.agg #[.int .u64 0, .int .u64 0, .int .u64 0, .int .u64 0], .int .i64 4]) ∧ Below w.heap.size w w' := by
  have hl1 : ¬ s.toList = [] := by
    rw [ByteArray.toList_eq]; intro e
    have : s.size = 0 := by have := congrArg List.length e; simpa using this
    omega
  have hl2 : s.toList.isEmpty = false := by simpa using hl1
  have hl3 : (s.toList == [48]) = false := by
    rw [beq_eq_false_iff_ne, ByteArray.toList_eq]; intro e
    have : s.size = 1 := by have := congrArg List.length e; simpa using this
    omega
  have hz : 0 < s.size := by omega
  go_enter Try.func6, Try.ntmps6
  go_wp2
  refine bodyPost_ret (v := .tuple #[.agg #[.int .u64 0, .int .u64 0, .int .u64 0, .int .u64 0], .int .i64 4]) (by simp only [results, Try.results6]; go_simp) rfl ⟨rfl, by (repeat (first | (with_reducible exact Below.refl _ _) | (with_reducible assumption) | (with_reducible apply bd) | (with_reducible apply ba) | (with_reducible refine bp ?_ (by first | omega | (simp [pad_size]; done) | (simp [pad_size]; omega)) _ _) | (with_reducible refine bs ?_ (by first | omega | (simp [pad_size]; done) | (simp [pad_size]; omega)) _) | (with_reducible refine bt ?_ (by assumption))))⟩

set_option maxRecDepth 100000 in
set_option maxHeartbeats 8000000 in
theorem parse_strange (s : ByteArray) (hs : 0 < s.size ∧ s.size ≤ 300) (h0 : ((s[0]'hs.1).toNat : Int) ≠ 48 ∨ s = ⟨#[48]⟩) (hb : ∃ i, ∃ h : i < s.size, ¬ (48 ≤ (s[i].toNat : Int) ∧ (s[i].toNat : Int) ≤ 57)) (w : World) :
    Calls Try.prog 6 #[.string s] w fun e w' => e = .returned (.tuple #[.agg #[.int .u64 0, .int .u64 0, .int .u64 0, .int .u64 0], .int .i64 4]) ∧ Below w.heap.size w w' := by
  have hpad := pads
  have hl1 : ¬ s.toList = [] := by
    rw [ByteArray.toList_eq]; intro e
    have : s.size = 0 := by have := congrArg List.length e; simpa using this
    omega
  have hl2 : s.toList.isEmpty = false := by simpa using hl1
  have hs3 : (s.size : Int) ≤ 300 := by omega
  obtain ⟨c0, hc0⟩ : ∃ c : Int, ((s[0]'hs.1).toNat : Int) = c := ⟨_, rfl⟩
  have hcase : (c0 == 48) = false ∨ ((c0 == 48) = true ∧ (s.toList == [48]) = true) := by
    rcases h0 with h | h
    · left; rw [← hc0]; simp; omega
    · by_cases e : c0 = 48
      · right; exact ⟨by simp [e], by rw [h, ByteArray.toList_eq]; rfl⟩
      · left; simp [e]
  clear h0
  rcases hcase with hq | ⟨hq, hq2⟩
  all_goals
    go_enter Try.func6, Try.ntmps6
    go_wp2
    go_loopw [5] (fun o wr => ∃ (k m : Nat) (f : Nat → Obj) (dr : Nat) (a0 a1 a2 a3 c : Int), k ≤ s.size ∧ o = .int .u64 c ∧ Lim a0 a1 a2 a3 ∧ (0 ≤ c ∧ c < 18446744073709551616) ∧ (∀ j, ∀ h : j < s.size, j < k → Hid (48 ≤ (s[j].toNat : Int) ∧ (s[j].toNat : Int) ≤ 57)) ∧ w.heap.size + 1 + 1 + 1 ≤ m ∧ wr = pad (((w.alloc (.cells #[.int .u64 0, .int .u64 0, .int .u64 0, .int .u64 0] 24)).alloc (.cells #[.int .u64 a0, .int .u64 a1, .int .u64 a2, .int .u64 a3] 24)).alloc (.stringIter s k)) m f dr) (fun _ wr => s.size - wr.iterPos (w.heap.size + 1 + 1))
    case atStart =>
      obtain ⟨m, f, dr, hm, e⟩ := pad_of (Below.refl _ (((w.alloc (.cells #[.int .u64 0, .int .u64 0, .int .u64 0, .int .u64 0] 24)).alloc (.cells #[.int .u64 0, .int .u64 0, .int .u64 0, .int .u64 0] 24)).alloc (.stringIter s 0)))
      exact ⟨0, m, f, dr, 0, 0, 0, 0, 0, by omega, rfl, lim_zero, by omega, fun j _ h => by omega, by simpa using hm, e⟩
    case round =>
      obtain ⟨k, m, f, dr, a0, a1, a2, a3, c, hk, rfl, ha, hc, hall, hm, rfl⟩ := hrel
      have st := sz3 (n := w.heap.size) (m := m) hm
      have eX : ((w.alloc (.cells #[.int .u64 0, .int .u64 0, .int .u64 0, .int .u64 0] 24)).alloc (.cells #[.int .u64 a0, .int .u64 a1, .int .u64 a2, .int .u64 a3] 24)).heap.size = w.heap.size + 1 + 1 := by simp
      have hpos : ∀ k m f dr, w.heap.size + 1 + 1 + 1 ≤ m → ∀ a0 a1 a2 a3 : Int, (pad (((w.alloc (.cells #[.int .u64 0, .int .u64 0, .int .u64 0, .int .u64 0] 24)).alloc (.cells #[.int .u64 a0, .int .u64 a1, .int .u64 a2, .int .u64 a3] 24)).alloc (.stringIter s k)) m f dr).iterPos (w.heap.size + 1 + 1) = k := by
        intro k m f dr h a0 a1 a2 a3
        have := pos_pad ((w.alloc (.cells #[.int .u64 0, .int .u64 0, .int .u64 0, .int .u64 0] 24)).alloc (.cells #[.int .u64 a0, .int .u64 a1, .int .u64 a2, .int .u64 a3] 24)) s k m f dr (by simp; omega)
        simpa using this
      by_cases hlt : k < s.size
      · by_cases hdk : 48 ≤ (s[k].toNat : Int) ∧ (s[k].toNat : Int) ≤ 57
        · have hok : Hid (∀ j, ∀ h : j < s.size, j < k + 1 → Hid (48 ≤ (s[j].toNat : Int) ∧ (s[j].toNat : Int) ≤ 57)) := by
            intro j h hj
            by_cases e : j = k
            · subst e; exact hdk
            · exact hall j h (by omega)
          obtain ⟨d, hdd⟩ : ∃ d : Int, (s[k].toNat : Int) = d := ⟨_, rfl⟩
          rw [hdd] at hdk
          have hdec : Utf8.decode s k = (s[k].toNat, 1) := decode_ascii s k hlt (by omega)
          have hnx : ∀ ty, (Instr.next (.pointer (some ⟨w.heap.size + 1 + 1, 0, none⟩)) true ty).run Try.prog (pad (((w.alloc (.cells #[.int .u64 0, .int .u64 0, .int .u64 0, .int .u64 0] 24)).alloc (.cells #[.int .u64 a0, .int .u64 a1, .int .u64 a2, .int .u64 a3] 24)).alloc (.stringIter s k)) m f dr) = .ok (.tuple #[.bool true, .int .i64 k, .int .i32 d]) (pad (((w.alloc (.cells #[.int .u64 0, .int .u64 0, .int .u64 0, .int .u64 0] 24)).alloc (.cells #[.int .u64 a0, .int .u64 a1, .int .u64 a2, .int .u64 a3] 24)).alloc (.stringIter s (k + 1))) m f dr) := by
            intro ty
            have h := next_yes ((w.alloc (.cells #[.int .u64 0, .int .u64 0, .int .u64 0, .int .u64 0] 24)).alloc (.cells #[.int .u64 a0, .int .u64 a1, .int .u64 a2, .int .u64 a3] 24)) s k m f dr (by simp; omega) hlt ty
            rw [eX, hdec] at h
            simp only [hdd] at h
            exact h
          have d1 : decide (d < 48) = false := by simp; omega
          have d2 : decide (57 < d) = false := by simp; omega
          clear hall hdec hdd
          by_cases hc0' : c = 0
          · subst hc0'
            go_wp2_with (go_at_call 11; refine (scale_any a0 a1 a2 a3 10 (d - 48) ha (by omega) (by omega) _).mono ?_; rintro e w1 ⟨b0, b1, b2, b3, c', rfl, hb', hc', he, hbw⟩; obtain ⟨m1, g1, d1, hm1, rfl⟩ := pad_of (bt (bp (Below.refl _ _) (by first | omega | (simp [pad_size]; omega)) _ _) hbw); clear hbw; (try simp [pad_size] at hm1); have st1_w := sz3 (n := w.heap.size) (m := m1) (by omega))
            all_goals go_roundw
            case rel => exact ⟨k + 1, m1, g1, d1, b0, b1, b2, b3, c', by omega, rfl, hb', hc', hok.out, by omega, rfl⟩
            case measure => (rw [hpos _ m1 _ _ (by omega), hpos _ m _ _ hm]; omega)
          · have hcn : (c == 0) = false := by simp [hc0']
            go_wp2
            all_goals go_roundw
            case rel => exact ⟨k + 1, m, f, dr, a0, a1, a2, a3, c, by omega, rfl, ha, hc, hok.out, hm, rfl⟩
            case measure => (rw [hpos _ m _ _ hm, hpos _ m _ _ hm]; omega)
        · obtain ⟨r, wd, hr, hnx⟩ : ∃ (r : Int) (wd : Nat), (r < 48 ∨ 57 < r) ∧ ∀ ty, (Instr.next (.pointer (some ⟨w.heap.size + 1 + 1, 0, none⟩)) true ty).run Try.prog (pad (((w.alloc (.cells #[.int .u64 0, .int .u64 0, .int .u64 0, .int .u64 0] 24)).alloc (.cells #[.int .u64 a0, .int .u64 a1, .int .u64 a2, .int .u64 a3] 24)).alloc (.stringIter s k)) m f dr) = .ok (.tuple #[.bool true, .int .i64 k, .int .i32 r]) (pad (((w.alloc (.cells #[.int .u64 0, .int .u64 0, .int .u64 0, .int .u64 0] 24)).alloc (.cells #[.int .u64 a0, .int .u64 a1, .int .u64 a2, .int .u64 a3] 24)).alloc (.stringIter s (k + wd))) m f dr) := by
            refine ⟨(Utf8.decode s k).1, (Utf8.decode s k).2, ?_, fun ty => ?_⟩
            · by_cases ha : s[k].toNat < 128
              · rw [decode_ascii s k hlt ha]; simp only; omega
              · have := (decode_high s k hlt (by omega)).1; omega
            · have h := next_yes ((w.alloc (.cells #[.int .u64 0, .int .u64 0, .int .u64 0, .int .u64 0] 24)).alloc (.cells #[.int .u64 a0, .int .u64 a1, .int .u64 a2, .int .u64 a3] 24)) s k m f dr (by simp; omega) hlt ty
              rw [eX] at h
              exact h
          clear hall
          by_cases e1 : r < 48
          · have d1 : decide (r < 48) = true := by simpa using e1
            go_wp2
            refine bodyPost_ret (v := .tuple #[.agg #[.int .u64 0, .int .u64 0, .int .u64 0, .int .u64 0], .int .i64 4]) (by simp only [results, Try.results6]; go_simp) rfl ⟨rfl, by (repeat (first | (with_reducible exact Below.refl _ _) | (with_reducible assumption) | (with_reducible apply bd) | (with_reducible apply ba) | (with_reducible refine bp ?_ (by first | omega | (simp [pad_size]; done) | (simp [pad_size]; omega)) _ _) | (with_reducible refine bs ?_ (by first | omega | (simp [pad_size]; done) | (simp [pad_size]; omega)) _) | (with_reducible refine bt ?_ (by assumption))))⟩
          · have d1 : decide (r < 48) = false := by simpa using e1
            have e2 : 57 < r := by omega
            have d2 : decide (57 < r) = true := by simpa using e2
            go_wp2
            refine bodyPost_ret (v := .tuple #[.agg #[.int .u64 0, .int .u64 0, .int .u64 0, .int .u64 0], .int .i64 4]) (by simp only [results, Try.results6]; go_simp) rfl ⟨rfl, by (repeat (first | (with_reducible exact Below.refl _ _) | (with_reducible assumption) | (with_reducible apply bd) | (with_reducible apply ba) | (with_reducible refine bp ?_ (by first | omega | (simp [pad_size]; done) | (simp [pad_size]; omega)) _ _) | (with_reducible refine bs ?_ (by first | omega | (simp [pad_size]; done) | (simp [pad_size]; omega)) _) | (with_reducible refine bt ?_ (by assumption))))⟩
      · obtain ⟨i, hi, hn⟩ := hb
        exact absurd (hall i hi (by omega)).out hn
end Go.Proofs.Ytbfpagmibjbbkaa
