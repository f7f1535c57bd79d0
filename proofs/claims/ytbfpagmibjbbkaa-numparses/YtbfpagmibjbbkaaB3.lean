
/- The law's own examples (halves). -/
import Derived.Test.YtbfpagmibjbbkaaB2
import Derived.Test.YtbfpagmibjbbkaaZ1
set_option linter.unusedSimpArgs false
set_option linter.unusedVariables false
namespace Go.Proofs.Ytbfpagmibjbbkaa
open Go.RowKit

theorem lim_of {n : Int} (h : 0 ≤ n ∧ n < 18446744073709551616) : Lim n 0 0 0 := by unfold Lim; omega

theorem bytes_256 (w : World) : Calls Try.prog 15 #[.agg #[.int .u64 256, .int .u64 0, .int .u64 0, .int .u64 0]] w fun e w' => ∃ g cap, e = .returned (.slice (some ⟨g, 0, none⟩) 2 cap) ∧ IsBytes w' (.slice (some ⟨g, 0, none⟩) 2 cap) [1, 0] ∧ Below w.heap.size w w' := by
  have hx : Lim 256 0 0 0 := lim_of (by omega)
  refine (bytes_any 256 0 0 0 hx w).mono ?_
  rintro e w' ⟨v, rfl, hrow, hb⟩
  have hl : bytesB (limbsDown hx) = [1, 0] := by simp [bytesB, limbsDown, limb, partB, stepB]
  rw [hl] at hrow
  obtain ⟨g, cap, rfl⟩ := ownsRow_succ hrow
  exact ⟨g, cap, rfl, own_bytes (by simp) hrow, hb⟩

theorem md_ex {up : Bool} {n z0 z1 z2 z3 c : Int} (hz : Lim z0 z1 z2 z3) (h : MdS (val 7 0 0 0) (val 3 0 0 0) (val 2 0 0 0) up (val z0 z1 z2 z3) c) (hn : 0 ≤ n ∧ n < 18446744073709551616)
    (hu : ∀ q r : Int, 21 = q * 2 + r → 0 ≤ r → r < 2 → upI up q r = n) : z0 = n ∧ z1 = 0 ∧ z2 = 0 ∧ z3 = 0 ∧ c = 0 := by
  rw [val_of, val_of, val_of] at h
  rcases h with ⟨h, -⟩ | ⟨-, q, r, h1, h2, h3, h4, h5⟩
  · omega
  · rw [hu q r (by omega) h2 h3] at h5
    rcases h5 with ⟨-, rfl, h6⟩ | ⟨h6, -⟩
    · obtain ⟨a, b, c, d⟩ := val_inj hz (lim_of hn) (by rw [val_of]; exact h6)
      exact ⟨a, b, c, d, rfl⟩
    · omega
theorem muldiv_f (w : World) : Calls Try.prog 12 #[.agg #[.int .u64 7, .int .u64 0, .int .u64 0, .int .u64 0], .agg #[.int .u64 3, .int .u64 0, .int .u64 0, .int .u64 0], .agg #[.int .u64 2, .int .u64 0, .int .u64 0, .int .u64 0], .bool false] w fun e w' => e = .returned (.tuple #[.agg #[.int .u64 10, .int .u64 0, .int .u64 0, .int .u64 0], .int .i64 0]) ∧ Below w.heap.size w w' := by
  refine (muldiv_any 7 0 0 0 3 0 0 0 2 0 0 0 false (lim_of (by omega)) (lim_of (by omega)) (lim_of (by omega)) w).mono ?_
  rintro e w' ⟨z0, z1, z2, z3, c, rfl, hz, hs, hb⟩
  obtain ⟨rfl, rfl, rfl, rfl, rfl⟩ := md_ex (n := 10) hz hs (by decide) (by rintro q r h1 h2 h3; simp [upI]; omega)
  exact ⟨rfl, hb⟩
theorem muldiv_t (w : World) : Calls Try.prog 12 #[.agg #[.int .u64 7, .int .u64 0, .int .u64 0, .int .u64 0], .agg #[.int .u64 3, .int .u64 0, .int .u64 0, .int .u64 0], .agg #[.int .u64 2, .int .u64 0, .int .u64 0, .int .u64 0], .bool true] w fun e w' => e = .returned (.tuple #[.agg #[.int .u64 11, .int .u64 0, .int .u64 0, .int .u64 0], .int .i64 0]) ∧ Below w.heap.size w w' := by
  refine (muldiv_any 7 0 0 0 3 0 0 0 2 0 0 0 true (lim_of (by omega)) (lim_of (by omega)) (lim_of (by omega)) w).mono ?_
  rintro e w' ⟨z0, z1, z2, z3, c, rfl, hz, hs, hb⟩
  obtain ⟨rfl, rfl, rfl, rfl, rfl⟩ := md_ex (n := 11) hz hs (by decide) (by rintro q r h1 h2 h3; unfold upI; rw [if_pos ⟨rfl, by omega⟩]; omega)
  exact ⟨rfl, hb⟩

theorem lit2 (W : World) : IsBytes (W.alloc (.cells #[.int .u8 1, .int .u8 0] 5)) (.slice (some ⟨W.heap.size, 0, none⟩) 2 2) [1, 0] := by
  refine .inr ⟨W.heap.size, 0, 2, rfl, by simp, by simp, fun i x h => ?_⟩
  rw [(cells_of_block (World.alloc_heap_new W _)).1]
  match i, h with
  | 0, h => simp at h; subst h; rfl
  | 1, h => simp at h; subst h; rfl
  | i + 2, h => simp at h

set_option maxHeartbeats 4000000 in
theorem halves_any (w : World) : Calls Try.prog 7 #[] w fun e w' => e = .returned (.bool true) ∧ Below w.heap.size w w' := by
  go_enter Try.func7, Try.ntmps7
  have hpad := pads
  have heq := eq_num
  have e10 : eq4 10 0 0 0 10 0 0 0 = true := rfl
  have e11 : eq4 11 0 0 0 11 0 0 0 = true := rfl
  go_wp2_with (first
    | (go_at_call 13; with_reducible refine (of_any 7 w).mono ?_; rintro e w' ⟨rfl, hb⟩; obtain ⟨m1, g1, d1, hm1, rfl⟩ := pad_of hb; clear hb; (try simp [pad_size] at hm1); have st1_w : w.heap.size ≤ m1 := (by omega))
    | (go_at_call 13; with_reducible refine (of_any 3 (pad w m1 g1 d1)).mono ?_; rintro e w' ⟨rfl, hb⟩; obtain ⟨m2, g2, d2, hm2, rfl⟩ := pad_of (bt (bp (Below.refl _ _) (by first | omega | (simp [pad_size]; omega)) _ _) hb); clear hb; (try simp [pad_size] at hm2); have st2_w : w.heap.size ≤ m2 := (by omega); clear st1_w hm1)
    | (go_at_call 13; with_reducible refine (of_any 2 (pad w m2 g2 d2)).mono ?_; rintro e w' ⟨rfl, hb⟩; obtain ⟨m3, g3, d3, hm3, rfl⟩ := pad_of (bt (bp (Below.refl _ _) (by first | omega | (simp [pad_size]; omega)) _ _) hb); clear hb; (try simp [pad_size] at hm3); have st3_w : w.heap.size ≤ m3 := (by omega); clear st2_w hm2)
    | (go_at_call 12; with_reducible refine (muldiv_f _).mono ?_; rintro e w' ⟨rfl, hb⟩; obtain ⟨m4, g4, d4, hm4, rfl⟩ := pad_of (bt (bp (Below.refl _ _) (by first | omega | (simp [pad_size]; omega)) _ _) hb); clear hb; (try simp [pad_size] at hm4); have st4_w : w.heap.size ≤ m4 := (by omega); clear st3_w hm3)
    | (go_at_call 13; with_reducible refine (of_any 7 ((pad w m4 g4 d4).alloc _)).mono ?_; rintro e w' ⟨rfl, hb⟩; obtain ⟨m5, g5, d5, hm5, rfl⟩ := pad_of hb; clear hb; (try simp [pad_size] at hm5); have st5_w : w.heap.size ≤ m5 := (by omega); have st5_4 := sz1 (n := m4) (m := m5) (by omega))
    | (go_at_call 13; with_reducible refine (of_any 3 (pad ((pad w m4 g4 d4).alloc _) m5 g5 d5)).mono ?_; rintro e w' ⟨rfl, hb⟩; obtain ⟨m6, g6, d6, hm6, rfl⟩ := pad_of (bt (bp (Below.refl _ _) (by first | omega | (simp [pad_size]; omega)) _ _) hb); clear hb; (try simp [pad_size] at hm6); have st6_w : w.heap.size ≤ m6 := (by omega); have st6_4 := sz1 (n := m4) (m := m6) (by omega); clear st5_w hm5)
    | (go_at_call 13; with_reducible refine (of_any 2 (pad ((pad w m4 g4 d4).alloc _) m6 g6 d6)).mono ?_; rintro e w' ⟨rfl, hb⟩; obtain ⟨m7, g7, d7, hm7, rfl⟩ := pad_of (bt (bp (Below.refl _ _) (by first | omega | (simp [pad_size]; omega)) _ _) hb); clear hb; (try simp [pad_size] at hm7); have st7_w : w.heap.size ≤ m7 := (by omega); have st7_4 := sz1 (n := m4) (m := m7) (by omega); clear st6_w hm6)
    | (go_at_call 12; with_reducible refine (muldiv_t _).mono ?_; rintro e w' ⟨rfl, hb⟩; obtain ⟨m8, g8, d8, hm8, rfl⟩ := pad_of (bt (bp (Below.refl _ _) (by first | omega | (simp [pad_size]; omega)) _ _) hb); clear hb; (try simp [pad_size] at hm8); have st8_w : w.heap.size ≤ m8 := (by omega); have st8_4 := sz1 (n := m4) (m := m8) (by omega); clear st7_w hm7)
    | (go_at_call 6; refine (parse_007 _).mono ?_; rintro e w' ⟨rfl, hb⟩; obtain ⟨m9, g9, d9, hm9, rfl⟩ := pad_of hb; clear hb; (try simp [pad_size] at hm9); have st9_w : w.heap.size ≤ m9 := (by omega); have st9_4 := sz1 (n := m4) (m := m9) (by omega); have st9_8 := sz1 (n := m8) (m := m9) (by omega))
    | (go_at_call 13; refine (of_any 256 _).mono ?_; rintro e wA ⟨rfl, hbA⟩)
    | (go_at_call 15; refine (bytes_256 _).mono ?_; rintro e wB ⟨gB, capB, rfl, hiB, hbB⟩)
    | (go_at_call 14; refine (same_any _ (hiB.below (ba (Below.refl _ _) _)) (lit2 wB)).mono ?_; rintro e wC ⟨rfl, hbC⟩))
  go_ret
  refine ⟨rfl, ?_⟩
  (repeat (first | (with_reducible exact Below.refl _ _) | (with_reducible assumption) | (with_reducible apply bd) | (with_reducible apply ba) | (with_reducible refine bp ?_ (by first | omega | (simp [pad_size]; done) | (simp [pad_size]; omega)) _ _) | (with_reducible refine bs ?_ (by first | omega | (simp [pad_size]; done) | (simp [pad_size]; omega)) _) | (with_reducible refine bt ?_ (by assumption))))
end Go.Proofs.Ytbfpagmibjbbkaa
