
/- codec: nil ones. -/
import Derived.Test.YtdnddkkpcbaepaaG9
import Derived.Test.YtdnddkkpcbaepaaR
import Derived.WalkMore
set_option linter.unusedSimpArgs false
set_option linter.unusedVariables false
namespace Go.Proofs.Ytdnddkkpcbaepaa
open Go.RowKit

set_option maxHeartbeats 1000000 in
theorem lay_nil (u : Value) (W : World) : Calls Try.prog 49 #[.pointer none, u] W fun e w' => e = .returned (.pointer none) ∧ w' = W := by
  go_enter Try.func49, Try.ntmps49
  go_wp2
  go_ret
  exact ⟨rfl, rfl⟩
set_option maxHeartbeats 1000000 in
theorem wByte_nil (x : Int) (W : World) : Calls Try.prog 25 #[.pointer none, .int .u8 x] W fun e w' => e = .returned (.pointer none) ∧ Below W.heap.size W w' := by
  go_enter Try.func25, Try.ntmps25
  go_wp2_with (go_at_call 49; refine (lay_nil _ _).mono ?_; rintro e w1 ⟨rfl, rfl⟩)
  go_ret
  exact ⟨rfl, by (repeat (first | (with_reducible exact Below.refl _ _) | (with_reducible assumption) | (with_reducible apply bd) | (with_reducible apply ba) | (with_reducible refine bp ?_ (by first | omega | (simp [pad_size]; done) | (simp [pad_size]; omega)) _ _) | (with_reducible refine bs ?_ (by first | omega | (simp [pad_size]; done) | (simp [pad_size]; omega)) _) | (with_reducible refine bt ?_ (by assumption))))⟩
set_option maxHeartbeats 1000000 in
theorem wFlag_nil (W : World) : Calls Try.prog 27 #[.pointer none, .bool true] W fun e w' => e = .returned (.pointer none) ∧ Below W.heap.size W w' := by
  go_enter Try.func27, Try.ntmps27
  go_wp2_with (go_at_call 49; refine (lay_nil _ _).mono ?_; rintro e w1 ⟨rfl, rfl⟩)
  go_ret
  exact ⟨rfl, by (repeat (first | (with_reducible exact Below.refl _ _) | (with_reducible assumption) | (with_reducible apply bd) | (with_reducible apply ba) | (with_reducible refine bp ?_ (by first | omega | (simp [pad_size]; done) | (simp [pad_size]; omega)) _ _) | (with_reducible refine bs ?_ (by first | omega | (simp [pad_size]; done) | (simp [pad_size]; omega)) _) | (with_reducible refine bt ?_ (by assumption))))⟩
set_option maxHeartbeats 1000000 in
theorem wShort_nil (x : Int) (hx : 0 ≤ x ∧ x < 65536) (W : World) : Calls Try.prog 28 #[.pointer none, .int .u16 x] W fun e w' => e = .returned (.pointer none) ∧ Below W.heap.size W w' := by
  go_enter Try.func28, Try.ntmps28
  go_wp2_with (go_at_call 49; refine (lay_nil _ _).mono ?_; rintro e w1 ⟨rfl, rfl⟩)
  go_ret
  exact ⟨rfl, by (repeat (first | (with_reducible exact Below.refl _ _) | (with_reducible assumption) | (with_reducible apply bd) | (with_reducible apply ba) | (with_reducible refine bp ?_ (by first | omega | (simp [pad_size]; done) | (simp [pad_size]; omega)) _ _) | (with_reducible refine bs ?_ (by first | omega | (simp [pad_size]; done) | (simp [pad_size]; omega)) _) | (with_reducible refine bt ?_ (by assumption))))⟩
set_option maxHeartbeats 2000000 in
theorem wLong_nil (W : World) : Calls Try.prog 29 #[.pointer none, .int .u64 2] W fun e w' => e = .returned (.pointer none) ∧ Below W.heap.size W w' := by
  have hpad := pads
  go_enter Try.func29, Try.ntmps29
  go_wp2_with (go_at_call 28; refine (wShort_nil _ (by omega) _).mono ?_; rintro e w1 ⟨rfl, hb⟩; obtain ⟨m, g, d, hm, rfl⟩ := pad_of hb; clear hb; (try simp [pad_size] at hm))
  go_ret
  exact ⟨rfl, by (repeat (first | (with_reducible exact Below.refl _ _) | (with_reducible assumption) | (with_reducible apply bd) | (with_reducible apply ba) | (with_reducible refine bp ?_ (by first | omega | (simp [pad_size]; done) | (simp [pad_size]; omega)) _ _) | (with_reducible refine bs ?_ (by first | omega | (simp [pad_size]; done) | (simp [pad_size]; omega)) _) | (with_reducible refine bt ?_ (by assumption))))⟩
set_option maxHeartbeats 1000000 in
theorem wNum_nil (x0 x1 x2 x3 : Int) (hx : Lim x0 x1 x2 x3) (W : World) : Calls Try.prog 30 #[.pointer none, .agg #[.int .u64 x0, .int .u64 x1, .int .u64 x2, .int .u64 x3]] W fun e w' => e = .returned (.pointer none) ∧ Below W.heap.size W w' := by
  have hlen := byL_len (val x0 x1 x2 x3) 32
  have hB0 := bytes_own x0 x1 x2 x3 hx
  generalize byL (val x0 x1 x2 x3) 32 = q at *
  have hl1 : (q.length : Int) ≤ 32 := by omega
  go_enter Try.func30, Try.ntmps30
  go_wp2_with (first
    | (go_at_call 51; refine (hB0 _).mono ?_; rintro e w1 ⟨u, rfl, ho1, hb1⟩; obtain ⟨a1, c1, rfl⟩ := row_slice ho1)
    | (go_at_call 25; refine (wByte_nil _ _).mono ?_; rintro e w2 ⟨rfl, hb2⟩)
    | (go_at_call 49; refine (lay_nil _ _).mono ?_; rintro e w3 ⟨rfl, rfl⟩))
  go_ret
  exact ⟨rfl, bt (bt (ba (Below.refl _ _) _) hb1) hb2⟩
set_option maxHeartbeats 1000000 in
theorem wCoins_nil (W : World) : Calls Try.prog 21 #[.pointer none, .slice none 0 0] W fun e w' => e = .returned (.pointer none) ∧ Below W.heap.size W w' := by
  go_enter Try.func21, Try.ntmps21
  go_wp2_with (go_at_call 25; refine (wByte_nil _ _).mono ?_; rintro e w2 ⟨rfl, hb2⟩)
  apply wp_loop_rounds 1
  simp only [Code.rounds]
  go_wp2
  go_ret
  exact ⟨rfl, hb2⟩
set_option maxHeartbeats 1000000 in
theorem wDone_nil (W : World) : Calls Try.prog 13 #[.pointer none] W fun e w' => e = .returned (.slice none 0 0) ∧ w' = W := by
  go_enter Try.func13, Try.ntmps13
  go_wp2
  go_ret
  exact ⟨rfl, rfl⟩
set_option maxHeartbeats 1000000 in
theorem rFail_nil (W : World) : Calls Try.prog 23 #[.pointer none] W fun e w' => e = .returned (.tuple #[]) ∧ w' = W := by
  go_enter Try.func23, Try.ntmps23
  go_wp2
  exact bodyPost_end (v := .tuple #[]) (by simp [results, Try.results23]) rfl ⟨rfl, rfl⟩
set_option maxHeartbeats 1000000 in
theorem rBad_nil (W : World) : Calls Try.prog 17 #[.pointer none] W fun e w' => e = .returned (.bool true) ∧ w' = W := by
  go_enter Try.func17, Try.ntmps17
  go_wp2
  go_ret
  exact ⟨rfl, rfl⟩
set_option maxHeartbeats 1000000 in
theorem rLeft_nil (W : World) : Calls Try.prog 22 #[.pointer none] W fun e w' => e = .returned (.int .i64 0) ∧ w' = W := by
  go_enter Try.func22, Try.ntmps22
  go_wp2_with (go_at_call 17; refine (rBad_nil _).mono ?_; rintro e w1 ⟨rfl, rfl⟩)
  go_ret
  exact ⟨rfl, rfl⟩
set_option maxHeartbeats 1000000 in
theorem rEnd_nil (W : World) : Calls Try.prog 18 #[.pointer none] W fun e w' => e = .returned (.bool false) ∧ w' = W := by
  go_enter Try.func18, Try.ntmps18
  go_wp2_with (go_at_call 17; refine (rBad_nil _).mono ?_; rintro e w1 ⟨rfl, rfl⟩)
  go_ret
  exact ⟨rfl, rfl⟩
set_option maxHeartbeats 1000000 in
theorem rTake_nil (n : Int) (W : World) : Calls Try.prog 53 #[.pointer none, .int .i64 n] W fun e w' => e = .returned (.slice none 0 0) ∧ w' = W := by
  go_enter Try.func53, Try.ntmps53
  go_wp2_with (go_at_call 17; refine (rBad_nil _).mono ?_; rintro e w1 ⟨rfl, rfl⟩)
  go_ret
  exact ⟨rfl, rfl⟩
set_option maxHeartbeats 1000000 in
theorem rNumber_nil (n : Int) (W : World) : Calls Try.prog 50 #[.pointer none, .int .i64 n] W fun e w' => e = .returned (.int .u64 0) ∧ w' = W := by
  go_enter Try.func50, Try.ntmps50
  go_wp2_with (go_at_call 53; refine (rTake_nil _ _).mono ?_; rintro e w1 ⟨rfl, rfl⟩)
  apply wp_loop_rounds 1
  simp only [Code.rounds]
  go_wp2
  go_ret
  exact ⟨rfl, rfl⟩
set_option maxHeartbeats 1000000 in
theorem rByte_nil (W : World) : Calls Try.prog 26 #[.pointer none] W fun e w' => e = .returned (.int .u8 0) ∧ w' = W := by
  go_enter Try.func26, Try.ntmps26
  go_wp2_with (go_at_call 50; refine (rNumber_nil _ _).mono ?_; rintro e w1 ⟨rfl, rfl⟩)
  go_ret
  exact ⟨rfl, rfl⟩
set_option maxHeartbeats 1000000 in
theorem rShort_nil (W : World) : Calls Try.prog 32 #[.pointer none] W fun e w' => e = .returned (.int .u16 0) ∧ w' = W := by
  go_enter Try.func32, Try.ntmps32
  go_wp2_with (go_at_call 50; refine (rNumber_nil _ _).mono ?_; rintro e w1 ⟨rfl, rfl⟩)
  go_ret
  exact ⟨rfl, rfl⟩
set_option maxHeartbeats 1000000 in
theorem rLong_nil (W : World) : Calls Try.prog 33 #[.pointer none] W fun e w' => e = .returned (.int .u64 0) ∧ w' = W := by
  go_enter Try.func33, Try.ntmps33
  go_wp2_with (go_at_call 50; refine (rNumber_nil _ _).mono ?_; rintro e w1 ⟨rfl, rfl⟩)
  go_ret
  exact ⟨rfl, rfl⟩
set_option maxHeartbeats 1000000 in
theorem rFlag_nil (W : World) : Calls Try.prog 31 #[.pointer none] W fun e w' => e = .returned (.bool false) ∧ w' = W := by
  go_enter Try.func31, Try.ntmps31
  go_wp2_with (go_at_call 26; refine (rByte_nil _).mono ?_; rintro e w1 ⟨rfl, rfl⟩)
  go_ret
  exact ⟨rfl, rfl⟩
set_option maxHeartbeats 1000000 in
theorem rNum_nil (W : World) : Calls Try.prog 34 #[.pointer none] W fun e w' => e = .returned (.agg #[.int .u64 0, .int .u64 0, .int .u64 0, .int .u64 0]) ∧ Below W.heap.size W w' := by
  have hpad := pads
  go_enter Try.func34, Try.ntmps34
  go_wp2_with (first
    | (go_at_call 26; refine (rByte_nil _).mono ?_; rintro e w1 ⟨rfl, rfl⟩)
    | (go_at_call 53; refine (rTake_nil _ _).mono ?_; rintro e w1 ⟨rfl, rfl⟩)
    | (go_at_call 52; refine (read_nil _ _ _).mono ?_; rintro e w1 ⟨rfl, hb⟩; obtain ⟨m, g, d, hm, rfl⟩ := pad_of hb; clear hb; simp at hm; have st := sz1 (n := W.heap.size) (m := m) (by omega)))
  refine bodyPost_ret (v := .agg #[.int .u64 0, .int .u64 0, .int .u64 0, .int .u64 0]) (by simp only [results, Try.results34]; go_simp) rfl ⟨rfl, by (repeat (first | (with_reducible exact Below.refl _ _) | (with_reducible assumption) | (with_reducible apply bd) | (with_reducible apply ba) | (with_reducible refine bp ?_ (by first | omega | (simp [pad_size]; done) | (simp [pad_size]; omega)) _ _) | (with_reducible refine bs ?_ (by first | omega | (simp [pad_size]; done) | (simp [pad_size]; omega)) _) | (with_reducible refine bt ?_ (by assumption))))⟩
set_option maxHeartbeats 1000000 in
theorem rCoins_nil (W : World) : Calls Try.prog 20 #[.pointer none] W fun e w' => e = .returned (.slice none 0 0) ∧ Below W.heap.size W w' := by
  go_enter Try.func20, Try.ntmps20
  go_wp2
  go_step3
  go_wp2_with (first
    | (go_at_call 26; refine (rByte_nil _).mono ?_; rintro e w1 ⟨rfl, rfl⟩))
  go_step3
  go_wp2_with (first
    | (go_at_call 17; refine (rBad_nil _).mono ?_; rintro e w2 ⟨rfl, rfl⟩)
    | (go_at_call 48; refine (right_none _ _ _).mono ?_; rintro e w2 ⟨rfl, hb2⟩))
  try rw [Exit.noGoto_ret]
  go_ret
  exact ⟨rfl, hb2⟩
end Go.Proofs.Ytdnddkkpcbaepaa
