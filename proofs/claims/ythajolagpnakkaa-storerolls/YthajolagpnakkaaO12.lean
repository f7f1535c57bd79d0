
/- store: of nothing; are two alike that have nothing? -/
import Derived.Test.YthajolagpnakkaaO11
set_option linter.unusedSimpArgs false
set_option linter.unusedVariables false
namespace Go.Proofs.Ythajolagpnakkaa
open Go.RowKit

section
variable {W : World} {s base : Nat} {A : Nat → Prop} {vp vj vb : Value} {r : List Rec} {j : List Was} {b : List Nat}
set_option maxHeartbeats 1000000 in
theorem all_nil (W : World) : Calls Try.prog 41 #[.pointer none] W fun e w' => e = .returned (.slice none 0 0) ∧ w' = W := by
  go_enter Try.func41, Try.ntmps41
  go_wp2
  go_ret
  exact ⟨rfl, rfl⟩
set_option maxHeartbeats 1000000 in
theorem depth_nil (W : World) : Calls Try.prog 18 #[.pointer none] W fun e w' => e = .returned (.int .i64 0) ∧ w' = W := by
  go_enter Try.func18, Try.ntmps18
  go_wp2
  go_ret
  exact ⟨rfl, rfl⟩
set_option maxHeartbeats 1000000 in
theorem len_nil (W : World) : Calls Try.prog 27 #[.pointer none] W fun e w' => e = .returned (.int .i64 0) ∧ w' = W := by
  go_enter Try.func27, Try.ntmps27
  go_wp2_with (go_at_call 41; refine (all_nil W).mono ?_; rintro e w1 ⟨rfl, hw⟩; obtain rfl := hw.symm)
  go_ret
  exact ⟨rfl, rfl⟩
set_option maxHeartbeats 1000000 in
theorem find_nil {u : Value} {key : List Int} (hu : Src W u key) (hk : Byte key) :
    Calls Try.prog 44 #[.pointer none, u] W fun e w' => e = .returned (.tuple #[.int .i64 0, .bool false]) ∧ Below W.heap.size W w' := by
  have hS := search_any (r := []) (A := fun _ => False) (World.ownsRow_nil W W.heap.size 62 2) (by simp) List.Pairwise.nil (by simp) hu hk
  go_enter Try.func44, Try.ntmps44
  go_wp2_with (first
    | (go_at_call 41; refine (all_nil W).mono ?_; rintro e w1 ⟨rfl, hw⟩; obtain rfl := hw.symm)
    | (go_at_call 49; refine hS.mono ?_; rintro e w2 ⟨i, f, rfl, hF, hb⟩; obtain rfl : i = 0 := (by have := hF.le; simpa using this); obtain rfl : f = false := (by cases f; rfl; obtain ⟨x, hx, -⟩ := hF.is.1 rfl; simp at hx)))
  go_ret2
  exact ⟨rfl, hb⟩
set_option maxHeartbeats 1000000 in
theorem set_nil (u v : Value) (W : World) : Calls Try.prog 32 #[.pointer none, u, v] W fun e w' => e = .returned (.tuple #[]) ∧ w' = W := by
  go_enter Try.func32, Try.ntmps32
  go_wp2
  exact bodyPost_end (v := .tuple #[]) (by simp [results, Try.results32]) rfl ⟨rfl, rfl⟩
set_option maxHeartbeats 1000000 in
theorem begin_nil (W : World) : Calls Try.prog 19 #[.pointer none] W fun e w' => e = .returned (.tuple #[]) ∧ w' = W := by
  go_enter Try.func19, Try.ntmps19
  go_wp2
  exact bodyPost_end (v := .tuple #[]) (by simp [results, Try.results19]) rfl ⟨rfl, rfl⟩
set_option maxHeartbeats 1000000 in
theorem del_nil {u : Value} {key : List Int} (hu : Src W u key) (hk : Byte key) :
    Calls Try.prog 33 #[.pointer none, u] W fun e w' => e = .returned (.tuple #[]) ∧ Below W.heap.size W w' := by
  have hF := find_nil hu hk
  go_enter Try.func33, Try.ntmps33
  go_wp2_with (go_at_call 44; refine hF.mono ?_; rintro e w1 ⟨rfl, hb⟩)
  exact bodyPost_end (v := .tuple #[]) (by simp [results, Try.results33]) rfl ⟨rfl, hb⟩
set_option maxHeartbeats 1000000 in
theorem get_nil {u : Value} {key : List Int} (hu : Src W u key) (hk : Byte key) :
    Calls Try.prog 28 #[.pointer none, u] W fun e w' => e = .returned (.tuple #[.slice none 0 0, .bool false]) ∧ Below W.heap.size W w' := by
  have hF := find_nil hu hk
  go_enter Try.func28, Try.ntmps28
  go_wp2_with (go_at_call 44; refine hF.mono ?_; rintro e w1 ⟨rfl, hb⟩)
  go_ret2
  exact ⟨rfl, hb⟩
set_option maxHeartbeats 1000000 in
theorem keys_nil {u : Value} {key : List Int} (hu : Src W u key) (hk : Byte key) :
    Calls Try.prog 23 #[.pointer none, u] W fun e w' => e = .returned (.slice none 0 0) ∧ Below W.heap.size W w' := by
  have hF := find_nil hu hk
  go_enter Try.func23, Try.ntmps23
  go_wp2_with (first
    | (go_at_call 44; refine hF.mono ?_; rintro e w1 ⟨rfl, hb⟩)
    | (go_at_call 41; refine (all_nil _).mono ?_; rintro e w2 ⟨rfl, hw⟩; obtain rfl := hw.symm))
  apply wp_loop_rounds 1
  simp only [Code.rounds]
  go_wp2
  go_ret
  exact ⟨rfl, hb⟩
set_option maxHeartbeats 1000000 in
theorem over_nil (W : World) : Calls Try.prog 38 #[.pointer none] W fun e w' => e = .returned (.tuple #[.int .i64 0, .bool false]) ∧ w' = W := by
  go_enter Try.func38, Try.ntmps38
  go_wp2_with (go_at_call 18; refine (depth_nil W).mono ?_; rintro e w1 ⟨rfl, hw⟩; obtain rfl := hw.symm)
  go_ret2
  exact ⟨rfl, rfl⟩
set_option maxHeartbeats 1000000 in
theorem commit_nil (W : World) : Calls Try.prog 20 #[.pointer none] W fun e w' => e = .returned (.bool false) ∧ w' = W := by
  go_enter Try.func20, Try.ntmps20
  go_wp2_with (go_at_call 38; refine (over_nil W).mono ?_; rintro e w1 ⟨rfl, hw⟩; obtain rfl := hw.symm)
  go_ret
  exact ⟨rfl, rfl⟩
set_option maxHeartbeats 1000000 in
theorem rollback_nil (W : World) : Calls Try.prog 21 #[.pointer none] W fun e w' => e = .returned (.bool false) ∧ w' = W := by
  go_enter Try.func21, Try.ntmps21
  go_wp2
  go_step3
  go_wp2_with (go_at_call 38; refine (over_nil W).mono ?_; rintro e w1 ⟨rfl, hw⟩; obtain rfl := hw.symm)
  try simp only [Exit.jump]
  try rw [Exit.noGoto_ret]
  go_ret
  exact ⟨rfl, rfl⟩
set_option maxHeartbeats 1000000 in
theorem copy_nil (W : World) : Calls Try.prog 17 #[.pointer none] W fun e w' => e = .returned (.pointer none) ∧ w' = W := by
  go_enter Try.func17, Try.ntmps17
  go_wp2
  go_ret
  exact ⟨rfl, rfl⟩
set_option maxHeartbeats 1000000 in
theorem equal_nil (f : Value) (W : World) : Calls Try.prog 40 #[.slice none 0 0, .slice none 0 0, f] W fun e w' => e = .returned (.bool true) ∧ Below W.heap.size W w' := by
  go_enter Try.func40, Try.ntmps40
  go_wp2
  apply wp_loop_rounds 1
  simp only [Code.rounds]
  go_wp2
  go_ret
  exact ⟨rfl, Below.refl _ _⟩
set_option maxHeartbeats 1000000 in
theorem same_nil2 (W : World) : Calls Try.prog 22 #[.pointer none, .pointer none] W fun e w' => e = .returned (.bool true) ∧ Below W.heap.size W w' := by
  go_enter Try.func22, Try.ntmps22
  go_wp2_with (first
    | (go_at_call 41; refine (all_nil _).mono ?_; rintro e w2 ⟨rfl, hw⟩; obtain rfl := hw.symm)
    | (go_at_call 40; refine (equal_nil _ _).mono ?_; rintro e w3 ⟨rfl, hb3⟩))
  go_ret
  exact ⟨rfl, hb3⟩
set_option maxHeartbeats 1000000 in
theorem same_new (h : StC W s base A (.slice none 0 0) vj vb r j b) : Calls Try.prog 22 #[.pointer none, .pointer (some ⟨s, 0, none⟩)] W fun e w' => e = .returned (.bool true) ∧ Below W.heap.size W w' := by
  have hA := all_any h
  go_enter Try.func22, Try.ntmps22
  go_wp2_with (first
    | (go_at_call 41; refine (all_nil _).mono ?_; rintro e w2 ⟨rfl, hw⟩; obtain rfl := hw.symm)
    | (go_at_call 41; refine hA.mono ?_; rintro e w2 ⟨rfl, hw⟩; obtain rfl := hw.symm)
    | (go_at_call 40; refine (equal_nil _ _).mono ?_; rintro e w3 ⟨rfl, hb3⟩))
  go_ret
  exact ⟨rfl, hb3⟩
end
end Go.Proofs.Ythajolagpnakkaa
