
/- store: of nothing; are two alike that have nothing? -/
import Derived.Test.YtafcianpajheiaaO11
set_option linter.unusedSimpArgs false
set_option linter.unusedVariables false
set_option maxRecDepth 20000
namespace Go.Proofs.Ytafcianpajheiaa
open Go.RowKit

section
variable {W : World} {s base : Nat} {A : Nat → Prop} {vp vj vb : Value} {r : List Rec} {j : List Was} {b : List Nat}
set_option maxHeartbeats 1000000 in
theorem all_nil (W : World) : Calls Try.prog 67 #[.pointer none] W fun e w' => e = .returned (.slice none 0 0) ∧ w' = W := by
  go_enter Try.func67, Try.ntmps67
  go_wp2
  go_ret
  exact ⟨rfl, rfl⟩
set_option maxHeartbeats 1000000 in
theorem depth_nil (W : World) : Calls Try.prog 74 #[.pointer none] W fun e w' => e = .returned (.int .i64 0) ∧ w' = W := by
  go_enter Try.func74, Try.ntmps74
  go_wp2
  go_ret
  exact ⟨rfl, rfl⟩
set_option maxHeartbeats 1000000 in
theorem find_nil {u : Value} {key : List Int} (hu : Src W u key) (hk : Byte key) :
    Calls Try.prog 50 #[.pointer none, u] W fun e w' => e = .returned (.tuple #[.int .i64 0, .bool false]) ∧ Below W.heap.size W w' := by
  have hS := search_any (r := []) (A := fun _ => False) (World.ownsRow_nil W W.heap.size 112 2) (by simp) List.Pairwise.nil (by simp) hu hk
  go_enter Try.func50, Try.ntmps50
  go_wp2_with (first
    | (go_at_call 67; refine (all_nil W).mono ?_; rintro e w1 ⟨rfl, hw⟩; obtain rfl := hw.symm)
    | (go_at_call 71; refine hS.mono ?_; rintro e w2 ⟨i, f, rfl, hF, hb⟩; obtain rfl : i = 0 := (by have := hF.le; simpa using this); obtain rfl : f = false := (by cases f; rfl; obtain ⟨x, hx, -⟩ := hF.is.1 rfl; simp at hx)))
  go_ret2
  exact ⟨rfl, hb⟩
set_option maxHeartbeats 1000000 in
theorem set_nil (u v : Value) (W : World) : Calls Try.prog 35 #[.pointer none, u, v] W fun e w' => e = .returned (.tuple #[]) ∧ w' = W := by
  go_enter Try.func35, Try.ntmps35
  go_wp2
  exact bodyPost_end (v := .tuple #[]) (by simp [results, Try.results35]) rfl ⟨rfl, rfl⟩
set_option maxHeartbeats 1000000 in
theorem del_nil {u : Value} {key : List Int} (hu : Src W u key) (hk : Byte key) :
    Calls Try.prog 34 #[.pointer none, u] W fun e w' => e = .returned (.tuple #[]) ∧ Below W.heap.size W w' := by
  have hF := find_nil hu hk
  go_enter Try.func34, Try.ntmps34
  go_wp2_with (go_at_call 50; refine hF.mono ?_; rintro e w1 ⟨rfl, hb⟩)
  exact bodyPost_end (v := .tuple #[]) (by simp [results, Try.results34]) rfl ⟨rfl, hb⟩
set_option maxHeartbeats 1000000 in
theorem get_nil {u : Value} {key : List Int} (hu : Src W u key) (hk : Byte key) :
    Calls Try.prog 39 #[.pointer none, u] W fun e w' => e = .returned (.tuple #[.slice none 0 0, .bool false]) ∧ Below W.heap.size W w' := by
  have hF := find_nil hu hk
  go_enter Try.func39, Try.ntmps39
  go_wp2_with (go_at_call 50; refine hF.mono ?_; rintro e w1 ⟨rfl, hb⟩)
  go_ret2
  exact ⟨rfl, hb⟩
set_option maxHeartbeats 1000000 in
theorem keys_nil {u : Value} {key : List Int} (hu : Src W u key) (hk : Byte key) :
    Calls Try.prog 48 #[.pointer none, u] W fun e w' => e = .returned (.slice none 0 0) ∧ Below W.heap.size W w' := by
  have hF := find_nil hu hk
  go_enter Try.func48, Try.ntmps48
  go_wp2_with (first
    | (go_at_call 50; refine hF.mono ?_; rintro e w1 ⟨rfl, hb⟩)
    | (go_at_call 67; refine (all_nil _).mono ?_; rintro e w2 ⟨rfl, hw⟩; obtain rfl := hw.symm))
  apply wp_loop_rounds 1
  simp only [Code.rounds]
  go_wp2
  go_ret
  exact ⟨rfl, hb⟩
end
end Go.Proofs.Ytafcianpajheiaa
