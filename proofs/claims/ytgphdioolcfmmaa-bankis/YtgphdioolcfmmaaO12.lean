
/- store: of nothing; are two alike that have nothing? -/
import Derived.Test.YtgphdioolcfmmaaO11
set_option linter.unusedSimpArgs false
set_option linter.unusedVariables false
set_option maxRecDepth 20000
namespace Go.Proofs.Ytgphdioolcfmmaa
open Go.RowKit

section
variable {W : World} {s base : Nat} {A : Nat → Prop} {vp vj vb : Value} {r : List Rec} {j : List Was} {b : List Nat}
set_option maxHeartbeats 1000000 in
theorem all_nil (W : World) : Calls Try.prog 65 #[.pointer none] W fun e w' => e = .returned (.slice none 0 0) ∧ w' = W := by
  go_enter Try.func65, Try.ntmps65
  go_wp2
  go_ret
  exact ⟨rfl, rfl⟩
set_option maxHeartbeats 1000000 in
theorem depth_nil (W : World) : Calls Try.prog 85 #[.pointer none] W fun e w' => e = .returned (.int .i64 0) ∧ w' = W := by
  go_enter Try.func85, Try.ntmps85
  go_wp2
  go_ret
  exact ⟨rfl, rfl⟩
set_option maxHeartbeats 1000000 in
theorem find_nil {u : Value} {key : List Int} (hu : Src W u key) (hk : Byte key) :
    Calls Try.prog 64 #[.pointer none, u] W fun e w' => e = .returned (.tuple #[.int .i64 0, .bool false]) ∧ Below W.heap.size W w' := by
  have hS := search_any (r := []) (A := fun _ => False) (World.ownsRow_nil W W.heap.size 113 2) (by simp) List.Pairwise.nil (by simp) hu hk
  go_enter Try.func64, Try.ntmps64
  go_wp2_with (first
    | (go_at_call 65; refine (all_nil W).mono ?_; rintro e w1 ⟨rfl, hw⟩; obtain rfl := hw.symm)
    | (go_at_call 74; refine hS.mono ?_; rintro e w2 ⟨i, f, rfl, hF, hb⟩; obtain rfl : i = 0 := (by have := hF.le; simpa using this); obtain rfl : f = false := (by cases f; rfl; obtain ⟨x, hx, -⟩ := hF.is.1 rfl; simp at hx)))
  go_ret2
  exact ⟨rfl, hb⟩
set_option maxHeartbeats 1000000 in
theorem set_nil (u v : Value) (W : World) : Calls Try.prog 69 #[.pointer none, u, v] W fun e w' => e = .returned (.tuple #[]) ∧ w' = W := by
  go_enter Try.func69, Try.ntmps69
  go_wp2
  exact bodyPost_end (v := .tuple #[]) (by simp [results, Try.results69]) rfl ⟨rfl, rfl⟩
set_option maxHeartbeats 1000000 in
theorem del_nil {u : Value} {key : List Int} (hu : Src W u key) (hk : Byte key) :
    Calls Try.prog 68 #[.pointer none, u] W fun e w' => e = .returned (.tuple #[]) ∧ Below W.heap.size W w' := by
  have hF := find_nil hu hk
  go_enter Try.func68, Try.ntmps68
  go_wp2_with (go_at_call 64; refine hF.mono ?_; rintro e w1 ⟨rfl, hb⟩)
  exact bodyPost_end (v := .tuple #[]) (by simp [results, Try.results68]) rfl ⟨rfl, hb⟩
set_option maxHeartbeats 1000000 in
theorem get_nil {u : Value} {key : List Int} (hu : Src W u key) (hk : Byte key) :
    Calls Try.prog 53 #[.pointer none, u] W fun e w' => e = .returned (.tuple #[.slice none 0 0, .bool false]) ∧ Below W.heap.size W w' := by
  have hF := find_nil hu hk
  go_enter Try.func53, Try.ntmps53
  go_wp2_with (go_at_call 64; refine hF.mono ?_; rintro e w1 ⟨rfl, hb⟩)
  go_ret2
  exact ⟨rfl, hb⟩
set_option maxHeartbeats 1000000 in
theorem keys_nil {u : Value} {key : List Int} (hu : Src W u key) (hk : Byte key) :
    Calls Try.prog 51 #[.pointer none, u] W fun e w' => e = .returned (.slice none 0 0) ∧ Below W.heap.size W w' := by
  have hF := find_nil hu hk
  go_enter Try.func51, Try.ntmps51
  go_wp2_with (first
    | (go_at_call 64; refine hF.mono ?_; rintro e w1 ⟨rfl, hb⟩)
    | (go_at_call 65; refine (all_nil _).mono ?_; rintro e w2 ⟨rfl, hw⟩; obtain rfl := hw.symm))
  apply wp_loop_rounds 1
  simp only [Code.rounds]
  go_wp2
  go_ret
  exact ⟨rfl, hb⟩
end
end Go.Proofs.Ytgphdioolcfmmaa
