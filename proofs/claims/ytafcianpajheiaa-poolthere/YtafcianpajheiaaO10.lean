
/- store: Commit, undo, Rollback. -/
import Derived.Test.YtafcianpajheiaaO9
import Derived.ScopeJumps
set_option linter.unusedSimpArgs false
set_option linter.unusedVariables false
set_option maxRecDepth 20000
namespace Go.Proofs.Ytafcianpajheiaa
open Go.RowKit

/-- A scope with jumps back to one label: what is behind the label is walked once. -/
theorem wp_scope_jumps2 {P : Program} {a : Act} {w : World} {Q : Exit → Act → World → Prop} {c rest : Code} (l : Nat) (J : Act → World → Prop) (μ : Act → World → Nat) (hf : findLabel c l = some rest)
    (pass : ∀ a w, J a w → rest.wp P (Exit.jump l (fun a' w' => J a' w' ∧ μ a' w' < μ a w) Q) a w)
    (first : (∀ a w, J a w → rest.wp P (Exit.jump l J Q) a w) → c.wp P (Exit.jump l J Q) a w) : (Code.scope c).wp P Q a w := by
  refine wp_scope_jumps l J μ hf (first fun a w hJ => Code.wp_mono ?_ (pass a w hJ)) pass
  intro e a' w' h
  cases e with
  | goto l' => exact ⟨h.1, h.2.1⟩
  | _ => exact h

/-- With no part begun any more nothing is noted. -/
def keepJ (b : List Nat) (j : List Was) : List Was := if b = [] then [] else j
theorem cellsJ_len (j : List Was) : (cellsJ j).length = j.length * 3 := by
  induction j with
  | nil => rfl
  | cons x j ih => rw [cellsJ, List.flatMap_cons, List.length_append, ← cellsJ, ih, List.length_cons]; simp; omega
theorem cellsJ_last (j : List Was) (x : Was) : (cellsJ (j ++ [x]))[j.length * 3]? = some x.kv ∧ (cellsJ (j ++ [x]))[j.length * 3 + 1]? = some x.vv ∧ (cellsJ (j ++ [x]))[j.length * 3 + 2]? = some (.bool x.there) := by
  have hl := cellsJ_len j
  rw [cellsJ_app]
  refine ⟨?_, ?_, ?_⟩ <;> rw [List.getElem?_append_right (by omega)]
  · rw [show j.length * 3 - (cellsJ j).length = 0 by omega]; rfl
  · rw [show j.length * 3 + 1 - (cellsJ j).length = 1 by omega]; rfl
  · rw [show j.length * 3 + 2 - (cellsJ j).length = 2 by omega]; rfl
def undoS (l : List (List Int × List Int)) (x : Was) : List (List Int × List Int) := if x.there then putS l x.k x.v else dropS l x.k
/-- All that was noted since is undone, the last first. -/
def rollS (l : List (List Int × List Int)) (j : List Was) : List (List Int × List Int) := j.foldr (fun x l => undoS l x) l
theorem rollS_snoc (l : List (List Int × List Int)) (j : List Was) (x : Was) : rollS l (j ++ [x]) = rollS (undoS l x) j := by simp [rollS]
section
variable {W : World} {s base : Nat} {A : Nat → Prop} {vp vj vb : Value} {r : List Rec} {j : List Was} {b : List Nat}
set_option maxHeartbeats 1000000 in
theorem new_any (W : World) : Calls Try.prog 10 #[] W fun e w' => e = .returned (.pointer (some ⟨W.heap.size, 0, none⟩)) ∧ StC w' W.heap.size W.heap.size (fun k => k = W.heap.size) (.slice none 0 0) (.slice none 0 0) (.slice none 0 0) [] [] [] ∧ Below W.heap.size W w' := by
  go_enter Try.func10, Try.ntmps10
  go_wp2
  go_ret
  refine ⟨rfl, ⟨World.alloc_heap_new W _, World.ownsRow_nil _ _ _ _, World.ownsRow_nil _ _ _ _, World.ownsRow_nil _ _ _ _, by simp, by simp, fun k hk => by subst hk; simp, rfl, fun g hg => by simp [Value.ownBlock] at hg, fun g hg => by simp [Value.ownBlock] at hg, fun g hg => by simp [Value.ownBlock] at hg, by simp⟩, ba (Below.refl _ _) _⟩
end
/-- What holds whenever one goes on undoing. -/
def RbI (W : World) (s base : Nat) (A : Nat → Prop) (vb : Value) (r : List Rec) (j : List Was) (b : List Nat) (n : Nat) (L : List (List Int × List Int)) (X : World) : Prop :=
  ∃ A' vp' vj' r', ∃ m : Nat, StC X s base A' vp' vj' vb r' (j.take m) b ∧ Srt r' ∧ n ≤ m ∧ m ≤ j.length ∧ rollS (cont r') ((j.take m).drop n) = L ∧ r'.length + m ≤ r.length + j.length ∧ Fr W X A A'
end Go.Proofs.Ytafcianpajheiaa
