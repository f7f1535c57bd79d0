
/- The reference's Rest, Least, Within, Add of coins: the walks. -/
import Derived.Test.YtjhjgncnadhbhaaC9
set_option linter.unusedSimpArgs false
set_option linter.unusedVariables false
set_option maxRecDepth 20000
namespace Go.Proofs.Ytjhjgncnadhbhaa
open Go.RowKit

theorem below_pad {A : World} {m : Nat} {f : Nat → Obj} {d : Nat} {w : World} (h : Below (pad A m f d).heap.size (pad A m f d) w) : Below m (pad A m f d) w := by rwa [pad_size] at h
theorem row_new (W : World) (a z : Array Value) (t : TypeId) : (W.alloc (.cells a t)).setRow W.heap.size z = W.alloc (.cells z t) := by
  unfold World.setRow World.alloc
  simp only [World.mk.injEq, and_true]
  apply Array.ext_getElem?
  intro i
  simp only [Array.getElem?_modify, Array.getElem?_push]
  by_cases e : W.heap.size = i
  · subst e; simp
  · have e' : ¬ i = W.heap.size := fun h => e h.symm
    rw [if_neg e, if_neg e', if_neg e']
theorem row_under (W : World) (a z : Array Value) (t : TypeId) (o : Obj) : ((W.alloc (.cells a t)).alloc o).setRow W.heap.size z = (W.alloc (.cells z t)).alloc o := by
  unfold World.setRow World.alloc
  simp only [World.mk.injEq, and_true]
  apply Array.ext_getElem?
  intro i
  simp only [Array.getElem?_modify, Array.getElem?_push, Array.size_push]
  by_cases e : W.heap.size = i
  · subst e; simp
  · rw [if_neg e]
    have e' : ¬ i = W.heap.size := fun h => e h.symm
    by_cases e2 : i = W.heap.size + 1
    · simp [e2]
    · simp [e2, e']
theorem row_new1 (W : World) (o : Obj) (a z : Array Value) (t : TypeId) : ((W.alloc o).alloc (.cells a t)).setRow (W.heap.size + 1) z = (W.alloc o).alloc (.cells z t) := by
  have h := row_new (W.alloc o) a z t
  have e : (W.alloc o).heap.size = W.heap.size + 1 := by simp
  rw [e] at h
  exact h

end Go.Proofs.Ytjhjgncnadhbhaa
