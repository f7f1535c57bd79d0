
/- A world behind a call that made memory and turned nothing old: the old world, lengthened. -/
import Derived.WalkKit
set_option linter.unusedSimpArgs false
set_option linter.unusedVariables false
set_option maxRecDepth 20000
namespace Go.Proofs.Ytjhjgncnadhbhaa
open Go.RowKit

/-- W, lengthened to m blocks by what g says, having drawn d times. -/
def pad (W : World) (m : Nat) (g : Nat → Obj) (d : Nat) : World :=
  { W with heap := Array.ofFn (n := m) fun i => if h : i.val < W.heap.size then W.heap[i.val] else g i.val, drawn := d }

theorem pad_size (W : World) (m : Nat) (g : Nat → Obj) (d : Nat) : (pad W m g d).heap.size = m := by simp [pad]

theorem pad_block {W : World} {m : Nat} {g : Nat → Obj} {d b : Nat} (hb : b < W.heap.size) (hm : b < m) : (pad W m g d).heap[b]? = W.heap[b]? := by
  simp [pad, hm, hb]

theorem pad_cell (W : World) (m : Nat) (g : Nat → Obj) (d b o : Nat) (hb : b < W.heap.size) (hm : b < m) : (pad W m g d).cell? ⟨b, o, none⟩ = W.cell? ⟨b, o, none⟩ :=
  World.cell?_of_block (w := W) (pad_block hb hm)
theorem pad_frozen (W : World) (m : Nat) (g : Nat → Obj) (d b o : Nat) (hb : b < W.heap.size) (hm : b < m) : (pad W m g d).frozen? ⟨b, o, none⟩ = W.frozen? ⟨b, o, none⟩ :=
  World.frozen?_of_block (w := W) (pad_block hb hm)
theorem pad_shape (W : World) (m : Nat) (g : Nat → Obj) (d b : Nat) (hb : b < W.heap.size) (hm : b < m) : (pad W m g d).shape? b = W.shape? b := by
  unfold World.shape?; rw [pad_block hb hm]

theorem pad_set (W : World) (m : Nat) (g : Nat → Obj) (d b o : Nat) (v : Value) (hb : b < W.heap.size) : (pad W m g d).setCell ⟨b, o, none⟩ v = pad (W.setCell ⟨b, o, none⟩ v) m g d := by
  simp only [pad, World.setCell, Array.size_modify, World.mk.injEq, and_true]
  apply Array.ext_getElem?
  intro i
  simp only [Array.getElem?_modify, Array.getElem?_ofFn]
  by_cases hi : i < m
  · by_cases hw : i < W.heap.size
    · by_cases e : b = i
      · subst e; simp [hi, hw, Array.getElem_modify]
      · simp [hi, hw, e, Array.getElem_modify]
    · have e : ¬ b = i := by omega
      simp [hi, hw, e]
  · simp [hi]

theorem pad_drew (W : World) (m : Nat) (g : Nat → Obj) (d : Nat) : (pad W m g d).drew = pad W m g (d + 1) := rfl
theorem pad_of_drew (W : World) (m : Nat) (g : Nat → Obj) (d : Nat) : pad W.drew m g d = pad W m g d := rfl

theorem pad_of {W w1 : World} (h : Below W.heap.size W w1) : ∃ m g d, W.heap.size ≤ m ∧ w1 = pad W m g d := by
  refine ⟨w1.heap.size, fun i => w1.heap.getD i default, w1.drawn, h.size, ?_⟩
  have e : w1.heap = (pad W w1.heap.size (fun i => w1.heap.getD i default) w1.drawn).heap := by
    apply Array.ext_getElem?
    intro i
    simp only [pad, Array.getElem?_ofFn]
    by_cases hi : i < w1.heap.size
    · by_cases hw : i < W.heap.size
      · rw [h.block i hw]; simp [hi, hw]
      · simp [hi, hw]
    · simp [hi]
  cases w1 with
  | mk heap tape drawn os output =>
    have h1 := h.os; have h2 := h.tape; have h3 := h.output
    simp only at h1 h2 h3 e
    subst h1 h2 h3
    simp only [pad] at e ⊢
    rw [← e]

theorem bp {a W : World} (h : Below a.heap.size a W) {m : Nat} (hm : W.heap.size ≤ m) (g : Nat → Obj) (d : Nat) : Below a.heap.size a (pad W m g d) :=
  h.trans ⟨rfl, rfl, rfl, by rw [pad_size]; exact hm, fun k hk => pad_block (by have := h.size; omega) (by have := h.size; omega)⟩
theorem ba {a w : World} (h : Below a.heap.size a w) (o : Obj) : Below a.heap.size a (w.alloc o) := h.alloc h.size o
theorem bs {a w : World} (h : Below a.heap.size a w) {p : Addr} (hp : a.heap.size ≤ p.block) (u : Value) : Below a.heap.size a (w.setCell p u) := h.setCell hp u
theorem bd {a w : World} (h : Below a.heap.size a w) : Below a.heap.size a w.drew := h.drew
theorem bt {a b c : World} (h : Below a.heap.size a b) (k : Below b.heap.size b c) : Below a.heap.size a c := h.trans (k.mono h.size)

theorem al_at {w : World} {o : Obj} {n : Nat} (h : n = w.heap.size) : (w.alloc o).heap[n]? = some o := by subst h; exact Array.getElem?_push_size
theorem dr_blk (w : World) (n : Nat) : w.drew.heap[n]? = w.heap[n]? := rfl
theorem al_old {w : World} {o : Obj} {n : Nat} (h : n < w.heap.size) : (w.alloc o).heap[n]? = w.heap[n]? := Below.heap_alloc _ _ _ h

/-- What the walk wants of a lengthened world, in one word. -/
theorem pads : (∀ W m g d, (pad W m g d).heap.size = m) ∧
    (∀ W m g d b o, b < W.heap.size → b < m → (pad W m g d).cell? ⟨b, o, none⟩ = W.cell? ⟨b, o, none⟩) ∧
    (∀ W m g d b o, b < W.heap.size → b < m → (pad W m g d).frozen? ⟨b, o, none⟩ = W.frozen? ⟨b, o, none⟩) ∧
    (∀ W m g d b o v, b < W.heap.size → (pad W m g d).setCell ⟨b, o, none⟩ v = pad (W.setCell ⟨b, o, none⟩ v) m g d) ∧
    (∀ W m g d, (pad W m g d).drew = pad W m g (d + 1)) ∧ (∀ W m g d, pad W.drew m g d = pad W m g d) :=
  ⟨pad_size, pad_cell, pad_frozen, pad_set, pad_drew, pad_of_drew⟩

theorem ltf {p n : Nat} (h : p < n) : p ≤ n ∧ p < n + 1 ∧ p ≤ n + 1 ∧ p < n + 1 + 1 ∧ p ≤ n + 1 + 1 ∧ p < n + 1 + 1 + 1 ∧ p ≤ n + 1 + 1 + 1 ∧ p < n + 1 + 1 + 1 + 1 ∧ ¬ p = n ∧ ¬ p = n + 1 ∧ ¬ p = n + 1 + 1 ∧ ¬ p = n + 1 + 1 + 1 ∧ ¬ n = p ∧ ¬ n + 1 = p ∧ ¬ n + 1 + 1 = p ∧ ¬ n + 1 + 1 + 1 = p := by
  refine ⟨?_, ?_, ?_, ?_, ?_, ?_, ?_, ?_, ?_, ?_, ?_, ?_, ?_, ?_, ?_, ?_⟩ <;> omega
theorem sz1 {n m : Nat} (h : n + 1 ≤ m) : n ≤ m ∧ n < m ∧ ¬ n = m ∧ ¬ m = n := by
  refine ⟨?_, ?_, ?_, ?_⟩ <;> omega
theorem sz2 {n m : Nat} (h : n + 1 + 1 ≤ m) : n ≤ m ∧ n < m ∧ ¬ n = m ∧ ¬ m = n ∧ n + 1 < m ∧ ¬ n + 1 = m ∧ ¬ m = n + 1 := by
  refine ⟨?_, ?_, ?_, ?_, ?_, ?_, ?_⟩ <;> omega
theorem sz3 {n m : Nat} (h : n + 1 + 1 + 1 ≤ m) : n ≤ m ∧ n < m ∧ ¬ n = m ∧ ¬ m = n ∧ n + 1 < m ∧ ¬ n + 1 = m ∧ ¬ m = n + 1 ∧ n + 1 + 1 < m ∧ ¬ n + 1 + 1 = m ∧ ¬ m = n + 1 + 1 := by
  refine ⟨?_, ?_, ?_, ?_, ?_, ?_, ?_, ?_, ?_, ?_⟩ <;> omega
theorem sz4 {n m : Nat} (h : n + 1 + 1 + 1 + 1 ≤ m) : n ≤ m ∧ n < m ∧ ¬ n = m ∧ ¬ m = n ∧ n + 1 < m ∧ ¬ n + 1 = m ∧ ¬ m = n + 1 ∧ n + 1 + 1 < m ∧ ¬ n + 1 + 1 = m ∧ ¬ m = n + 1 + 1 ∧ n + 1 + 1 + 1 < m ∧ ¬ n + 1 + 1 + 1 = m ∧ ¬ m = n + 1 + 1 + 1 := by
  refine ⟨?_, ?_, ?_, ?_, ?_, ?_, ?_, ?_, ?_, ?_, ?_, ?_, ?_⟩ <;> omega
theorem sz5 {n m : Nat} (h : n + 1 + 1 + 1 + 1 + 1 ≤ m) : n ≤ m ∧ n < m ∧ ¬ n = m ∧ ¬ m = n ∧ n + 1 < m ∧ ¬ n + 1 = m ∧ ¬ m = n + 1 ∧ n + 1 + 1 < m ∧ ¬ n + 1 + 1 = m ∧ ¬ m = n + 1 + 1 ∧ n + 1 + 1 + 1 < m ∧ ¬ n + 1 + 1 + 1 = m ∧ ¬ m = n + 1 + 1 + 1 ∧ n + 1 + 1 + 1 + 1 < m ∧ ¬ n + 1 + 1 + 1 + 1 = m ∧ ¬ m = n + 1 + 1 + 1 + 1 := by
  refine ⟨?_, ?_, ?_, ?_, ?_, ?_, ?_, ?_, ?_, ?_, ?_, ?_, ?_, ?_, ?_, ?_⟩ <;> omega
theorem sz6 {n m : Nat} (h : n + 1 + 1 + 1 + 1 + 1 + 1 ≤ m) : n ≤ m ∧ n < m ∧ ¬ n = m ∧ ¬ m = n ∧ n + 1 < m ∧ ¬ n + 1 = m ∧ ¬ m = n + 1 ∧ n + 1 + 1 < m ∧ ¬ n + 1 + 1 = m ∧ ¬ m = n + 1 + 1 ∧ n + 1 + 1 + 1 < m ∧ ¬ n + 1 + 1 + 1 = m ∧ ¬ m = n + 1 + 1 + 1 ∧ n + 1 + 1 + 1 + 1 < m ∧ ¬ n + 1 + 1 + 1 + 1 = m ∧ ¬ m = n + 1 + 1 + 1 + 1 ∧ n + 1 + 1 + 1 + 1 + 1 < m ∧ ¬ n + 1 + 1 + 1 + 1 + 1 = m ∧ ¬ m = n + 1 + 1 + 1 + 1 + 1 := by
  refine ⟨?_, ?_, ?_, ?_, ?_, ?_, ?_, ?_, ?_, ?_, ?_, ?_, ?_, ?_, ?_, ?_, ?_, ?_, ?_⟩ <;> omega
theorem sz7 {n m : Nat} (h : n + 1 + 1 + 1 + 1 + 1 + 1 + 1 ≤ m) : n ≤ m ∧ n < m ∧ ¬ n = m ∧ ¬ m = n ∧ n + 1 < m ∧ ¬ n + 1 = m ∧ ¬ m = n + 1 ∧ n + 1 + 1 < m ∧ ¬ n + 1 + 1 = m ∧ ¬ m = n + 1 + 1 ∧ n + 1 + 1 + 1 < m ∧ ¬ n + 1 + 1 + 1 = m ∧ ¬ m = n + 1 + 1 + 1 ∧ n + 1 + 1 + 1 + 1 < m ∧ ¬ n + 1 + 1 + 1 + 1 = m ∧ ¬ m = n + 1 + 1 + 1 + 1 ∧ n + 1 + 1 + 1 + 1 + 1 < m ∧ ¬ n + 1 + 1 + 1 + 1 + 1 = m ∧ ¬ m = n + 1 + 1 + 1 + 1 + 1 ∧ n + 1 + 1 + 1 + 1 + 1 + 1 < m ∧ ¬ n + 1 + 1 + 1 + 1 + 1 + 1 = m ∧ ¬ m = n + 1 + 1 + 1 + 1 + 1 + 1 := by
  refine ⟨?_, ?_, ?_, ?_, ?_, ?_, ?_, ?_, ?_, ?_, ?_, ?_, ?_, ?_, ?_, ?_, ?_, ?_, ?_, ?_, ?_, ?_⟩ <;> omega
theorem sz8 {n m : Nat} (h : n + 1 + 1 + 1 + 1 + 1 + 1 + 1 + 1 ≤ m) : n ≤ m ∧ n < m ∧ ¬ n = m ∧ ¬ m = n ∧ n + 1 < m ∧ ¬ n + 1 = m ∧ ¬ m = n + 1 ∧ n + 1 + 1 < m ∧ ¬ n + 1 + 1 = m ∧ ¬ m = n + 1 + 1 ∧ n + 1 + 1 + 1 < m ∧ ¬ n + 1 + 1 + 1 = m ∧ ¬ m = n + 1 + 1 + 1 ∧ n + 1 + 1 + 1 + 1 < m ∧ ¬ n + 1 + 1 + 1 + 1 = m ∧ ¬ m = n + 1 + 1 + 1 + 1 ∧ n + 1 + 1 + 1 + 1 + 1 < m ∧ ¬ n + 1 + 1 + 1 + 1 + 1 = m ∧ ¬ m = n + 1 + 1 + 1 + 1 + 1 ∧ n + 1 + 1 + 1 + 1 + 1 + 1 < m ∧ ¬ n + 1 + 1 + 1 + 1 + 1 + 1 = m ∧ ¬ m = n + 1 + 1 + 1 + 1 + 1 + 1 ∧ n + 1 + 1 + 1 + 1 + 1 + 1 + 1 < m ∧ ¬ n + 1 + 1 + 1 + 1 + 1 + 1 + 1 = m ∧ ¬ m = n + 1 + 1 + 1 + 1 + 1 + 1 + 1 := by
  refine ⟨?_, ?_, ?_, ?_, ?_, ?_, ?_, ?_, ?_, ?_, ?_, ?_, ?_, ?_, ?_, ?_, ?_, ?_, ?_, ?_, ?_, ?_, ?_, ?_, ?_⟩ <;> omega
end Go.Proofs.Ytjhjgncnadhbhaa
