
/- num.downward, cmp.Compare, num.Cmp. -/
import Derived.Test.YtafcianpajheiaaN2
import Derived.Test.YtafcianpajheiaaE
set_option linter.unusedSimpArgs false
set_option linter.unusedVariables false
set_option maxRecDepth 20000
namespace Go.Proofs.Ytafcianpajheiaa
open Go.RowKit Go.Shelf
attribute [local go_sem] Oper.semAt_some

def cmpI (x y : Int) : Int := if x < y then -1 else if y < x then 1 else 0

set_option maxHeartbeats 400000 in
theorem down_any (a0 a1 a2 a3 : Int) (w : World) :
    Calls Try.prog 77 #[.agg #[.int .u64 a0, .int .u64 a1, .int .u64 a2, .int .u64 a3]] w fun e w' =>
      e = .returned (.func (.func 83) #[] #[.pointer (some ⟨w.heap.size, 0, none⟩)]) ∧ w' = w.alloc (.cells #[.int .u64 a0, .int .u64 a1, .int .u64 a2, .int .u64 a3] 41) := by
  have hmf : ∀ (fn : Fn) (first cap : Array Value) (w : World), (Instr.makeFunc fn first cap).run Try.prog w = .ok (.func fn first cap) w := fun _ _ _ _ => rfl
  go_enter Try.func77, Try.ntmps77
  go_wp2
  go_ret
  exact ⟨rfl, rfl⟩

theorem cmpI_zero {a b : Int} (h : cmpI a b = 0) : a = b := by
  unfold cmpI at h
  split at h
  · omega
  · split at h <;> omega

def at4 (y0 y1 y2 y3 : Int) (i : Nat) : Int := match i with | 0 => y0 | 1 => y1 | 2 => y2 | _ => y3

theorem cmp_all {x0 x1 x2 x3 y0 y1 y2 y3 : Int} (hx : Lim x0 x1 x2 x3) (h : ∀ p ∈ limbsDown hx, p.1.2 = at4 y0 y1 y2 y3 p.1.1) : cmpI (val x0 x1 x2 x3) (val y0 y1 y2 y3) = 0 := by
  simp [limbsDown, limb, at4] at h
  obtain ⟨rfl, rfl, rfl, rfl⟩ := h
  simp [cmpI]

theorem cmp_stop {x0 x1 x2 x3 y0 y1 y2 y3 : Int} (hx : Lim x0 x1 x2 x3) (hy : Lim y0 y1 y2 y3) {init : List Limb} {x : Limb} (hp : init ++ [x] <+: limbsDown hx) (h : ∀ p ∈ init, p.1.2 = at4 y0 y1 y2 y3 p.1.1)
    (hne : cmpI x.1.2 (at4 y0 y1 y2 y3 x.1.1) ≠ 0) : cmpI x.1.2 (at4 y0 y1 y2 y3 x.1.1) = cmpI (val x0 x1 x2 x3) (val y0 y1 y2 y3) := by
  obtain ⟨t, ht⟩ := hp
  unfold limbsDown at ht
  match init, h, ht with
  | [], h, ht =>
    simp at ht
    obtain ⟨rfl, -⟩ := ht
    simp only [limb, at4] at hne ⊢
    unfold Lim at hx hy
    unfold cmpI val at *
    split at hne <;> split <;> (first | omega | (split <;> omega))
  | [a], h, ht =>
    simp at ht h
    obtain ⟨rfl, rfl, -⟩ := ht
    simp only [limb, at4] at hne h ⊢
    unfold Lim at hx hy
    unfold cmpI val at *
    split at hne <;> split <;> (first | omega | (split <;> omega))
  | [a, b], h, ht =>
    simp at ht h
    obtain ⟨rfl, rfl, rfl, -⟩ := ht
    simp only [limb, at4] at hne h ⊢
    unfold Lim at hx hy
    unfold cmpI val at *
    split at hne <;> split <;> (first | omega | (split <;> omega))
  | [a, b, c], h, ht =>
    simp at ht h
    obtain ⟨rfl, rfl, rfl, rfl, -⟩ := ht
    simp only [limb, at4] at hne h ⊢
    unfold Lim at hx hy
    unfold cmpI val at *
    split at hne <;> split <;> (first | omega | (split <;> omega))
  | a :: b :: c :: d :: r, h, ht =>
    have := congrArg List.length ht
    simp at this

theorem block_kept {W W' : World} {row : Option Nat} {k : Nat} {c : Array Value} {t : TypeId} (h : W.heap[k]? = some (.cells c t (0, 0))) (hg : W.grownBy W' row) (hrow : ∀ r, row = some r → ∃ o : Obj, W.heap[r]? = some o ∧ o.isCells = false) : W'.heap[k]? = some (.cells c t (0, 0)) := by
  rw [hg.block k (Array.getElem?_eq_some_iff.1 h).1 (fun e => by obtain ⟨o, ho, hc⟩ := hrow k e.symm; rw [h] at ho; cases ho; cases hc)]; exact h

theorem putObj_block {W : World} {k D : Nat} {o o' o'' : Obj} (h : W.heap[k]? = some o) (hD : W.heap[D]? = some o') (hne : o ≠ o') : (W.putObj D o'').heap[k]? = some o := by
  rw [World.putObj_heap_other (by rintro rfl; rw [h] at hD; cases hD; exact hne rfl)]; exact h

end Go.Proofs.Ytafcianpajheiaa
