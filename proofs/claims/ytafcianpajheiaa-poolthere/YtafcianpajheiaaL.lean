
/- coins.ofEach's closure, whatever function it holds. -/
import Derived.Test.YtafcianpajheiaaK
import Derived.Test.YtafcianpajheiaaG
import Derived.Deep.RegionHeld2
import Derived.Deep.CutRange
import Derived.Laws.AppendOwnNone
import Derived.Maps.AppendAt
set_option linter.unusedSimpArgs false
set_option linter.unusedVariables false
set_option maxRecDepth 20000
namespace Go.Proofs.Ytafcianpajheiaa
open Go.RowKit

def cellsL (l : List Cn) : List Value := l.flatMap fun x => [.int .u8 x.d, .int .u64 x.a, .int .u64 x.b, .int .u64 x.c, .int .u64 x.e]
def vl (x : Cn) : Int := val x.a x.b x.c x.e
def LimC (x : Cn) : Prop := Lim x.a x.b x.c x.e
/-- The coin of a denomination, if it isn't nought. -/
def oneL (x : Cn) : List Cn := if eq4 x.a x.b x.c x.e 0 0 0 0 then [] else [x]
/-- The coins of the first denominations. -/
def lst (z : Nat → Cn) : Nat → List Cn
  | 0 => []
  | k + 1 => lst z k ++ oneL (z k)

theorem cellsL_length (l : List Cn) : (cellsL l).length = l.length * 5 := by
  induction l with
  | nil => rfl
  | cons x l ih => simp [cellsL, List.flatMap_cons] at ih ⊢; omega

theorem lst_len (z : Nat → Cn) (k : Nat) : (lst z k).length ≤ k := by
  induction k with
  | zero => simp [lst]
  | succ k ih =>
    have : (oneL (z k)).length ≤ 1 := by unfold oneL; split <;> simp
    simp only [lst, List.length_append]; omega
theorem lst_congr {z y : Nat → Cn} (k : Nat) (h : ∀ d, d < k → z d = y d) : lst z k = lst y k := by
  induction k with
  | zero => rfl
  | succ k ih => simp only [lst]; rw [ih (fun d hd => h d (by omega)), h k (by omega)]
theorem lst_upd (z : Nat → Cn) (k : Nat) (x : Cn) : lst (fun d => if d = k then x else z d) (k + 1) = lst z k ++ oneL x := by
  simp only [lst, if_true]
  rw [lst_congr (y := z) k (fun d hd => by rw [if_neg (by omega)])]
theorem upd_all {la lb : List Cn} {OfS : Int → Int → Int → Int → Prop} {z : Nat → Cn} {k : Nat} {x : Cn} (hz : ∀ d, d < k → LimC (z d) ∧ (z d).d = d ∧ OfS (vl (amt la d)) (vl (amt lb d)) (vl (z d)) 0) (h1 : LimC x) (h2 : x.d = k) (h3 : OfS (vl (amt la k)) (vl (amt lb k)) (vl x) 0) :
    ∀ d, d < k + 1 → LimC (if d = k then x else z d) ∧ (if d = k then x else z d).d = d ∧ OfS (vl (amt la d)) (vl (amt lb d)) (vl (if d = k then x else z d)) 0 := by
  intro d hd
  by_cases e : d = k
  · subst e; simp only [if_true]; exact ⟨h1, h2, h3⟩
  · simp only [if_neg e]; exact hz d (by omega)
theorem cellsL_append (l m : List Cn) : cellsL (l ++ m) = cellsL l ++ cellsL m := by simp [cellsL, List.flatMap_append]
theorem new_cells (W : World) (o : Obj) (c : Array Value) (t : TypeId) : ∀ j u, c.toList[j]? = some u → ((W.alloc o).alloc (.cells c t)).cell? (Addr.add ⟨W.heap.size + 1, 0, none⟩ j) = some u := by
  intro j u h
  have e : Addr.add ⟨W.heap.size + 1, 0, none⟩ j = ⟨W.heap.size + 1, j, none⟩ := by
    unfold Addr.add; split
    · subst_vars; rfl
    · simp
  rw [e, World.cell?_alloc_at _ _ _ _ (by simp)]
  simpa using h

theorem ownsRow_below {W W' : World} {base : Nat} {e : TypeId} {size : Nat} {v : Value} {n : Nat} {xs : List Value} (h : W.ownsRow base e size v n xs) (hb : Below W.heap.size W W') : W'.ownsRow base e size v n xs := by
  obtain ⟨h1, h2⟩ := h
  refine ⟨h1, ?_⟩
  rcases h2 with h2 | ⟨g, cap, cur, hv, hg, hh, r⟩
  · exact .inl h2
  · exact .inr ⟨g, cap, cur, hv, hg, (hb.block g (Array.getElem?_eq_some_iff.1 hh).1).trans hh, r⟩

theorem coin_info : (Try.prog.info? 103).map (fun i => (i.zero, i.size, i.bytes)) = some (some (.agg #[.int .u8 0, .int .u64 0, .int .u64 0, .int .u64 0, .int .u64 0]), 5, 40) := by kernel_rfl

end Go.Proofs.Ytafcianpajheiaa
