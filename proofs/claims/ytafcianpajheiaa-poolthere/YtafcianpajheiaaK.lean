
/- Lists of coins in memory; coins.Amount. -/
import Derived.Test.YtafcianpajheiaaB
set_option linter.unusedSimpArgs false
set_option linter.unusedVariables false
set_option maxRecDepth 20000
namespace Go.Proofs.Ytafcianpajheiaa
open Go.RowKit

structure Cn where
  d : Int
  a : Int
  b : Int
  c : Int
  e : Int

/-- The cells of a coin stand from an offset on. -/
def CnAt (W : World) (blk o : Nat) (x : Cn) : Prop :=
  W.cell? ⟨blk, o, none⟩ = some (.int .u8 x.d) ∧ W.cell? ⟨blk, o + 1, none⟩ = some (.int .u64 x.a) ∧ W.cell? ⟨blk, o + 2, none⟩ = some (.int .u64 x.b) ∧ W.cell? ⟨blk, o + 3, none⟩ = some (.int .u64 x.c) ∧ W.cell? ⟨blk, o + 4, none⟩ = some (.int .u64 x.e)

/-- A slice's value that is a list of coins in a world. -/
def IsCoins (W : World) (v : Value) (l : List Cn) : Prop :=
  (l = [] ∧ ∃ a cap, v = .slice a 0 cap) ∨ ∃ blk off cap, v = .slice (some ⟨blk, off, none⟩) l.length cap ∧ l ≠ [] ∧ l.length ≤ 1048576 ∧ blk < W.heap.size ∧ ∀ i x, l[i]? = some x → CnAt W blk (off + i * 5) x

theorem IsCoins.below {W W' : World} {v : Value} {l : List Cn} (h : IsCoins W v l) (hb : Below W.heap.size W W') : IsCoins W' v l := by
  rcases h with h | ⟨blk, off, cap, hv, hne, hlen, hlt, hall⟩
  · exact .inl h
  · refine .inr ⟨blk, off, cap, hv, hne, hlen, Nat.lt_of_lt_of_le hlt hb.size, fun i x hi => ?_⟩
    obtain ⟨h0, h1, h2, h3, h4⟩ := hall i x hi
    exact ⟨(hb.cell (p := ⟨blk, _, none⟩) hlt).trans h0, (hb.cell (p := ⟨blk, _, none⟩) hlt).trans h1, (hb.cell (p := ⟨blk, _, none⟩) hlt).trans h2, (hb.cell (p := ⟨blk, _, none⟩) hlt).trans h3, (hb.cell (p := ⟨blk, _, none⟩) hlt).trans h4⟩

/-- The first coin of a denomination, or noughts. -/
def amt (l : List Cn) (d : Int) : Cn := (l.find? fun x => x.d == d).getD ⟨d, 0, 0, 0, 0⟩

theorem amt_none {l : List Cn} {d : Int} (h : ∀ j x, j < l.length → l[j]? = some x → x.d ≠ d) : amt l d = ⟨d, 0, 0, 0, 0⟩ := by
  have : l.find? (fun x => x.d == d) = none := by
    rw [List.find?_eq_none]
    intro x hx
    obtain ⟨j, hj, rfl⟩ := List.mem_iff_getElem.1 hx
    simpa using h j _ hj (by simp)
  simp [amt, this]

theorem amt_at {l : List Cn} {d : Int} {k : Nat} (hk : k < l.length) (hd : l[k].d = d) (h : ∀ j x, j < k → l[j]? = some x → x.d ≠ d) : amt l d = l[k] := by
  have : l.find? (fun x => x.d == d) = some l[k] := by
    rw [List.find?_eq_some_iff_getElem]
    refine ⟨by simpa using hd, k, hk, rfl, fun j hj => ?_⟩
    simpa using h j _ hj (by simp [Nat.lt_trans hj hk])
  simp [amt, this]

end Go.Proofs.Ytafcianpajheiaa
