
/- The reference's Digits: sixteen digits of 16 bits. -/
import Derived.Test.YtafcianpajheiaaN2
import Derived.Test.YtafcianpajheiaaB
import Derived.RangeFuncBox
import Derived.Laws.AppendOwnNone
import Derived.Maps.AppendAt
set_option linter.unusedSimpArgs false
set_option linter.unusedVariables false
set_option maxRecDepth 20000
namespace Go.Proofs.Ytafcianpajheiaa
open Go.RowKit

def lm (x0 x1 x2 x3 : Int) (k : Nat) : Int := if k < 4 then x0 else if k < 8 then x1 else if k < 12 then x2 else x3
def dg (x0 x1 x2 x3 : Int) (k : Nat) : Int := lm x0 x1 x2 x3 k / 2 ^ (16 * (k % 4)) % 65536
def dgs (x0 x1 x2 x3 : Int) (n : Nat) : List Int := (List.range n).map (dg x0 x1 x2 x3)
def encU (p : List Int) : List Value := p.map (Value.int .u64)
theorem dgs_len (x0 x1 x2 x3 : Int) (n : Nat) : (dgs x0 x1 x2 x3 n).length = n := by simp [dgs]
theorem dgs_succ (x0 x1 x2 x3 : Int) (n : Nat) : dgs x0 x1 x2 x3 (n + 1) = dgs x0 x1 x2 x3 n ++ [dg x0 x1 x2 x3 n] := by simp [dgs, List.range_succ]
theorem encU_snoc (p : List Int) (b : Int) : encU (p ++ [b]) = encU p ++ [.int .u64 b] := by simp [encU]
theorem u64_info : (Try.prog.info? 28).map (fun i => (i.zero, i.size, i.bytes)) = some (some (.int .u64 0), 1, 8) := by kernel_rfl

theorem cells_blk {W : World} {B : Nat} {c : Array Value} {t : TypeId} (h : W.heap[B]? = some (.cells c t (0, 0))) : (∀ o, W.cell? ⟨B, o, none⟩ = c[o]?) ∧ (∀ o, W.frozen? ⟨B, o, none⟩ = false) := by
  constructor
  · intro o; simp [World.cell?, h]
  · intro o; simp [World.frozen?, h]
theorem tm_0 {y : Int} (h : 0 ≤ y) : y.tmod 65536 = y % 65536 := Int.tmod_eq_emod_of_nonneg h
theorem tm_d {y : Int} (h : 0 ≤ y) (d : Int) (hd : 0 ≤ d) : (y / d).tmod 65536 = y / d % 65536 := Int.tmod_eq_emod_of_nonneg (Int.ediv_nonneg h hd)
/-- A slice's value that is a list of words in a world. -/
def IsWords (W : World) (v : Value) (p : List Int) : Prop :=
  (p = [] ∧ ∃ a cap, v = .slice a 0 cap) ∨ ∃ blk off cap, v = .slice (some ⟨blk, off, none⟩) p.length cap ∧ p.length ≤ 1073741824 ∧ blk < W.heap.size ∧ ∀ i x, p[i]? = some x → W.cell? ⟨blk, off + i, none⟩ = some (.int .u64 x)

end Go.Proofs.Ytafcianpajheiaa
