
/- The walk of num.downward and what it makes (a range over a function), and of cmp.Compare. -/
import Derived.Test.YtjhjgncnadhbhaaN2
import Derived.RangeFuncNested
import Derived.RangeFuncBound
import Derived.RangeFuncCalls
import Derived.RangeFuncLeaves
import Derived.Shelf.Abstract
import Derived.Shelf.RegionOpen
import Derived.OwnWalkIn
import Derived.TacticsInMore
import Derived.LoopNIn
import Derived.LoopIn
import Derived.Test.YtjhjgncnadhbhaaB
set_option linter.unusedSimpArgs false
set_option linter.unusedVariables false
set_option maxRecDepth 20000
namespace Go.Proofs.Ytjhjgncnadhbhaa
open Go.RowKit Go.Shelf
attribute [local go_sem] Oper.semAt_some

/-- A place and a part of a number: what a round is handed. -/
abbrev Limb := { p : Nat × Int // p.1 < 4 ∧ (0 ≤ p.2 ∧ p.2 < 18446744073709551616) }
abbrev lencs (x : Limb) : Array Value := #[.int .i64 (x.1.1 : Int), .int .u64 x.1.2]
def limb (i : Nat) (v : Int) (hi : i < 4) (hv : 0 ≤ v ∧ v < 18446744073709551616) : Limb := ⟨(i, v), hi, hv⟩
/-- The four rounds, the highest part first. -/
def limbsDown {a b c d : Int} (h : Lim a b c d) : List Limb := [limb 3 d (by omega) h.2.2.2, limb 2 c (by omega) h.2.2.1, limb 1 b (by omega) h.2.1, limb 0 a (by omega) h.1]
/-- Block B lies as it lay. -/
def KpB (B : Nat) (W W' : World) : Prop := W'.heap[B]? = W.heap[B]?

set_option maxRecDepth 100000 in
set_option maxHeartbeats 2000000 in
theorem down_stops (n : Nat) (hn : 1 ≤ n) (B : Nat) {a0 a1 a2 a3 : Int} (ha : Lim a0 a1 a2 a3) (t : TypeId) (w : World) (hB : w.heap[B]? = some (.cells #[.int .u64 a0, .int .u64 a1, .int .u64 a2, .int .u64 a3] t (0, 0))) :
    SeqStopsK Fence.wide n Try.prog 109 #[.pointer (some ⟨B, 0, none⟩)] lencs (KpB B) (fun xs => xs = limbsDown ha) (fun pre => pre <+: limbsDown ha) 4 w := by
  intro l J Jx W hW hJ hJx hY h0
  have hlt : B < w.heap.size := (Array.getElem?_eq_some_iff.1 hB).1
  have hB0 : W.heap[B]? = some (.cells #[.int .u64 a0, .int .u64 a1, .int .u64 a2, .int .u64 a3] t (0, 0)) := by rw [hW.block B hlt]; exact hB
  clear hW hJ hJx hB
  obtain ⟨c0, f0⟩ := cells_of_block hB0
  obtain ⟨fn0, tmps0, assign0, body0, hy0, hR0⟩ := hY [] (limb 3 a3 (by omega) ha.2.2.2) W h0 (by simp)
  simp [lencs, limb] at hy0
  have hnot : ∀ (x : Bool) (w : World), (Op.unary .not (.bool x)).run Try.prog w = .ok (.bool (!x)) w := fun _ _ => rfl
  refine callsIn_of_wp Try.func109 rfl trivial ?_ rfl
  simp only [Try.ntmps109, List.size_toArray, List.length_cons, List.length_nil, Nat.reduceAdd, Nat.reduceSub, Array.replicate_succ, Array.replicate_zero, List.push_toArray, List.append_toArray, List.nil_append, List.cons_append]
  gi_wp2
  apply wpIn_loop_rounds 5
  simp only [Code.roundsIn]
  gi_wp2
  refine hR0.mono ?_
  rintro e W1 (⟨rfl, hJ1, hk1⟩ | ⟨rfl, hJx⟩)
  rotate_left
  · gi_wp2
    refine bodyPost_ret (results_none rfl _ _ _) rfl ?_
    exact ⟨⟨_, rfl⟩, .inr ⟨_, ⟨[limb 2 a2 (by omega) ha.2.2.1, limb 1 a1 (by omega) ha.2.1, limb 0 a0 (by omega) ha.1], rfl⟩, hJx⟩⟩
  have hB1 : W1.heap[B]? = some (.cells #[.int .u64 a0, .int .u64 a1, .int .u64 a2, .int .u64 a3] t (0, 0)) := Eq.trans hk1 hB0
  obtain ⟨c1, f1⟩ := cells_of_block hB1
  obtain ⟨fn1, tmps1, assign1, body1, hy1, hR1⟩ := hY _ (limb 2 a2 (by omega) ha.2.2.1) W1 hJ1 (by simp)
  simp [lencs, limb] at hy1
  gi_wp2
  refine hR1.mono ?_
  rintro e W2 (⟨rfl, hJ2, hk2⟩ | ⟨rfl, hJx⟩)
  rotate_left
  · gi_wp2
    refine bodyPost_ret (results_none rfl _ _ _) rfl ?_
    exact ⟨⟨_, rfl⟩, .inr ⟨_, ⟨[limb 1 a1 (by omega) ha.2.1, limb 0 a0 (by omega) ha.1], rfl⟩, hJx⟩⟩
  have hB2 : W2.heap[B]? = some (.cells #[.int .u64 a0, .int .u64 a1, .int .u64 a2, .int .u64 a3] t (0, 0)) := Eq.trans hk2 hB1
  obtain ⟨c2, f2⟩ := cells_of_block hB2
  obtain ⟨fn2, tmps2, assign2, body2, hy2, hR2⟩ := hY _ (limb 1 a1 (by omega) ha.2.1) W2 hJ2 (by simp)
  simp [lencs, limb] at hy2
  gi_wp2
  refine hR2.mono ?_
  rintro e W3 (⟨rfl, hJ3, hk3⟩ | ⟨rfl, hJx⟩)
  rotate_left
  · gi_wp2
    refine bodyPost_ret (results_none rfl _ _ _) rfl ?_
    exact ⟨⟨_, rfl⟩, .inr ⟨_, ⟨[limb 0 a0 (by omega) ha.1], rfl⟩, hJx⟩⟩
  have hB3 : W3.heap[B]? = some (.cells #[.int .u64 a0, .int .u64 a1, .int .u64 a2, .int .u64 a3] t (0, 0)) := Eq.trans hk3 hB2
  obtain ⟨c3, f3⟩ := cells_of_block hB3
  obtain ⟨fn3, tmps3, assign3, body3, hy3, hR3⟩ := hY _ (limb 0 a0 (by omega) ha.1) W3 hJ3 (by simp)
  simp [lencs, limb] at hy3
  gi_wp2
  refine hR3.mono ?_
  rintro e W4 (⟨rfl, hJ4, hk4⟩ | ⟨rfl, hJx⟩)
  rotate_left
  · gi_wp2
    refine bodyPost_ret (results_none rfl _ _ _) rfl ?_
    exact ⟨⟨_, rfl⟩, .inr ⟨_, ⟨[], rfl⟩, hJx⟩⟩
  gi_wp2
  go_end0
  exact ⟨⟨_, rfl⟩, .inl ⟨_, rfl, hJ4⟩⟩
end Go.Proofs.Ytjhjgncnadhbhaa
