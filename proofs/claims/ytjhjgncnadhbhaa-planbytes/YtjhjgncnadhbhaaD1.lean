
/- The reference's Digits: sixteen digits of 16 bits. -/
import Derived.Test.YtjhjgncnadhbhaaN2
import Derived.Test.YtjhjgncnadhbhaaB
import Derived.RangeFuncBox
import Derived.Laws.AppendOwnNone
import Derived.Maps.AppendAt
set_option linter.unusedSimpArgs false
set_option linter.unusedVariables false
set_option maxRecDepth 20000
namespace Go.Proofs.Ytjhjgncnadhbhaa
open Go.RowKit

def lm (x0 x1 x2 x3 : Int) (k : Nat) : Int := if k < 4 then x0 else if k < 8 then x1 else if k < 12 then x2 else x3
def dg (x0 x1 x2 x3 : Int) (k : Nat) : Int := lm x0 x1 x2 x3 k / 2 ^ (16 * (k % 4)) % 65536
def dgs (x0 x1 x2 x3 : Int) (n : Nat) : List Int := (List.range n).map (dg x0 x1 x2 x3)
def encU (p : List Int) : List Value := p.map (Value.int .u64)
theorem dgs_len (x0 x1 x2 x3 : Int) (n : Nat) : (dgs x0 x1 x2 x3 n).length = n := by simp [dgs]
theorem dgs_succ (x0 x1 x2 x3 : Int) (n : Nat) : dgs x0 x1 x2 x3 (n + 1) = dgs x0 x1 x2 x3 n ++ [dg x0 x1 x2 x3 n] := by simp [dgs, List.range_succ]
theorem encU_snoc (p : List Int) (b : Int) : encU (p ++ [b]) = encU p ++ [.int .u64 b] := by simp [encU]
theorem u64_info : (Try.prog.info? 28).map (fun i => (i.zero, i.size, i.bytes)) = some (some (.int .u64 0), 1, 8) := by kernel_rfl

theorem cells_blk {W : World} {B : Nat} {c : Array Value} {t : TypeId} (h : W.heap[B]? = some (.cells c t (0, 0))) : (∀ o, W.cell? ⟨B, o, none⟩ = c[o]?) ∧ (∀ o, W.frozen? ⟨B, o, none⟩ = false) := by
  constructor
  · intro o; simp [World.cell?, h]
  · intro o; simp [World.frozen?, h]
theorem tm_0 {y : Int} (h : 0 ≤ y) : y.tmod 65536 = y % 65536 := Int.tmod_eq_emod_of_nonneg h
theorem tm_d {y : Int} (h : 0 ≤ y) (d : Int) (hd : 0 ≤ d) : (y / d).tmod 65536 = y / d % 65536 := Int.tmod_eq_emod_of_nonneg (Int.ediv_nonneg h hd)
/-- A slice's value that is a list of words in a world. -/
def IsWords (W : World) (v : Value) (p : List Int) : Prop :=
  (p = [] ∧ ∃ a cap, v = .slice a 0 cap) ∨ ∃ blk off cap, v = .slice (some ⟨blk, off, none⟩) p.length cap ∧ p.length ≤ 1073741824 ∧ blk < W.heap.size ∧ ∀ i x, p[i]? = some x → W.cell? ⟨blk, off + i, none⟩ = some (.int .u64 x)

set_option maxRecDepth 100000 in
set_option maxHeartbeats 8000000 in
theorem digits_any (x0 x1 x2 x3 : Int) (hx : Lim x0 x1 x2 x3) (w : World) :
    Calls Try.prog 80 #[.agg #[.int .u64 x0, .int .u64 x1, .int .u64 x2, .int .u64 x3]] w fun e w' => ∃ v, e = .returned v ∧ w'.ownsRow w.heap.size 28 1 v 16 (encU (dgs x0 x1 x2 x3 16)) ∧ Below w.heap.size w w' := by
  have hpad := pads
  obtain ⟨i0, hi, hz0, hz1, hz2⟩ := info_parts u64_info
  go_enter Try.func80, Try.ntmps80
  go_wp2
  go_loopw [3, 4] (fun v i wr => ∃ k : Nat, k ≤ 16 ∧ i = .int .i64 k ∧ wr.ownsRow (w.heap.size + 1) 28 1 v k (encU (dgs x0 x1 x2 x3 k)) ∧ Below (w.heap.size + 1) (w.alloc (.cells #[.int .u64 x0, .int .u64 x1, .int .u64 x2, .int .u64 x3] 64)) wr) (fun _ i _ => 16 - (intOf i).toNat)
  case atStart => exact ⟨0, by omega, rfl, ⟨rfl, .inl ⟨rfl, rfl⟩⟩, Below.refl _ _⟩
  case round =>
    obtain ⟨k, hk, rfl, hown, hB⟩ := hrel
    have hblk : wr.heap[w.heap.size]? = some (.cells #[.int .u64 x0, .int .u64 x1, .int .u64 x2, .int .u64 x3] 64 (0, 0)) := (hB.block w.heap.size (by omega)).trans (World.alloc_heap_new w _)
    obtain ⟨c1, f1⟩ := cells_blk hblk
    have hsz : w.heap.size + 1 ≤ wr.heap.size := by have := hB.size; simpa using this
    by_cases hlt : k < 16
    · have hsucc := dgs_succ x0 x1 x2 x3 k
      obtain ⟨kk, hkk⟩ : ∃ kk : Nat, Hid (kk = k + 1) := ⟨_, rfl⟩
      rcases (show k = 0 ∨ k = 1 ∨ k = 2 ∨ k = 3 ∨ k = 4 ∨ k = 5 ∨ k = 6 ∨ k = 7 ∨ k = 8 ∨ k = 9 ∨ k = 10 ∨ k = 11 ∨ k = 12 ∨ k = 13 ∨ k = 14 ∨ k = 15 by omega) with rfl | rfl | rfl | rfl | rfl | rfl | rfl | rfl | rfl | rfl | rfl | rfl | rfl | rfl | rfl | rfl
      all_goals
        have hs' : Hid _ := hsucc
        clear hsucc hk hlt
        go_wp2_with (at_builtin; refine wpList_append_own _ rfl _ _ 117 rfl (w.heap.size + 1) 28 i0 _ 1 8 Try.underlying117 hi hz0 hz1 hz2 rfl (by decide) _ _ _ rfl (hown.alloc _) ⟨wr.heap.size, 0, none⟩ 1 1 [_] rfl rfl (cell_one_new _ _ _) (by simp [Value.oneCell']) (by unfold maxLen; omega) (by omega) (by simp; omega) ?_; intro v' w' hown' hgrow _)
        go_roundw
        case rel =>
          have e := hkk.out
          refine ⟨kk, by omega, by rw [e]; go_num, ?_, ?_⟩
          · rw [e, hs'.out, encU_snoc]
            simpa [dg, lm, tm_d hx.1.1, tm_d hx.2.1.1, tm_d hx.2.2.1.1, tm_d hx.2.2.2.1, tm_0 hx.1.1, tm_0 hx.2.1.1, tm_0 hx.2.2.1.1, tm_0 hx.2.2.2.1] using hown'
          · refine (hB.alloc hsz _).grown hgrow (by simp; omega) (fun k' e => ?_)
            obtain ⟨_, h2⟩ := hown
            rcases h2 with ⟨rfl, _⟩ | ⟨g', cap', cur, rfl, hg', _⟩
            · cases e
            · cases e; exact hg'
        case measure => simp [intOf]
    · have hk : k = 16 := by omega
      subst hk
      go_wp2
      go_ret
      exact ⟨_, rfl, row_base hown (by omega), ((Below.refl w.heap.size w).alloc (Nat.le_refl _) _).trans (hB.mono (by omega))⟩
end Go.Proofs.Ytjhjgncnadhbhaa
