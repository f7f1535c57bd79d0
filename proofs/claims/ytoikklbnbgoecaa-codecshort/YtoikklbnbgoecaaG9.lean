
/- codec: the law's examples; nil ones. -/
import Derived.Test.YtoikklbnbgoecaaG8
import Derived.Test.YtoikklbnbgoecaaG6
set_option linter.unusedSimpArgs false
set_option linter.unusedVariables false
namespace Go.Proofs.Ytoikklbnbgoecaa
open Go.RowKit

theorem byL_256 : byL (val 256 0 0 0) 32 = [1, 0] := by
  rw [val_of]; decide
theorem isb_new (W : World) (q : List Int) (c : Array Value) (k n : Nat) (t : TypeId) (hc : c = (encB q).toArray) (hk : k = q.length) (hn : n = W.heap.size) (hl : q.length ≤ 1073741824) : IsBytes (W.alloc (.cells c t)) (.slice (some ⟨n, 0, none⟩) k k) q := by
  subst hc hk hn
  refine .inr ⟨_, 0, _, rfl, hl, by simp, fun i x hi => ?_⟩
  rw [(cells_of_block (World.alloc_heap_new W _)).1]
  simp [encB, hi]
theorem apart_row {W : World} {base b : Nat} {e : TypeId} {size n : Nat} {u : Value} {xs : List Value} (h : W.ownsRow base e size u n xs) (hb : W.heap.size ≤ b) : u.ownBlock = none ∨ u.ownBlock ≠ some b := by
  cases hu : u.ownBlock with
  | none => exact .inl rfl
  | some g => right; intro e'; have := h.lt g hu; simp at e'; omega
theorem none_row {W : World} {base : Nat} {e : TypeId} {size n : Nat} {u : Value} {xs : List Value} (h : W.ownsRow base e size u n xs) {W' : World} (hg : W.grownBy W' none) : W'.ownsRow base e size u n xs := h.kept hg (by cases u.ownBlock <;> simp)
theorem RdAt.nn {W W' : World} {b : Nat} {D : Option Nat} {s : Option (List Int)} (h : RdAt W b D s) (hg : W.grownBy W' none) : RdAt W' b D s := h.kept hg (by simp) (by cases D <;> simp)
theorem InAt.nn {W W' : World} {b : Nat} {D : Option Nat} {s : Option (List Int)} (h : InAt W b D s) (hg : W.grownBy W' none) : InAt W' b D s := h.kept hg (by simp) (by cases D <;> simp)
theorem nS_ex : nS (some [1, 0]) = (0, none) := by decide

set_option maxRecDepth 10000 in
set_option maxHeartbeats 4000000 in
theorem lays_any (w : World) : Calls Try.prog 11 #[] w fun e w' => e = .returned (.bool true) ∧ Below w.heap.size w w' := by
  have heq := eq_num
  have hes : eq4 0 0 0 0 0 0 0 0 = true := rfl
  have hW0 : WrAt (w.alloc (.cells #[.slice none 0 0] 28)) w.heap.size w.heap.size (.slice none 0 0) [] := ⟨World.alloc_heap_new w _, World.ownsRow_nil _ _ _ _⟩
  have hN := wNum_any 256 0 0 0 (by unfold Lim; omega) hW0 (by simp) (by simp)
  rw [byL_256] at hN
  go_enter Try.func11, Try.ntmps11
  go_wp2_with (first
    | (go_at_call 30; refine hN.mono ?_; rintro e w1 ⟨rfl, v1, hW1, hF1⟩; have hB1 := WF.below (ba (Below.refl _ _) _) hF1 hW0 (Nat.le_refl _) (Nat.le_refl _))
    | (go_at_call 13; refine (wDone_any hW1 (by simp)).mono ?_; rintro e w2 ⟨u2, rfl, ho2, hb2⟩; have hB2 := bt hB1 hb2; clear hb2)
    | (go_at_call 15; refine (read_new (by simp) (by simp) (src_new w2 [1, 0] 5)).mono ?_; rintro e w3 ⟨b, D, rfl, hr3, hb3, hD, hDl, hbl3⟩; have hB3 := bt (ba hB2 _) hbl3; have ho3 := none_row (ho2.alloc _) (grown_none hbl3); simp at hb3)
    | (go_at_call 34; refine (rNum_any hD (fun d hd => (hDl d hd).2) hr3).mono ?_; rintro e w4 ⟨z0, z1, z2, z3, rfl, hz, hv, hr4, hg4⟩; rw [nS_ex] at hv hr4; obtain ⟨rfl, rfl, rfl, rfl⟩ := (val_zero hz).1 hv.out; have hB4 := below_grown hB3 hg4 (by have := hB2.size; omega); have ho4 := ho3.kept hg4 (apart_row ho2 (by omega)); have hu5 := own_bytes (by simp) ((ho4.alloc (.cells #[.int .u64 0, .int .u64 0, .int .u64 0, .int .u64 0] 33)).alloc (.cells #[.int .u8 2, .int .u8 1, .int .u8 0] 5)); have hs5 : IsBytes ((w4.alloc (.cells #[.int .u64 0, .int .u64 0, .int .u64 0, .int .u64 0] 33)).alloc (.cells #[.int .u8 2, .int .u8 1, .int .u8 0] 5)) (.slice (some ⟨w4.heap.size + 1, 0, none⟩) 3 3) [2, 1, 0] := isb_new _ [2, 1, 0] _ 3 _ _ rfl rfl (by simp) (by simp))
    | (go_at_call 14; go_loud (with_reducible refine (same_any _ hu5 hs5).mono ?_; rintro e w6 ⟨rfl, hb6⟩; have hg6 := World.grownBy.trans (World.grownBy.trans (World.grownBy_alloc w4 (.cells #[.int .u64 0, .int .u64 0, .int .u64 0, .int .u64 0] 33) none) (World.grownBy_alloc _ (.cells #[.int .u8 2, .int .u8 1, .int .u8 0] 5) none)) (grown_none hb6); have hr6 := hr4.nn hg6; have q6 := (hb6.block w4.heap.size (by simp; omega)).trans ((al_old (by simp)).trans (al_at rfl)); obtain ⟨c6, f6⟩ := cells_of_block q6; have hB6 := bt (ba (ba hB4 _) _) hb6))
    | (go_at_call 17; refine (rBad_any hr6).mono ?_; rintro e w7 ⟨rfl, rfl⟩)
    | (go_at_call 22; refine (rLeft_any hr6).mono ?_; rintro e w7 ⟨rfl, rfl⟩))
  all_goals go_ret
  all_goals exact ⟨by simp [leftS], hB6⟩
end Go.Proofs.Ytoikklbnbgoecaa
