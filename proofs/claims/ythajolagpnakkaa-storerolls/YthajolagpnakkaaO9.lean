
/- store: Begin, over, Commit, undo. -/
import Derived.Test.YthajolagpnakkaaO8
set_option linter.unusedSimpArgs false
set_option linter.unusedVariables false
namespace Go.Proofs.Ythajolagpnakkaa
open Go.RowKit

theorem row_cut {W : World} {base : Nat} {e : TypeId} {size n m g cap : Nat} {xs : List Value} (h : W.ownsRow base e size (.slice (some ⟨g, 0, none⟩) n cap) n xs) (hm : m ≤ n) : W.ownsRow base e size (.slice (some ⟨g, 0, none⟩) m cap) m (xs.take (m * size)) := by
  have hms := Nat.mul_le_mul_right size hm
  rcases h.2 with ⟨e, _⟩ | ⟨g', cap', cur, e, h1, h2, h3, h4, h5, h6⟩
  · simp at e
  · simp at e
    obtain ⟨rfl, rfl⟩ := e
    refine ⟨by rw [List.length_take, h.1]; omega, .inr ⟨g, cap, cur, rfl, h1, h2, by omega, h4, h5, ?_⟩⟩
    rw [← h6, List.take_take]; congr 1; omega
theorem cellsI_app (a b : List Nat) : cellsI (a ++ b) = cellsI a ++ cellsI b := by simp [cellsI]
theorem cellsI_len (a : List Nat) : (cellsI a).length = a.length := by simp [cellsI]
section
variable {W : World} {s base : Nat} {A : Nat → Prop} {vp vj vb : Value} {r : List Rec} {j : List Was} {b : List Nat}
set_option maxRecDepth 10000 in
set_option maxHeartbeats 4000000 in
theorem begin_any (h : StC W s base A vp vj vb r j b) (hj : j.length ≤ 1048576) (hb : b.length ≤ 100000) :
    Calls Try.prog 19 #[.pointer (some ⟨s, 0, none⟩)] W fun e w' => e = .returned (.tuple #[]) ∧ ∃ A' vb', StC w' s base A' vp vj vb' r j (b ++ [j.length]) ∧ Fr W w' A A' := by
  obtain ⟨i0, hi0, hz0, hz1, hz2⟩ := int_info |> info_parts
  obtain ⟨aj, cj, rfl⟩ := row_slice h.jour
  obtain ⟨ab, cb, rfl⟩ := row_slice h.begun
  obtain ⟨c, fz⟩ := cells_of_block h.blk
  have a1 : W.cell? ⟨s, 1, none⟩ = some (.slice aj j.length cj) := c 1
  have a2 : W.cell? ⟨s, 2, none⟩ = some (.slice ab b.length cb) := c 2
  have hsl := (h.foot s h.a0).2
  have hgA : W.grownBy (W.alloc (.cells #[.int .i64 (j.length : Int)] 3)).drew none := grown_dr (World.grownBy_alloc W _ none)
  have b1 := hgA.cell a1 (by simp)
  have b2 := hgA.cell a2 (by simp)
  have hrow := none_row h.begun hgA
  have hnews : ∀ n u, ([.int .i64 (j.length : Int)] : List Value)[n]? = some u → (W.alloc (.cells #[.int .i64 (j.length : Int)] 3)).drew.cell? (Addr.add ⟨W.heap.size, 0, none⟩ n) = some u := fun n u hn => by
    rw [add_cell, (cells_of_block (show (W.alloc _).drew.heap[W.heap.size]? = _ from al_at rfl)).1]; simpa using hn
  have hsb : (W.alloc (.cells #[.int .i64 (j.length : Int)] 3)).drew.heap[s]? = _ := (hgA.block s hsl (by simp)).trans h.blk
  clear c fz
  go_enter Try.func19, Try.ntmps19
  go_wp2
  go_region_law (first
    | (rw [if_pos (by rfl)]; (refine wp_append_own_at _ _ _ 54 rfl base 3 i0 _ 1 8 Try.underlying54 hi0 hz0 hz1 hz2 rfl (by decide) (.slice ab b.length cb) b.length (cellsI b) rfl hrow ⟨W.heap.size, 0, none⟩ 1 1 [.int .i64 (j.length : Int)] rfl rfl hnews (by simp [Value.oneCell']) (by unfold maxLen; omega) (by omega) (Nat.le_trans h.le hgA.size) ?_; intro vb' w4 hown4 hgr4 _ hat4; obtain ⟨av4, cv4, rfl⟩ := row_slice hown4; have hs4 := (hgr4.block s (Nat.lt_of_lt_of_le hsl hgA.size) (not_row hsb (by decide) hrow)).trans hsb; obtain ⟨d0, df⟩ := cells_of_block hs4)))
  all_goals
    refine bodyPost_end (v := .tuple #[]) (by simp [results, Try.results19]) rfl ?_
    obtain ⟨q1, q2⟩ := h.begun_to (b' := b ++ [j.length]) (vb' := .slice av4 (b.length + 1) cv4) (by rw [List.length_append, cellsI_app]; exact hown4) (grown_tr (grown_up hgA) hgr4) (by rcases hat4 with e | e; exact .inl e; exact .inr ⟨_, e, Nat.le_trans (World.grownBy_alloc W _ none).size (Nat.le_refl _)⟩)
    exact ⟨rfl, _, _, q1, q2⟩
set_option maxHeartbeats 1000000 in
theorem over_none (h : StC W s base A vp vj vb r j []) : Calls Try.prog 38 #[.pointer (some ⟨s, 0, none⟩)] W fun e w' => e = .returned (.tuple #[.int .i64 0, .bool false]) ∧ w' = W := by
  have hD := depth_any h
  go_enter Try.func38, Try.ntmps38
  go_wp2_with (go_at_call 18; refine hD.mono ?_; rintro e w1 ⟨rfl, hw⟩; obtain rfl := hw.symm)
  go_ret2
  exact ⟨rfl, rfl⟩
set_option maxHeartbeats 4000000 in
theorem over_some {n : Nat} (h : StC W s base A vp vj vb r j (b ++ [n])) (hb : b.length ≤ 100000) : Calls Try.prog 38 #[.pointer (some ⟨s, 0, none⟩)] W fun e w' => e = .returned (.tuple #[.int .i64 (n : Int), .bool true]) ∧ ∃ A' vb', StC w' s base A' vp vj vb' r j b ∧ Fr W w' A A' := by
  have hD := depth_any h
  have hbl : (b ++ [n]).length = b.length + 1 := by simp
  have hbe := h.begun
  rw [hbl] at hbe hD
  obtain ⟨g, cap, hv⟩ : ∃ g cap, vb = .slice (some ⟨g, 0, none⟩) (b.length + 1) cap := by
    rcases hbe.2 with ⟨_, e⟩ | ⟨g, cap, _, e, _⟩
    · omega
    · exact ⟨g, cap, e⟩
  subst hv
  have hcap : b.length + 1 ≤ cap := by
    rcases hbe.2 with ⟨e, _⟩ | ⟨g', cap', _, e, _, _, h3, _⟩
    · simp at e
    · simp at e; omega
  have hcell := World.ownsRow.cellAt hbe b.length (by omega)
  have e1 : (cellsI (b ++ [n]))[b.length]? = some (.int .i64 (n : Int)) := by rw [cellsI_app, List.getElem?_append_right (by rw [cellsI_len]; omega), cellsI_len]; simp [cellsI]
  rw [e1] at hcell
  obtain ⟨c, fz⟩ := cells_of_block h.blk
  have hb' : (b.length : Int) ≤ 100000 := by omega
  have hcap' : (b.length : Int) + 1 ≤ (cap : Int) := by omega
  have hw1 : ((b.length + 1 : Nat) : Int) - 1 = (b.length : Int) := by omega
  have hw2 : (b.length : Int) ≤ (cap : Int) := by omega
  have hrow : W.ownsRow base 3 1 (.slice (some ⟨g, 0, none⟩) b.length cap) b.length (cellsI b) := by
    have := row_cut hbe (m := b.length) (by omega)
    rwa [cellsI_app, Nat.mul_one, ← cellsI_len b, List.take_left, cellsI_len] at this
  obtain ⟨q1, q2⟩ := h.begun_to (W1 := W) (b' := b) hrow (grown_ref _ _) (.inl rfl)
  clear e1 hbl
  go_enter Try.func38, Try.ntmps38
  go_wp2_with (go_at_call 18; refine hD.mono ?_; rintro e w1 ⟨rfl, hw⟩; obtain rfl := hw.symm)
  go_ret2
  exact ⟨rfl, _, _, q1, q2⟩
end
end Go.Proofs.Ythajolagpnakkaa
