
/- The reference's store: Begin, End, Get. -/
import Derived.Test.YthajolagpnakkaaO17
set_option linter.unusedSimpArgs false
set_option linter.unusedVariables false
namespace Go.Proofs.Ythajolagpnakkaa
open Go.RowKit

theorem rlist_info : (Try.prog.info? 28).map (fun i => (i.zero, i.size, i.bytes)) = some (some (.slice none 0 0), 1, 24) := by kernel_rfl
section
variable {W : World} {m base : Nat} {B C : Nat → Prop} {vl vw : Value} {ws : List Value} {l : List Rec} {was : List (List Rec)}
theorem RS.wsl (h : RS W m base B C vl vw ws l was) : ws.length = was.length := by have := h.row.1; omega
set_option maxRecDepth 10000 in
set_option maxHeartbeats 4000000 in
theorem refBegin_any (h : RS W m base B C vl vw ws l was) (hn : was.length ≤ 100000) :
    Calls Try.prog 35 #[.pointer (some ⟨m, 0, none⟩)] W fun e w' => e = .returned (.tuple #[]) ∧ ∃ B' vw' ws', RS w' m base B' C vl vw' ws' l (was ++ [l]) ∧ Fr W w' B B' := by
  obtain ⟨i0, hi0, hz0, hz1, hz2⟩ := rlist_info |> info_parts
  obtain ⟨al, cl, rfl⟩ := row_slice h.cur.row
  obtain ⟨ab, cb, rfl⟩ := row_slice h.row
  obtain ⟨c, fz⟩ := cells_of_block h.blk
  have a1 : W.cell? ⟨m, 0, none⟩ = some (.slice al l.length cl) := c 0
  have a2 : W.cell? ⟨m, 1, none⟩ = some (.slice ab was.length cb) := c 1
  have hsl := (h.foot m h.bm).2
  have hgA : W.grownBy (W.alloc (.cells #[.slice al l.length cl] 28)).drew none := grown_dr (World.grownBy_alloc W _ none)
  have b1 := hgA.cell a1 (by simp)
  have b2 := hgA.cell a2 (by simp)
  have hrow := none_row h.row hgA
  have hnews : ∀ n u, ([.slice al l.length cl] : List Value)[n]? = some u → (W.alloc (.cells #[.slice al l.length cl] 28)).drew.cell? (Addr.add ⟨W.heap.size, 0, none⟩ n) = some u := fun n u hn => by
    rw [add_cell, (cells_of_block (show (W.alloc _).drew.heap[W.heap.size]? = _ from al_at rfl)).1]; simpa using hn
  have hsb : (W.alloc (.cells #[.slice al l.length cl] 28)).drew.heap[m]? = _ := (hgA.block m hsl (by simp)).trans h.blk
  clear c fz
  go_enter Try.func35, Try.ntmps35
  go_wp2
  go_region_law (first
    | (rw [if_pos (by rfl)]; (refine wp_append_own_at _ _ _ 29 rfl base 28 i0 _ 1 24 Try.underlying29 hi0 hz0 hz1 hz2 rfl (by decide) (.slice ab was.length cb) was.length ws rfl hrow ⟨W.heap.size, 0, none⟩ 1 1 [.slice al l.length cl] rfl rfl hnews (by simp [Value.oneCell']) (by unfold maxLen; omega) (by omega) (Nat.le_trans h.le hgA.size) ?_; intro vb' w4 hown4 hgr4 _ hat4; obtain ⟨av4, cv4, rfl⟩ := row_slice hown4; have hs4 := (hgr4.block m (Nat.lt_of_lt_of_le hsl hgA.size) (not_row hsb (by decide) hrow)).trans hsb; obtain ⟨d0, df⟩ := cells_of_block hs4)))
  all_goals
    refine bodyPost_end (v := .tuple #[]) (by simp [results, Try.results35]) rfl ?_
    obtain ⟨q1, q2⟩ := h.was_to (was' := was ++ [l]) (ws' := ws ++ [.slice al l.length cl]) (vw' := .slice av4 (was.length + 1) cv4) (by rw [List.length_append]; exact hown4) (grown_tr (grown_up hgA) hgr4) (by rcases hat4 with e | e; exact .inl e; exact .inr ⟨_, e, Nat.le_trans (World.grownBy_alloc W _ none).size (Nat.le_refl _)⟩) (fun i v x hv hx => by
      have hwl := h.wsl
      rcases Nat.lt_or_ge i was.length with hi | hi
      · rw [List.getElem?_append_left (by omega)] at hv hx
        exact h.rows i v x hv hx
      · rw [List.getElem?_append_right (by omega)] at hv hx
        rw [hwl] at hv
        cases hd : i - was.length with
        | zero =>
          rw [hd] at hv hx
          obtain rfl : _ = v := by simpa using hv
          obtain rfl : _ = x := by simpa using hx
          exact h.cur
        | succ n => rw [hd] at hx; simp at hx)
    exact ⟨rfl, _, _, _, q1, q2⟩
set_option maxHeartbeats 4000000 in
theorem refEnd_none {stay : Bool} (h : RS W m base B C vl vw ws l []) : Calls Try.prog 36 #[.pointer (some ⟨m, 0, none⟩), .bool stay] W fun e w' => e = .returned (.bool false) ∧ w' = W := by
  obtain ⟨ab, cb, rfl⟩ := row_slice h.row
  obtain ⟨c, fz⟩ := cells_of_block h.blk
  go_enter Try.func36, Try.ntmps36
  go_wp2
  go_ret
  exact ⟨rfl, rfl⟩
set_option maxRecDepth 10000 in
set_option maxHeartbeats 4000000 in
theorem refEnd_some {stay : Bool} {x : List Rec} (h : RS W m base B C vl vw ws l (was ++ [x])) (hn : was.length ≤ 100000) : Calls Try.prog 36 #[.pointer (some ⟨m, 0, none⟩), .bool stay] W fun e w' => e = .returned (.bool true) ∧ ∃ B' vl' vw' ws', RS w' m base B' C vl' vw' ws' (if stay then l else x) was ∧ Fr W w' B B' := by
  have hbl : (was ++ [x]).length = was.length + 1 := by simp
  have hbe := h.row
  have hwl := h.wsl
  rw [hbl] at hbe hwl
  obtain ⟨g, cap, hv⟩ : ∃ g cap, vw = .slice (some ⟨g, 0, none⟩) (was.length + 1) cap := by
    rcases hbe.2 with ⟨_, e⟩ | ⟨g, cap, _, e, _⟩
    · omega
    · exact ⟨g, cap, e⟩
  subst hv
  have hcap : was.length + 1 ≤ cap := by
    rcases hbe.2 with ⟨e, _⟩ | ⟨g', cap', _, e, _, _, h3, _⟩
    · simp at e
    · simp at e; omega
  obtain ⟨v, hv⟩ : ∃ v, ws[was.length]? = some v := ⟨ws[was.length]'(by omega), List.getElem?_eq_getElem (by omega)⟩
  have hRL := h.rows was.length v x hv (by simp)
  have hcell := World.ownsRow.cellAt hbe was.length (by omega)
  rw [hv] at hcell
  obtain ⟨av, cv, rfl⟩ := row_slice hRL.row
  obtain ⟨al, cl, rfl⟩ := row_slice h.cur.row
  obtain ⟨c, fz⟩ := cells_of_block h.blk
  have hb' : (was.length : Int) ≤ 100000 := by omega
  have hcap' : (was.length : Int) + 1 ≤ (cap : Int) := by omega
  have hw1 : ((was.length + 1 : Nat) : Int) - 1 = (was.length : Int) := by omega
  have hw2 : (was.length : Int) ≤ (cap : Int) := by omega
  have hrow : W.ownsRow base 28 1 (.slice (some ⟨g, 0, none⟩) was.length cap) was.length (ws.take was.length) := by
    have := row_cut hbe (m := was.length) (by omega)
    rwa [Nat.mul_one] at this
  have hkeep : ∀ (i : Nat) u y, (ws.take was.length)[i]? = some u → was[i]? = some y → RL W base C u y := fun i u y hu hy => by
    have hi := (List.getElem?_eq_some_iff.1 hy).1
    rw [List.getElem?_take_of_lt hi] at hu
    exact h.rows i u y hu (by rw [List.getElem?_append_left hi]; exact hy)
  have hT : Hid (∃ B' vl' vw' ws', RS (W.setCell ⟨m, 1, none⟩ (.slice (some ⟨g, 0, none⟩) was.length cap)) m base B' C vl' vw' ws' l was ∧ Fr W (W.setCell ⟨m, 1, none⟩ (.slice (some ⟨g, 0, none⟩) was.length cap)) B B') := by
    obtain ⟨q1, q2⟩ := h.was_to (W1 := W) (vw' := .slice (some ⟨g, 0, none⟩) was.length cap) (was' := was) hrow (grown_ref _ _) (.inl rfl) hkeep
    exact ⟨_, _, _, _, q1, q2⟩
  have hF : Hid (∃ B' vl' vw' ws', RS ((W.setCell ⟨m, 0, none⟩ (.slice av x.length cv)).setCell ⟨m, 1, none⟩ (.slice (some ⟨g, 0, none⟩) was.length cap)) m base B' C vl' vw' ws' x was ∧ Fr W ((W.setCell ⟨m, 0, none⟩ (.slice av x.length cv)).setCell ⟨m, 1, none⟩ (.slice (some ⟨g, 0, none⟩) was.length cap)) B B') := by
    obtain ⟨p1, p2⟩ := h.cur_to hRL
    have hsz : W.heap.size ≤ (W.setCell ⟨m, 0, none⟩ (.slice av x.length cv)).heap.size := p2.size
    have hC : ∀ k, C k → (W.setCell ⟨m, 0, none⟩ (.slice av x.length cv)).heap[k]? = W.heap[k]? := fun k hk => (grown_se (grown_ref _ _) _ _ : W.grownBy (W.setCell ⟨m, 0, none⟩ (.slice av x.length cv)) (some m)).block k (h.foot k (h.sub k hk)).2 (fun e => h.cm ((Option.some.inj e) ▸ hk))
    obtain ⟨q1, q2⟩ := p1.was_to (W1 := W.setCell ⟨m, 0, none⟩ (.slice av x.length cv)) (vw' := .slice (some ⟨g, 0, none⟩) was.length cap) (was' := was) (row_set_other hrow h.blk (by decide)) (grown_ref _ _) (.inl rfl) (fun i u y hu hy => (hkeep i u y hu hy).kept hC hsz)
    exact ⟨_, _, _, _, q1, p2.trans q2⟩
  clear hkeep hRL hbl hv
  cases stay
  · clear hT
    go_enter Try.func36, Try.ntmps36
    go_wp2
    go_ret
    obtain ⟨B', vl', vw', ws', q1, q2⟩ := hF.out
    exact ⟨rfl, B', ⟨vl', vw', ws', q1⟩, q2⟩
  · clear hF
    go_enter Try.func36, Try.ntmps36
    go_wp2
    go_ret
    obtain ⟨B', vl', vw', ws', q1, q2⟩ := hT.out
    exact ⟨rfl, B', ⟨vl', vw', ws', q1⟩, q2⟩
end
end Go.Proofs.Ythajolagpnakkaa
