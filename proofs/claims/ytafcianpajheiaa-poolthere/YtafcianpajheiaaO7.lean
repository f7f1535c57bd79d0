
/- store: what was is noted. -/
import Derived.Test.YtafcianpajheiaaO6
set_option linter.unusedSimpArgs false
set_option linter.unusedVariables false
set_option maxRecDepth 20000
namespace Go.Proofs.Ytafcianpajheiaa
open Go.RowKit

theorem was_info : (Try.prog.info? 129).map (fun i => (i.zero, i.size, i.bytes)) = some (some (.agg #[.slice none 0 0, .slice none 0 0, .bool false]), 3, 56) := by kernel_rfl
theorem int_info : (Try.prog.info? 3).map (fun i => (i.zero, i.size, i.bytes)) = some (some (.int .i64 0), 1, 8) := by kernel_rfl
/-- What a key was. -/
def WasS (x : Was) (l : List (List Int × List Int)) (key : List Int) : Prop := x.k = key ∧ ((x.there = true ∧ getS l key = some x.v) ∨ (x.there = false ∧ getS l key = none))
theorem cellsJ_app (j q : List Was) : cellsJ (j ++ q) = cellsJ j ++ cellsJ q := by simp [cellsJ]
section
variable {W : World} {s base : Nat} {A : Nat → Prop} {vp vj vb : Value} {r : List Rec} {j : List Was} {b : List Nat}
/-- Bytes that were made are the store's own. -/
theorem Own.inA {W : World} {A : Nat → Prop} {g : Nat} {v : Value} {q : List Int} (h : Own W g v q) (hA : A g) (hb : Byte q) (hl : q.length ≤ 1048576) : InA W A v q := ⟨⟨g, hA, h⟩, hb, hl⟩
set_option maxHeartbeats 1000000 in
theorem note_none {u : Value} (h : StC W s base A vp vj vb r j b) (hb : b = []) : Calls Try.prog 51 #[.pointer (some ⟨s, 0, none⟩), u] W fun e w' => e = .returned (.tuple #[]) ∧ w' = W := by
  have hD := depth_any h
  subst hb
  go_enter Try.func51, Try.ntmps51
  go_wp2_with (go_at_call 74; refine hD.mono ?_; rintro e w1 ⟨rfl, rfl⟩)
  exact bodyPost_ret (v := .tuple #[]) (by simp [results, Try.results51]) rfl ⟨rfl, rfl⟩
set_option maxRecDepth 10000 in
set_option maxHeartbeats 4000000 in
theorem note_some {u : Value} {k : List Int} (h : StC W s base A vp vj vb r j b) (hs : Srt r) (hn : r.length ≤ 100000) (hj : j.length ≤ 100000) (hb : b ≠ []) (hu : Src W u k) (hk : Byte k) (hkl : k.length ≤ 1048576) :
    Calls Try.prog 51 #[.pointer (some ⟨s, 0, none⟩), u] W fun e w' => e = .returned (.tuple #[]) ∧ ∃ A' vj' x, StC w' s base A' vp vj' vb r (j ++ [x]) b ∧ WasS x (cont r) k ∧ Fr W w' A A' := by
  obtain ⟨i0, hi0, hz0, hz1, hz2⟩ := was_info |> info_parts
  have hD := depth_any h
  have hO := own_any hkl hu
  obtain ⟨su, cu, rfl, -⟩ := hu.parts
  obtain ⟨ap, cp, rfl⟩ := row_slice h.pairs
  obtain ⟨aj, cj, rfl⟩ := row_slice h.jour
  have hb0 : ¬ (b.length : Int) = 0 := by intro e; exact hb (List.eq_nil_of_length_eq_zero (by omega))
  go_enter Try.func51, Try.ntmps51
  go_wp2_with (first
    | (go_at_call 74; refine hD.mono ?_; rintro e w1 ⟨rfl, hw⟩; obtain rfl := hw.symm)
    | (go_at_call 54; refine hO.mono ?_; rintro e w1 ⟨kv, rfl, ho1, hb1⟩; obtain rfl := ho1.1; have h1 := h.below hb1; have hu1 := hu.kept (grown_none hb1); have hg2 := World.grownBy_alloc w1 (.cells #[.slice (some ⟨W.heap.size, 0, none⟩) k.length k.length, .slice none 0 0, .bool false] 129) none; have h2 := h1.kept (fun n hn => hg2.block n (h1.foot n hn).2 (by simp)) hg2.size; have hF := find_any h2 hs (by omega) (hu1.kept hg2) hk)
    | (go_at_call 50; refine hF.mono ?_; rintro e w3 ⟨i, f, rfl, hfs, hb3⟩; have h3 := h2.below hb3; have hl3 := (hb3.block w1.heap.size (by simp)).trans (al_at rfl); obtain ⟨c, fz⟩ := cells_of_block h3.blk; obtain ⟨cl3, fl3⟩ := cells_of_block hl3; cases f; rotate_left; obtain ⟨hi, hik, hgt⟩ := hfs.yes hs; have hi' : (i : Int) < (r.length : Int) := (by omega); obtain ⟨g, cap, ev, hgl, hbg, c0, c1, fz1⟩ := pair_at h3.pairs (List.getElem?_eq_getElem hi); simp at ev; obtain ⟨rfl, rfl⟩ := ev; have hri := (h3.recs r[i] (List.getElem_mem hi)).2; have hge := get_yes hfs hs hi; obtain ⟨sv, cv, ev, -⟩ := hri.src.parts; rw [ev] at c1 hri; have hgw : ¬ g = w1.heap.size := fun e => (by have := (h1.foot g (h1.ap g rfl)).2; omega)))
  have hgs : w3.grownBy ((w3.setCell ⟨w1.heap.size, 1, none⟩ (.slice sv r[i].v.length cv)).setCell ⟨w1.heap.size, 2, none⟩ (.bool true)) (some w1.heap.size) := grown_se (grown_se (grown_ref _ _) _ _) _ _
  have hS := h3.kept (fun n hn => hgs.block n (h3.foot n hn).2 (by have := (h1.foot n hn).2; simp; omega)) hgs.size
  have hL : ((w3.setCell ⟨w1.heap.size, 1, none⟩ (.slice sv r[i].v.length cv)).setCell ⟨w1.heap.size, 2, none⟩ (.bool true)).heap[w1.heap.size]? = some (.cells #[.slice (some ⟨W.heap.size, 0, none⟩) k.length k.length, .slice sv r[i].v.length cv, .bool true] 129 (0, 0)) := by rw [block_set _ (block_set _ hl3)]; rfl
  have hW3 : Below W.heap.size W w3 := bt (ba hb1 _) hb3
  have hBX := below_grown hW3 hgs hb1.size
  have hOX := ho1.kept ((hgs.block W.heap.size (Nat.lt_of_lt_of_le ho1.lt (Nat.le_trans hg2.size hb3.size)) (by have := ho1.lt; simp; omega)).trans ((hb3.block W.heap.size (Nat.lt_of_lt_of_le ho1.lt hg2.size)).trans (hg2.block W.heap.size ho1.lt (by simp))))
  have hV := hri.kept (fun n hn => hgs.block n (h3.foot n hn).2 (by have := (h1.foot n hn).2; simp; omega))
  generalize (w3.setCell ⟨w1.heap.size, 1, none⟩ (.slice sv r[i].v.length cv)).setCell ⟨w1.heap.size, 2, none⟩ (.bool true) = X at *
  have hfin : ∃ f v nv, f = true ∧ nv = r[i].v.length ∧ WasAt X (fun n => A n ∨ n = W.heap.size) ⟨.slice (some ⟨W.heap.size, 0, none⟩) k.length k.length, .slice sv nv cv, k, v, f⟩ ∧ WasS ⟨.slice (some ⟨W.heap.size, 0, none⟩) k.length k.length, .slice sv nv cv, k, v, f⟩ (cont r) k :=
    ⟨true, r[i].v, _, rfl, rfl, ⟨hOX.inA (.inr rfl) hk hkl, fun _ => hV.mono (fun _ h => .inl h), fun e => by cases e⟩, rfl, .inl ⟨rfl, hge⟩⟩
  obtain ⟨f, v, nv, hf, hnv, hWA, hWS⟩ := hfin
  have hw1 := Nat.lt_of_lt_of_le (show w1.heap.size < (w1.alloc (.cells #[.slice (some ⟨W.heap.size, 0, none⟩) k.length k.length, .slice none 0 0, .bool false] 129)).heap.size by simp) (Nat.le_trans hb3.size hgs.size)
  rw [← hf, ← hnv] at hL
  clear hf hnv
  rotate_left
  have hS := h3
  have hL := hl3
  have hBX : Below W.heap.size W w3 := bt (ba hb1 _) hb3
  have hOX := ho1.kept ((hb3.block W.heap.size (Nat.lt_of_lt_of_le ho1.lt hg2.size)).trans (hg2.block W.heap.size ho1.lt (by simp)))
  have hw1 := Nat.lt_of_lt_of_le (show w1.heap.size < (w1.alloc (.cells #[.slice (some ⟨W.heap.size, 0, none⟩) k.length k.length, .slice none 0 0, .bool false] 129)).heap.size by simp) hb3.size
  have hfin : ∃ f v sv nv cv, f = false ∧ sv = none ∧ nv = 0 ∧ cv = 0 ∧ WasAt w3 (fun n => A n ∨ n = W.heap.size) ⟨.slice (some ⟨W.heap.size, 0, none⟩) k.length k.length, .slice sv nv cv, k, v, f⟩ ∧ WasS ⟨.slice (some ⟨W.heap.size, 0, none⟩) k.length k.length, .slice sv nv cv, k, v, f⟩ (cont r) k :=
    ⟨false, [], none, 0, 0, rfl, rfl, rfl, rfl, ⟨hOX.inA (.inr rfl) hk hkl, (fun e => by cases e), fun _ => rfl⟩, rfl, .inr ⟨rfl, get_no hfs hs⟩⟩
  generalize w3 = X at *
  obtain ⟨f, v, sv, nv, cv, hf, e1, e2, e3, hWA, hWS⟩ := hfin
  rw [← hf, ← e1] at hL
  have hL : X.heap[w1.heap.size]? = some (.cells #[.slice (some ⟨W.heap.size, 0, none⟩) k.length k.length, .slice sv nv cv, .bool f] 129 (0, 0)) := by rw [hL, e2, e3]
  clear hf e1 e2 e3 cl3 fl3 hl3
  all_goals
    have hwz := hb1.size
    have hbase := h.le
    obtain ⟨k0, f0⟩ := cells_of_block hS.blk
    obtain ⟨m0, n0⟩ := cells_of_block hL
    have a1 : X.cell? ⟨s, 1, none⟩ = some (.slice aj j.length cj) := k0 1
    have a2 : X.cell? ⟨w1.heap.size, 0, none⟩ = some (.slice (some ⟨W.heap.size, 0, none⟩) k.length k.length) := m0 0
    have a3 : X.cell? ⟨w1.heap.size, 1, none⟩ = some (.slice sv nv cv) := m0 1
    have a4 : X.cell? ⟨w1.heap.size, 2, none⟩ = some (.bool f) := m0 2
    have hgA : X.grownBy (X.alloc (.cells #[.slice (some ⟨W.heap.size, 0, none⟩) k.length k.length, .slice sv nv cv, .bool f] 129)).drew none := grown_dr (World.grownBy_alloc X _ none)
    have b1 := hgA.cell a1 (by simp)
    have b2 := hgA.cell a2 (by simp)
    have b3 := hgA.cell a3 (by simp)
    have b4 := hgA.cell a4 (by simp)
    have hrow := none_row hS.jour hgA
    have hnews : ∀ n u, ([.slice (some ⟨W.heap.size, 0, none⟩) k.length k.length, .slice sv nv cv, .bool f] : List Value)[n]? = some u → (X.alloc (.cells #[.slice (some ⟨W.heap.size, 0, none⟩) k.length k.length, .slice sv nv cv, .bool f] 129)).drew.cell? (Addr.add ⟨X.heap.size, 0, none⟩ n) = some u := fun n u hn => by
      rw [add_cell, (cells_of_block (show (X.alloc _).drew.heap[X.heap.size]? = _ from al_at rfl)).1]; simpa using hn
    have hsA := hS.a0
    have hsl := (hS.foot s hsA).2
    have hsb : (X.alloc (.cells #[.slice (some ⟨W.heap.size, 0, none⟩) k.length k.length, .slice sv nv cv, .bool f] 129)).drew.heap[s]? = _ := (hgA.block s hsl (by simp)).trans hS.blk
    have hlb : (X.alloc (.cells #[.slice (some ⟨W.heap.size, 0, none⟩) k.length k.length, .slice sv nv cv, .bool f] 129)).drew.heap[w1.heap.size]? = _ := (hgA.block w1.heap.size hw1 (by simp)).trans hL
    have hjl : (Value.slice aj j.length cj).ownBlock ≠ some w1.heap.size := fun e => by have := (h1.jour.lt _ e).2; omega
    have hXl : X.heap.size < (X.alloc (.cells #[.slice (some ⟨W.heap.size, 0, none⟩) k.length k.length, .slice sv nv cv, .bool f] 129)).drew.heap.size := by show _ < (X.alloc _).heap.size; simp
    go_region_law (first
      | (rw [if_pos (by rfl)]; (refine wp_append_own_at _ _ _ 69 rfl base 129 i0 _ 3 56 Try.underlying69 hi0 hz0 hz1 hz2 rfl (by decide) (.slice aj j.length cj) j.length (cellsJ j) rfl hrow ⟨X.heap.size, 0, none⟩ 1 1 [.slice (some ⟨W.heap.size, 0, none⟩) k.length k.length, .slice sv nv cv, .bool f] rfl rfl hnews (by simp [Value.oneCell']) (by unfold maxLen; omega) (by omega) (Nat.le_trans hS.le hgA.size) ?_; intro vj' w4 hown4 hgr4 _ hat4; obtain ⟨av4, cv4, rfl⟩ := row_slice hown4; have hs4 := (hgr4.block s (Nat.lt_of_lt_of_le hsl hgA.size) (not_row hsb (by decide) hrow)).trans hsb; obtain ⟨d0, df⟩ := cells_of_block hs4; obtain ⟨e0, ef⟩ := cells_of_block ((hgr4.block w1.heap.size (Nat.lt_of_lt_of_le hw1 hgA.size) (fun e => hjl e.symm)).trans hlb); have d1 : w4.cell? ⟨s, 1, none⟩ = some (.slice aj j.length cj) := d0 1; have d2 : w4.cell? ⟨w1.heap.size, 0, none⟩ = some (.slice (some ⟨W.heap.size, 0, none⟩) k.length k.length) := e0 0; have d3 : w4.cell? ⟨w1.heap.size, 1, none⟩ = some (.slice sv nv cv) := e0 1; have d4 : w4.cell? ⟨w1.heap.size, 2, none⟩ = some (.bool f) := e0 2)))
    all_goals
      refine bodyPost_end (v := .tuple #[]) (by simp [results, Try.results51]) rfl ?_
      have hSe := hS.ext (B := fun n => A n ∨ n = W.heap.size) (fun n hn => .inl hn) (fun n hn => by
        rcases hn with hn | rfl
        · exact hS.foot n hn
        · exact ⟨h.le, hOX.lt⟩)
      have hcj : cellsJ (j ++ [⟨.slice (some ⟨W.heap.size, 0, none⟩) k.length k.length, .slice sv nv cv, k, v, f⟩]) = cellsJ j ++ [.slice (some ⟨W.heap.size, 0, none⟩) k.length k.length, .slice sv nv cv, .bool f] := by rw [cellsJ_app]; rfl
      obtain ⟨q1, q2⟩ := hSe.jour_to (j' := j ++ [⟨.slice (some ⟨W.heap.size, 0, none⟩) k.length k.length, .slice sv nv cv, k, v, f⟩]) (vj' := .slice av4 (j.length + 1) cv4) (by rw [List.length_append, hcj]; exact hown4) (grown_tr (grown_up hgA) hgr4) (by rcases hat4 with e | e; exact .inr (.inl e); exact .inr (.inr ⟨_, e, Nat.le_trans (World.grownBy_alloc X _ none).size (Nat.le_refl _)⟩)) (fun x hx => by
        rcases List.mem_append.1 hx with hx | hx
        · exact hSe.was x hx
        · rw [List.mem_singleton] at hx; subst hx; exact hWA)
      exact ⟨rfl, _, _, _, q1, hWS, ((Fr.more (W := W) (fun n hn => .inl hn) (fun n hn => hn.imp id (fun e => by omega))).trans (Fr.below hBX)).trans q2⟩
/-- What is noted: nothing, if no part is begun. -/
def JS (l : List (List Int × List Int)) (k : List Int) (j j' : List Was) (b : List Nat) : Prop := (b = [] ∧ j' = j) ∨ (b ≠ [] ∧ ∃ x, WasS x l k ∧ j' = j ++ [x])
theorem note_any {u : Value} {k : List Int} (h : StC W s base A vp vj vb r j b) (hs : Srt r) (hn : r.length ≤ 100000) (hj : j.length ≤ 100000) (hu : Src W u k) (hk : Byte k) (hkl : k.length ≤ 1048576) :
    Calls Try.prog 51 #[.pointer (some ⟨s, 0, none⟩), u] W fun e w' => e = .returned (.tuple #[]) ∧ ∃ A' vj' j', StC w' s base A' vp vj' vb r j' b ∧ JS (cont r) k j j' b ∧ Fr W w' A A' := by
  by_cases hb : b = []
  · refine (note_none (u := u) h hb).mono ?_
    rintro e w' ⟨rfl, rfl⟩
    exact ⟨rfl, A, vj, j, h, .inl ⟨hb, rfl⟩, Fr.below (Below.refl _ _)⟩
  · refine (note_some h hs hn hj hb hu hk hkl).mono ?_
    rintro e w' ⟨rfl, A', vj', x, h1, h2, h3⟩
    exact ⟨rfl, A', vj', j ++ [x], h1, .inr ⟨hb, x, h2, rfl⟩, h3⟩
end
end Go.Proofs.Ytafcianpajheiaa
