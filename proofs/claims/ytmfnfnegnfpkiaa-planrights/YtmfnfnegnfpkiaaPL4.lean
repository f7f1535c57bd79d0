
/- jointurelaw06.even: the document's example. -/
import Derived.Test.YtmfnfnegnfpkiaaPL3
set_option linter.unusedSimpArgs false
set_option linter.unusedVariables false
set_option maxRecDepth 20000
namespace Go.Proofs.Ytmfnfnegnfpkiaa
open Go.RowKit

set_option maxHeartbeats 4000000 in
theorem vested_1mid {s u t : Int} {a1 a2 : Option Addr} {c1 c2 : Nat} {al : List Cn} {pl : List Pd} (w : World) (h : PnAt w ⟨1, s, u, .slice a1 al.length c1, .slice a2 pl.length c2, al, pl⟩) (hw : PnWf ⟨1, s, u, .slice a1 al.length c1, .slice a2 pl.length c2, al, pl⟩) (ht1 : s < t) (ht2 : t < u) (hn : al.length ≤ 1048576) :
    Calls Try.prog 18 #[.agg #[.int .u8 1, .int .u64 s, .int .u64 u, .slice a1 al.length c1, .slice a2 pl.length c2], .int .u64 t] w fun e w' => ∃ (v : Value) (ys : List Cn), e = .returned v ∧ ys.length = al.length ∧ (∀ (i : Nat) x y, al[i]? = some x → ys[i]? = some y → EvC (t - s) (u - s) x y) ∧ w'.ownsRow w.heap.size 71 5 v (ys.flatMap oneD).length (cellsL (ys.flatMap oneD)) ∧ Below w.heap.size w w' := by
  have hb : Below w.heap.size w (w.alloc (.cells #[.int .u8 1, .int .u64 s, .int .u64 u, .slice a1 al.length c1, .slice a2 pl.length c2] 26)) := ba (Below.refl _ _) _
  have hE := evenly_mid _ (h.below hb) hw ht1 ht2 hn
  have hE' : Calls Try.prog 47 #[.agg #[.int .u8 1, .int .u64 s, .int .u64 u, .slice a1 al.length c1, .slice a2 pl.length c2], .int .u64 t] _ _ := hE
  clear hE
  go_enter Try.func18, Try.ntmps18
  go_wp2_with (go_at_call 47; refine hE'.mono ?_; rintro e w1 ⟨v, ys, rfl, h1, h2, h3, hb1⟩; generalize hq : ys.flatMap oneD = l' at h3; have hq' : Hid (ys.flatMap oneD = l') := hq; clear hq; obtain ⟨av, cv, rfl⟩ := row_slice h3)
  go_ret
  exact ⟨_, ys, rfl, h1, h2, by rw [hq'.out]; exact row_base h3 hb.size, bt hb hb1⟩
theorem even_list {ys : List Cn} (hl : ys.length = 1) (h : ∀ (i : Nat) x y, ([⟨0, 5, 0, 0, 0⟩] : List Cn)[i]? = some x → ys[i]? = some y → EvC (13 - 10) (20 - 10) x y) : ys.flatMap oneD = [⟨0, 1, 0, 0, 0⟩] := by
  match ys, hl with
  | [y], _ =>
    obtain ⟨h1, h2, h3⟩ := h 0 _ y rfl rfl
    obtain ⟨d, a, b, c, e⟩ := y
    have h4 : val a b c e = val 1 0 0 0 := by
      have e1 : val a b c e = val 5 0 0 0 * (13 - 10) / (20 - 10) := h3
      rw [e1, val_of, val_of]; rfl
    obtain ⟨rfl, rfl, rfl, rfl⟩ := val_inj h2 (by unfold Lim; omega) h4
    have h5 : d = 0 := h1
    subst h5
    rfl
theorem even_cells {W : World} {base : Nat} {v : Value} (h : W.ownsRow base 71 5 v 1 (cellsL [⟨0, 1, 0, 0, 0⟩])) : ∃ g cap, v = .slice (some ⟨g, 0, none⟩) 1 cap ∧ g < W.heap.size ∧ W.cell? ⟨g, 1, none⟩ = some (.int .u64 1) ∧ W.cell? ⟨g, 2, none⟩ = some (.int .u64 0) ∧ W.cell? ⟨g, 3, none⟩ = some (.int .u64 0) ∧ W.cell? ⟨g, 4, none⟩ = some (.int .u64 0) := by
  rcases h.2 with ⟨_, h0⟩ | ⟨g, cap, cur, rfl, h1, h2, h3⟩
  · omega
  · have key : ∀ (j : Nat) u, (cellsL [⟨0, 1, 0, 0, 0⟩])[j]? = some u → W.cell? ⟨g, j, none⟩ = some u := fun j u hj => by
      have := h.cells (g := g) rfl j u hj
      rwa [add_cell, Nat.zero_add] at this
    exact ⟨g, cap, rfl, (Array.getElem?_eq_some_iff.1 h2).1, key 1 _ rfl, key 2 _ rfl, key 3 _ rfl, key 4 _ rfl⟩
set_option maxRecDepth 20000 in
set_option maxHeartbeats 8000000 in
theorem even_any (w : World) : Calls Try.prog 12 #[] w fun e w' => e = .returned (.bool true) ∧ Below w.heap.size w w' := by
  have heq := eq_num
  have hb0 : Below w.heap.size w ((w.alloc (.cells #[.int .u8 0, .int .u64 5, .int .u64 0, .int .u64 0, .int .u64 0] 71)).alloc (.cells #[.int .u8 1, .int .u64 10, .int .u64 20, .slice (some ⟨w.heap.size, 0, none⟩) 1 1, .slice none 0 0] 26)) := ba (ba (Below.refl _ _) _) _
  obtain ⟨U, hU⟩ : ∃ U, U = (w.alloc (.cells #[.int .u8 0, .int .u64 5, .int .u64 0, .int .u64 0, .int .u64 0] 71)).alloc (.cells #[.int .u8 1, .int .u64 10, .int .u64 20, .slice (some ⟨w.heap.size, 0, none⟩) 1 1, .slice none 0 0] 26) := ⟨_, rfl⟩
  rw [← hU] at hb0
  have hUc : U.heap[w.heap.size]? = some (.cells #[.int .u8 0, .int .u64 5, .int .u64 0, .int .u64 0, .int .u64 0] 71 (0, 0)) := by rw [hU]; exact (al_old (by simp)).trans (al_at rfl)
  have hUp : U.heap[w.heap.size + 1]? = some (.cells #[.int .u8 1, .int .u64 10, .int .u64 20, .slice (some ⟨w.heap.size, 0, none⟩) 1 1, .slice none 0 0] 26 (0, 0)) := by rw [hU]; exact al_at (by simp)
  have hUs : w.heap.size + 1 < U.heap.size := by rw [hU]; simp
  have hA : ∀ X, Below U.heap.size U X → PnAt X ⟨1, 10, 20, .slice (some ⟨w.heap.size, 0, none⟩) ([⟨0, 5, 0, 0, 0⟩] : List Cn).length 1, .slice none ([] : List Pd).length 0, [⟨0, 5, 0, 0, 0⟩], []⟩ := fun X hX => ⟨(block_coins (l := [⟨0, 5, 0, 0, 0⟩]) ((hX.block w.heap.size (by omega)).trans hUc) rfl (by simp) (by simp)).cl, .inl ⟨rfl, _, _, rfl⟩⟩
  have hW : PnWf ⟨1, 10, 20, .slice (some ⟨w.heap.size, 0, none⟩) ([⟨0, 5, 0, 0, 0⟩] : List Cn).length 1, .slice none ([] : List Pd).length 0, [⟨0, 5, 0, 0, 0⟩], []⟩ := ⟨by simp, by simp, by simp, fun y hy => by rw [List.mem_singleton] at hy; subst hy; exact ⟨by simp, by unfold Lim; simp⟩⟩
  have hV := vested_1mid (t := 13) U (hA U (Below.refl _ _)) hW (by omega) (by omega) (by simp)
  have hg : (decide ((10 : Int) < 20) && givesB ⟨1, 10, 20, .slice (some ⟨w.heap.size, 0, none⟩) ([⟨0, 5, 0, 0, 0⟩] : List Cn).length 1, .slice none ([] : List Pd).length 0, [⟨0, 5, 0, 0, 0⟩], []⟩ && ([] : List Pd).isEmpty) = true := (show (decide ((10 : Int) < 20) && (someB [⟨0, 5, 0, 0, 0⟩] && decide ((20 : Int) ≤ 1099511627776)) && ([] : List Pd).isEmpty) = true from by decide)
  have hR1 : Hid (∀ X, Below U.heap.size U X → Calls Try.prog 13 #[.agg #[.int .u8 1, .int .u64 10, .int .u64 20, .slice (some ⟨w.heap.size, 0, none⟩) 1 1, .slice none 0 0]] X fun e w' => e = .returned (.bool true) ∧ Below X.heap.size X w') := fun X hX => by
    have := planRight_1 X (hA X hX) hW
    rw [hg] at this
    exact this
  have hR0 : Hid (∀ X, Calls Try.prog 13 #[.agg #[.int .u8 0, .int .u64 0, .int .u64 0, .slice none 0 0, .slice none 0 0]] X fun e w' => e = .returned (.bool true) ∧ Below X.heap.size X w') := fun X => planRight_0 (s := 0) (t := 0) (a1 := none) (a2 := none) (c1 := 0) (c2 := 0) (al := []) (pl := []) X ⟨.inl ⟨rfl, _, _, rfl⟩, .inl ⟨rfl, _, _, rfl⟩⟩
  have hR6 : Hid (∀ X, Calls Try.prog 13 #[.agg #[.int .u8 6, .int .u64 0, .int .u64 0, .slice none 0 0, .slice none 0 0]] X fun e w' => e = .returned (.bool false) ∧ Below X.heap.size X w') := fun X => planRight_6 6 (by omega) (by omega) X _ _
  have hV' : Calls Try.prog 18 #[.agg #[.int .u8 1, .int .u64 10, .int .u64 20, .slice (some ⟨w.heap.size, 0, none⟩) 1 1, .slice none 0 0], .int .u64 13] U fun e w' => ∃ g cap, e = .returned (.slice (some ⟨g, 0, none⟩) 1 cap) ∧ g < w'.heap.size ∧ (w'.cell? ⟨g, 1, none⟩ = some (.int .u64 1) ∧ w'.cell? ⟨g, 2, none⟩ = some (.int .u64 0) ∧ w'.cell? ⟨g, 3, none⟩ = some (.int .u64 0) ∧ w'.cell? ⟨g, 4, none⟩ = some (.int .u64 0)) ∧ Below U.heap.size U w' := by
    refine Calls.mono hV ?_
    rintro e w' ⟨v, ys, rfl, h1, h2, h3, h4⟩
    rw [even_list h1 h2] at h3
    obtain ⟨g, cap, rfl, h5, h6⟩ := even_cells h3
    exact ⟨g, cap, rfl, h5, h6, h4⟩
  clear hV hg hA hW
  have hU' : Hid _ := hU
  go_enter Try.func12, Try.ntmps12
  go_wp2_with (first
    | (go_at_call 18; rw [← hU]; refine hV'.mono ?_; clear hU; rintro e w1 ⟨g, cap, rfl, hgl, ⟨q1, q2, q3, q4⟩, hb1⟩; obtain ⟨cp, fp⟩ := cells_of_block ((hb1.block (w.heap.size + 1) hUs).trans hUp))
    | (go_at_call 13; with_reducible refine (hR1.out _ hb1).mono ?_; rintro e w2 ⟨rfl, hb2⟩; have r1 := (hb2.cell (p := ⟨g, 1, none⟩) hgl).trans q1; have r2 := (hb2.cell (p := ⟨g, 2, none⟩) hgl).trans q2; have r3 := (hb2.cell (p := ⟨g, 3, none⟩) hgl).trans q3; have r4 := (hb2.cell (p := ⟨g, 4, none⟩) hgl).trans q4)
    | (go_at_call 13; with_reducible refine (hR0.out _).mono ?_; rintro e w3 ⟨rfl, hb3⟩)
    | (go_at_call 13; with_reducible refine (hR6.out _).mono ?_; rintro e w4 ⟨rfl, hb4⟩))
  go_ret
  exact ⟨by simp, bt hb0 (bt hb1 (bt hb2 (bt hb3 hb4)))⟩
end Go.Proofs.Ytmfnfnegnfpkiaa
