
/- codec's writer: coins; what is laid is read. -/
import Derived.Test.YtoikklbnbgoecaaG14
set_option linter.unusedSimpArgs false
set_option linter.unusedVariables false
namespace Go.Proofs.Ytoikklbnbgoecaa
open Go.RowKit

/-- A number, and a coin, as they are laid. -/
def layN (n : Int) : List Int := ((byL n 32).length : Int) :: byL n 32
def layC (c : Cn) : List Int := c.d :: layN (vl c)
def layL (l : List Cn) : List Int := l.flatMap layC
theorem layL_snoc (l : List Cn) (c : Cn) : layL (l ++ [c]) = layL l ++ layC c := by simp [layL]
theorem layN_len (n : Int) : (layN n).length ≤ 33 := by have := byL_len n 32; simp [layN]; omega
theorem layL_len (l : List Cn) : (layL l).length ≤ 34 * l.length := by
  induction l with
  | nil => simp [layL]
  | cons c l ih =>
    have e : layL (c :: l) = layC c ++ layL l := rfl
    have := layN_len (vl c)
    rw [e, List.length_append, List.length_cons]
    simp only [layC, List.length_cons]
    omega

theorem WF.own_ne {A B : World} {b : Nat} {v v' : Value} (h : WF A B b v v') {n : Nat} (hn : n < A.heap.size) (hne : some n ≠ v.ownBlock) : some n ≠ v'.ownBlock := by
  rcases h.own with e | ⟨g, e, hg⟩
  · rw [e]; exact hne
  · rw [e]; intro e2; simp at e2; omega
set_option maxRecDepth 10000 in
set_option maxHeartbeats 4000000 in
theorem wCoins_any {W : World} {b base base2 : Nat} {v u : Value} {p : List Int} {L : List Cn} (hW : WrAt W b base v p) (hbase : base ≤ W.heap.size) (hwf : ∀ x ∈ L, CnWf x) (hLn : L.length ≤ 255) (hl : p.length + 9000 ≤ 1048576) (hu : W.ownsRow base2 74 5 u L.length (cellsL L)) (hub : u.ownBlock ≠ some b) (huv : u.ownBlock = none ∨ u.ownBlock ≠ v.ownBlock) :
    Calls Try.prog 21 #[.pointer (some ⟨b, 0, none⟩), u] W fun e w' => e = .returned (.pointer (some ⟨b, 0, none⟩)) ∧ ∃ v', WrAt w' b base v' (p ++ ((L.length : Int) :: layL L)) ∧ WF W w' b v v' := by
  have hbl := hW.lt
  have hw8 : IntKind.u8.wrap (L.length : Int) = (L.length : Int) := by rw [IntKind.wrap_u8]; omega
  obtain ⟨au, cu, rfl⟩ := row_slice hu
  have hLn' : (L.length : Int) ≤ 255 := by omega
  go_enter Try.func21, Try.ntmps21
  go_wp2_with (go_at_call 25; refine (wByte_any (L.length : Int) hW hbase (by omega)).mono ?_; rintro e w1 ⟨rfl, v1, hW1, hF1⟩)
  go_loopw [14] (fun i X => ∃ (k : Nat) (vk : Value), k ≤ L.length ∧ i = .int .i64 (k : Int) ∧ WrAt X b base vk (p ++ ((L.length : Int) :: layL (L.take k))) ∧ WF W X b v vk) (fun i _ => L.length - (intOf i).toNat)
  case atStart => exact ⟨0, v1, by omega, rfl, hW1, hF1⟩
  case round =>
    clear hW1 hF1
    obtain ⟨k, vk, hk, rfl, hWk, hFk⟩ := hrel
    by_cases hlt : k < L.length
    · have hrow := hFk.row hu hub huv
      have hsz := hFk.size
      have hc := own_coins hrow (by omega)
      rcases hc with ⟨e, -⟩ | ⟨g, off, cap, hv, -, -, hgl, hall⟩
      · subst e; simp at hlt
      · simp at hv
        obtain ⟨rfl, rfl⟩ := hv
        have hgo : off = 0 := by
          rcases hrow.2 with ⟨e, _⟩ | ⟨g', cap', cur, e, _⟩
          · simp at e
          · simp at e; exact e.1.2
        subst hgo
        obtain ⟨k0, k1, k2, k3, k4⟩ := hall k L[k] (by simp [hlt])
        have hxw := hwf L[k] (List.getElem_mem hlt)
        have htk : layL (L.take (k + 1)) = layL (L.take k) ++ layC L[k] := by rw [List.take_succ_eq_append_getElem hlt, layL_snoc]
        have hln := layL_len (L.take k)
        have hlk : (L.take k).length ≤ 255 := by simp; omega
        generalize hxx : L[k] = x at *
        obtain ⟨xd, xa, xb, xc, xe⟩ := x
        simp only [Nat.zero_add] at k0 k1 k2 k3 k4
        have hlt' : (k : Int) < (L.length : Int) := by omega
        have hgA : wr.grownBy (wr.alloc (.cells #[.int .u8 xd, .int .u64 xa, .int .u64 xb, .int .u64 xc, .int .u64 xe] 74)).drew none := grown_dr (World.grownBy_alloc wr _ none)
        have hWa := hWk.kept hgA (by simp) (by cases vk.ownBlock <;> simp)
        have hbk := hWk.lt
        have hne : some wr.heap.size ≠ vk.ownBlock := fun e => by have := (hWk.2.lt _ e.symm).2; omega
        have htk' : Hid _ := htk
        clear hall hwf htk hxx
        have hlp : (p ++ ((L.length : Int) :: layL (L.take k))).length ≤ p.length + 1 + 34 * 255 := by rw [List.length_append, List.length_cons]; omega
        go_wp2
        go_region_held2 (fun Y => Y.cell? ⟨wr.heap.size, 0, none⟩ = some (.int .u8 xd) ∧ Y.cell? ⟨wr.heap.size, 1, none⟩ = some (.int .u64 xa) ∧ Y.cell? ⟨wr.heap.size, 2, none⟩ = some (.int .u64 xb) ∧ Y.cell? ⟨wr.heap.size, 3, none⟩ = some (.int .u64 xc) ∧ Y.cell? ⟨wr.heap.size, 4, none⟩ = some (.int .u64 xe)) (go_simp) (first
          | (go_at_call 25; refine (wByte_any xd hWa (Nat.le_trans (show base ≤ wr.heap.size by omega) hgA.size) (by omega)).mono ?_; rintro e w2 ⟨rfl, v2, hW2, hF2⟩; have q2 := (hF2.block wr.heap.size (by show wr.heap.size < (wr.alloc _).heap.size; simp) (by omega) hne).trans (show (wr.alloc _).heap[wr.heap.size]? = _ from al_at rfl); obtain ⟨c2, f2⟩ := cells_of_block q2)
          | (go_at_call 30; refine (wNum_any xa xb xc xe hxw.2 hW2 (Nat.le_trans (show base ≤ wr.heap.size by omega) (Nat.le_trans hgA.size hF2.size)) (by rw [List.length_append]; simp only [List.length_cons, List.length_nil]; omega)).mono ?_; rintro e w3 ⟨rfl, v3, hW3, hF3⟩; obtain ⟨c3, f3⟩ := cells_of_block ((hF3.block wr.heap.size (Array.getElem?_eq_some_iff.1 q2).1 (by omega) (hF2.own_ne (by show wr.heap.size < (wr.alloc _).heap.size; simp) hne)).trans q2)))
        all_goals go_wp2
        all_goals go_roundw
        case rel =>
          refine ⟨k + 1, v3, by omega, by go_num, ?_, hFk.trans (WF.pre hgA (hF2.trans hF3))⟩
          rw [htk'.out]
          have e : p ++ ((L.length : Int) :: layL (L.take k)) ++ [xd] ++ (((byL (val xa xb xc xe) 32).length : Int) :: byL (val xa xb xc xe) 32) = p ++ ((L.length : Int) :: (layL (L.take k) ++ layC ⟨xd, xa, xb, xc, xe⟩)) := by
            simp [layC, layN, vl]
          rw [e] at hW3
          exact hW3
        case measure => (simp [intOf]; omega)
    · obtain rfl : k = L.length := by omega
      rw [List.take_length] at hWk
      go_wp2
      go_ret
      exact ⟨rfl, vk, hWk, hFk⟩
end Go.Proofs.Ytoikklbnbgoecaa
