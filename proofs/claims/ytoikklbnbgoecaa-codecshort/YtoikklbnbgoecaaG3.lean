
/- The reference's reader: bytes and numbers. -/
import Derived.Test.YtoikklbnbgoecaaG2
import Derived.BigQuiet
import Derived.Deep.QuietTactic
set_option linter.unusedSimpArgs false
set_option linter.unusedVariables false
namespace Go.Proofs.Ytoikklbnbgoecaa
open Go.RowKit

/-- The reference's reader in block b, of bytes in block D: those that are left, or none (it has a fault). -/
def InAt (W : World) (b : Nat) (D : Option Nat) (s : Option (List Int)) : Prop :=
  ∃ v p, ∃ k : Nat, ∃ bad : Bool, W.heap[b]? = some (.cells #[v, .int .i64 (k : Int), .bool bad] 43 (0, 0)) ∧ Byt W D v p ∧ k ≤ p.length ∧ s = if bad then none else some (p.drop k)
theorem InAt.lt {W : World} {b : Nat} {D : Option Nat} {s : Option (List Int)} (h : InAt W b D s) : b < W.heap.size := by
  obtain ⟨v, p, k, bad, h, _⟩ := h; exact (Array.getElem?_eq_some_iff.1 h).1
theorem InAt.kept {W W' : World} {b : Nat} {D : Option Nat} {s : Option (List Int)} {r : Option Nat} (h : InAt W b D s) (hg : W.grownBy W' r) (h1 : some b ≠ r) (h2 : D = none ∨ D ≠ r) : InAt W' b D s := by
  have hl := h.lt
  obtain ⟨v, p, k, bad, h, hB, hk, hs⟩ := h
  exact ⟨v, p, k, bad, (hg.block b hl h1).trans h, hB.kept hg h2, hk, hs⟩
theorem grown_dn {A B : World} {r : Option Nat} (h : A.grownBy B r) (n : Nat) : A.grownBy (B.drewN n) r := ⟨h.os, h.tape, h.output, h.size, h.block⟩
theorem byteS_cons {p : List Int} {k : Nat} (h : k < p.length) : byteS (some (p.drop k)) = (p[k], some (p.drop (k + 1))) := by
  have e : p.drop k = p[k] :: p.drop (k + 1) := List.drop_eq_getElem_cons h
  unfold byteS takeS
  simp only [List.length_drop]
  rw [if_pos (by omega)]
  have e1 : (p.drop k).take 1 = [p[k]] := by rw [e]; rfl
  have e2 : (p.drop k).drop 1 = p.drop (k + 1) := by rw [List.drop_drop]
  simp only [e1, e2]
  simp [rd]
theorem byteS_end {p : List Int} {k : Nat} (h : ¬ k < p.length) : byteS (some (p.drop k)) = (0, none) := by
  unfold byteS takeS
  simp only [List.length_drop]
  rw [if_neg (by omega)]
  rfl

set_option maxHeartbeats 2000000 in
theorem inByte_any {W : World} {b : Nat} {D : Option Nat} {s : Option (List Int)} (hD : D ≠ some b) (h : InAt W b D s) :
    Calls Try.prog 41 #[.pointer (some ⟨b, 0, none⟩)] W fun e w' => e = .returned (.int .u8 (byteS s).1) ∧ InAt w' b D (byteS s).2 ∧ W.grownBy w' (some b) := by
  obtain ⟨v, p, k, bad, hblk, hB, hk, rfl⟩ := h
  have hB' := hB
  obtain ⟨a, cap, rfl, h1, h2, h3, h4⟩ := hB
  obtain ⟨c, f⟩ := cells_of_block hblk
  have c0 := c 0
  have c1 := c 1
  have c2 := c 2
  simp only [List.getElem?_toArray, List.getElem?_cons_zero, List.getElem?_cons_succ] at c0 c1 c2
  clear c
  cases bad with
  | true =>
    go_enter Try.func41, Try.ntmps41
    go_wp2
    go_quiet (fail)
    go_wp2
    go_ret
    have hg : W.grownBy ((W.drewN nq).setCell ⟨b, 2, none⟩ (.bool true)) (some b) := grown_se (grown_dn (grown_ref _ _) _) _ _
    exact ⟨rfl, ⟨_, p, k, true, by rw [block_set (W := W.drewN nq) _ hblk]; rfl, hB'.kept hg (.inr hD), hk, rfl⟩, hg⟩
  | false =>
    by_cases hlt : k < p.length
    · obtain ⟨d, off, hdd, rfl, h5, h6⟩ := h4.resolve_left (fun e => by subst e; simp at hlt)
      have hdb : d ≠ b := fun e => hD (by rw [hdd, e])
      have hdd' : Hid _ := hdd
      clear hdd
      have hc := h6 k p[k] (by simp [hlt])
      have hd : decide ((p.length : Int) ≤ (k : Int)) = false := by rw [decide_eq_false_iff_not]; omega
      have hdn : ¬ (p.length : Int) ≤ (k : Int) := by omega
      have hkl : (k : Int) < (p.length : Int) := by omega
      have hpl : (p.length : Int) ≤ 1048576 := by omega
      simp only [Bool.false_eq_true, if_false]
      rw [byteS_cons hlt]
      have hcD : ∀ (n : Nat), ((W.drewN n).setCell ⟨b, 1, none⟩ (.int .i64 ((k : Int) + 1))).cell? ⟨d, off + k, none⟩ = some (.int .u8 p[k]) := by
        intro n
        rw [World.cell?_of_block (w := W) (a := ⟨d, off + k, none⟩) (Below.heap_setCell (W.drewN n) ⟨b, 1, none⟩ _ d hdb)]
        exact hc
      generalize hxx : p[k] = x at *
      clear h6 h4 h3
      go_enter Try.func41, Try.ntmps41
      go_wp2
      go_quiet (fail)
      revert nq; intro n1
      go_wp2
      go_quiet (fail)
      go_wp2
      go_ret
      have hg : W.grownBy (((W.drewN n1).setCell ⟨b, 1, none⟩ (.int .i64 ((k : Int) + 1))).drewN nq) (some b) := grown_dn (grown_se (grown_dn (grown_ref _ _) _) _ _) _
      exact ⟨rfl, ⟨_, p, k + 1, false, (block_set (W := W.drewN n1) _ hblk).trans (by simp), hB'.kept hg (.inr hD), by omega, rfl⟩, hg⟩
    · have hd : decide ((p.length : Int) ≤ (k : Int)) = true := by rw [decide_eq_true_iff]; omega
      have hdn : (p.length : Int) ≤ (k : Int) := by omega
      simp only [Bool.false_eq_true, if_false]
      rw [byteS_end hlt]
      go_enter Try.func41, Try.ntmps41
      go_wp2
      go_quiet (fail)
      go_wp2
      go_ret
      have hg : W.grownBy ((W.drewN nq).setCell ⟨b, 2, none⟩ (.bool true)) (some b) := grown_se (grown_dn (grown_ref _ _) _) _ _
      exact ⟨rfl, ⟨_, p, k, true, by rw [block_set (W := W.drewN nq) _ hblk]; rfl, hB'.kept hg (.inr hD), hk, rfl⟩, hg⟩

theorem InAt.opn {W : World} {b : Nat} {D : Option Nat} {s : Option (List Int)} (h : InAt W b D s) : ∃ a cap, ∃ p : List Int, ∃ k : Nat, ∃ bad : Bool, W.heap[b]? = some (.cells #[.slice a p.length cap, .int .i64 (k : Int), .bool bad] 43 (0, 0)) ∧ Byt W D (.slice a p.length cap) p ∧ k ≤ p.length ∧ p.length ≤ cap ∧ p.length ≤ 1048576 ∧ (s = if bad then none else some (p.drop k)) ∧ W.cell? ⟨b, 0, none⟩ = some (.slice a p.length cap) ∧ W.cell? ⟨b, 1, none⟩ = some (.int .i64 (k : Int)) ∧ W.cell? ⟨b, 2, none⟩ = some (.bool bad) ∧ (∀ o, W.frozen? ⟨b, o, none⟩ = false) := by
  obtain ⟨v, p, k, bad, hblk, hB, hk, hs⟩ := h
  have hB' := hB
  obtain ⟨a, cap, rfl, h1, h2, h3, h4⟩ := hB
  obtain ⟨c, f⟩ := cells_of_block hblk
  have c0 := c 0
  have c1 := c 1
  have c2 := c 2
  simp only [List.getElem?_toArray, List.getElem?_cons_zero, List.getElem?_cons_succ] at c0 c1 c2
  exact ⟨a, cap, p, k, bad, hblk, hB', hk, h1, h2, hs, c0, c1, c2, f⟩
theorem InAt.dn {W : World} {b : Nat} {D : Option Nat} {s : Option (List Int)} (h : InAt W b D s) (n : Nat) : InAt (W.drewN n) b D s := h.kept (r := none) (grown_dn (grown_ref _ _) n) (by simp) (by cases D <;> simp)
theorem RdAt.dn {W : World} {b : Nat} {D : Option Nat} {s : Option (List Int)} (h : RdAt W b D s) (n : Nat) : RdAt (W.drewN n) b D s := h.kept (r := none) (grown_dn (grown_ref _ _) n) (by simp) (by cases D <;> simp)

set_option maxHeartbeats 1000000 in
theorem inLeft_any {W : World} {b : Nat} {D : Option Nat} {s : Option (List Int)} (h : InAt W b D s) :
    Calls Try.prog 47 #[.pointer (some ⟨b, 0, none⟩)] W fun e w' => e = .returned (.int .i64 (leftS s)) ∧ ∃ n, w' = W.drewN n := by
  obtain ⟨a, cap, p, k, bad, hblk, hB, hk, h1, h2, rfl, c0, c1, c2, f⟩ := h.opn
  cases bad with
  | true =>
    go_enter Try.func47, Try.ntmps47
    go_wp2
    go_ret
    exact ⟨rfl, 0, rfl⟩
  | false =>
    simp only [Bool.false_eq_true, if_false]
    have e : leftS (some (p.drop k)) = (p.length : Int) - (k : Int) := by simp only [leftS, List.length_drop]; omega
    rw [e]
    have hw : IntKind.i64.wrap ((p.length : Int) - (k : Int)) = (p.length : Int) - (k : Int) := by rw [IntKind.wrap_i64]; omega
    go_enter Try.func47, Try.ntmps47
    go_wp2
    go_quiet (fail)
    go_wp2
    go_ret
    exact ⟨rfl, nq, rfl⟩
set_option maxHeartbeats 1000000 in
theorem inEnd_any {W : World} {b : Nat} {D : Option Nat} {s : Option (List Int)} (h : InAt W b D s) :
    Calls Try.prog 19 #[.pointer (some ⟨b, 0, none⟩)] W fun e w' => e = .returned (.bool (endS s)) ∧ ∃ n, w' = W.drewN n := by
  obtain ⟨a, cap, p, k, bad, hblk, hB, hk, h1, h2, rfl, c0, c1, c2, f⟩ := h.opn
  cases bad with
  | true =>
    go_enter Try.func19, Try.ntmps19
    go_wp2
    go_quiet (fail)
    go_wp2
    go_ret
    exact ⟨rfl, nq, rfl⟩
  | false =>
    simp only [Bool.false_eq_true, if_false]
    have e : endS (some (p.drop k)) = ((k : Int) == (p.length : Int)) := by
      by_cases hq : k = p.length
      · subst hq; simp [endS]
      · have : ((k : Int) == (p.length : Int)) = false := by rw [beq_eq_false_iff_ne]; omega
        rw [this]
        have e : p.drop k = p[k]'(by omega) :: p.drop (k + 1) := List.drop_eq_getElem_cons (by omega)
        rw [e]; rfl
    rw [e]
    clear e
    rcases Bool.eq_false_or_eq_true ((k : Int) == (p.length : Int)) with hq | hq
    all_goals
      rw [hq]
      go_enter Try.func19, Try.ntmps19
      go_wp2
      go_quiet (fail)
      go_wp2
      go_ret
      exact ⟨by simp, nq, rfl⟩
end Go.Proofs.Ytoikklbnbgoecaa
