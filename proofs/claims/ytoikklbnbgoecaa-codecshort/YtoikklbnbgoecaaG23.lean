
/- What was laid is read, and what is cut short is a fault: plain facts. -/
import Derived.Test.YtoikklbnbgoecaaG22
import Derived.Test.YtoikklbnbgoecaaG16
set_option linter.unusedSimpArgs false
set_option linter.unusedVariables false
namespace Go.Proofs.Ytoikklbnbgoecaa
open Go.RowKit

theorem takeS_app (a r : List Int) : takeS (some (a ++ r)) a.length = (a, some r) := by simp [takeS]
theorem takeS_short {a : List Int} {n : Nat} (h : a.length < n) : takeS (some a) n = ([], none) := by simp [takeS]; omega
theorem byteS_app (x : Int) (r : List Int) : byteS (some (x :: r)) = (x, some r) := by
  have h := takeS_app [x] r
  unfold byteS
  simp only [List.length_cons, List.length_nil, List.cons_append, List.nil_append] at h
  rw [h]; simp [rd]
theorem byteS_nil : byteS (some []) = (0, none) := by
  unfold byteS; rw [takeS_short (by simp)]; rfl
theorem nS_none : nS none = (0, none) := by decide
theorem numS_be (n : Int) (k : Nat) (r : List Int) : (numS (some (be n k ++ r)) k).2 = some r := by
  have h := takeS_app (be n k) r
  rw [be_len] at h
  unfold numS; rw [h]
theorem numS_cut {a : List Int} {k : Nat} (h : a.length < k) : (numS (some a) k).2 = none := by unfold numS; rw [takeS_short h]
theorem flagS_app (b : Bool) (r : List Int) : (flagS (some (flI b :: r))).2 = some r := by
  unfold flagS; rw [byteS_app]; cases b <;> simp [flI]
theorem flagS_nil : (flagS (some [])).2 = none := by unfold flagS; rw [byteS_nil]; simp
theorem goodB_byL (n : Int) : goodB (byL n 32) = true := by
  have h := byL_good n 32
  have hl := byL_len n 32
  unfold goodB
  simp only [Bool.and_eq_true, decide_eq_true_eq, bne_iff_ne, ne_eq]
  refine ⟨hl, fun e => ?_⟩
  have := h.2 0 (by rw [List.head?_eq_getElem?]; exact e)
  omega
theorem nS_app {n : Int} (h0 : 0 ≤ n) (h1 : n < 115792089237316195423570985008687907853269984665640564039457584007913129639936) (r : List Int) : nS (some (layN n ++ r)) = (n, some r) := by
  unfold nS layN
  rw [List.cons_append, byteS_app]
  simp only [Int.toNat_natCast]
  rw [takeS_app, if_pos (goodB_byL n), rd_byL32 h0 h1]
theorem nS_cut {n : Int} {m : Nat} (h : m < (layN n).length) : nS (some ((layN n).take m)) = (0, none) ∨ (nS (some ((layN n).take m))).2 = none := by
  right
  cases m with
  | zero => simp only [List.take_zero]; unfold nS; rw [byteS_nil]; decide
  | succ m =>
    have hl : m < (byL n 32).length := by simp [layN] at h; omega
    unfold nS layN
    rw [List.take_succ_cons, byteS_app]
    simp only [Int.toNat_natCast]
    rw [takeS_short (by simp; omega)]
    simp [goodB]
theorem nS_cut2 {n : Int} {m : Nat} (h : m < (layN n).length) : (nS (some ((layN n).take m))).2 = none := by
  rcases nS_cut h with h | h
  · rw [h]
  · exact h
theorem cnI_vl {c : Cn} (h : CnWf c) : cnI c.d (vl c) = c := by
  obtain ⟨-, h⟩ := h
  obtain ⟨d, a, b, e, f⟩ := c
  unfold Lim at h
  simp only at h
  unfold cnI vl val
  simp only [Cn.mk.injEq, true_and]
  refine ⟨by omega, by omega, by omega, by omega⟩
theorem vl_lim {c : Cn} (h : CnWf c) : 0 ≤ vl c ∧ vl c < 115792089237316195423570985008687907853269984665640564039457584007913129639936 := ⟨val_lo h.2, val_hi h.2⟩
theorem cl_app : ∀ (L l : List Cn) (r : List Int), (∀ x ∈ L, CnWf x) → cl L.length l (some (layL L ++ r)) = (l ++ L, some r)
  | [], l, r, _ => by simp [cl, layL]
  | c :: L, l, r, h => by
    have hc := h c (by simp)
    rw [List.length_cons, layL_cons, List.append_assoc, layC, List.cons_append, cl, byteS_app, nS_app (vl_lim hc).1 (vl_lim hc).2]
    simp only
    rw [cl_app L _ r (fun x hx => h x (by simp [hx])), cnI_vl hc]
    simp
theorem cl_cut : ∀ (L l : List Cn) (m : Nat), (∀ x ∈ L, CnWf x) → m < (layL L).length → (cl L.length l (some ((layL L).take m))).2 = none
  | [], l, m, _, hm => by simp [layL] at hm
  | c :: L, l, m, h, hm => by
    have hc := h c (by simp)
    rw [List.length_cons, layL_cons, layC, List.cons_append]
    cases m with
    | zero =>
      rw [List.take_zero, cl, byteS_nil]
      simp only
      rw [nS_none]
      simp only
      rw [cl_none]
    | succ m =>
      rw [List.take_succ_cons, cl, byteS_app]
      simp only
      by_cases hh : m < (layN (vl c)).length
      · rw [List.take_append_of_le_length (by omega), nS_cut2 hh, cl_none]
      · obtain ⟨k, hk⟩ : ∃ k, m = (layN (vl c)).length + k := ⟨m - (layN (vl c)).length, by omega⟩
        rw [hk, List.take_length_add_append, nS_app (vl_lim hc).1 (vl_lim hc).2]
        simp only
        refine cl_cut L _ k (fun x hx => h x (by simp [hx])) ?_
        rw [layL_cons, List.length_append, layC, List.length_cons] at hm
        omega
theorem lst_rt {z : Nat → Cn} (hz : Purse z) : ∀ k, k ≤ 8 → RightP (lst z k)
  | 0, _ => by intro i x hi; simp [lst] at hi
  | k + 1, hk => by
    have ih := lst_rt hz k (by omega)
    intro i x hi
    simp only [lst] at hi ⊢
    by_cases hlt : i < (lst z k).length
    · rw [List.getElem?_append_left hlt] at hi
      obtain ⟨h1, h2, h3⟩ := ih i x hi
      refine ⟨h1, h2, fun j y hj hy => h3 j y hj ?_⟩
      rw [List.getElem?_append_left (by omega)] at hy
      exact hy
    · rw [List.getElem?_append_right (by omega)] at hi
      have hm : x ∈ oneL (z k) := List.mem_of_getElem? hi
      have hi0 : i - (lst z k).length = 0 := by
        have h1 : (oneL (z k)).length ≤ 1 := by unfold oneL; split <;> simp
        have h2 := (List.getElem?_eq_some_iff.1 hi).1
        omega
      unfold oneL at hm
      split at hm
      · simp at hm
      · rename_i hq
        rw [List.mem_singleton] at hm
        subst hm
        refine ⟨?_, by simpa using hq, fun j y hj hy => ?_⟩
        · rw [(hz k (by omega)).2]; omega
        · rw [List.getElem?_append_left (by omega)] at hy
          obtain ⟨e, he, rfl, -⟩ := lst_mem k y (List.mem_of_getElem? hy)
          rw [(hz e (by omega)).2, (hz k (by omega)).2]; omega
theorem lst_rf {z : Nat → Cn} (hz : Purse z) : rightFrom 0 (lst z 8) = true :=
  (rightFrom_iff _ 0).2 (fun i x hi => ⟨lst_rt hz 8 (Nat.le_refl _) i x hi, (lst_below hz x (List.mem_of_getElem? hi)).1⟩)
theorem coinsS_app {L : List Cn} (h : ∀ x ∈ L, CnWf x) (hr : rightFrom 0 L = true) (r : List Int) : (coinsS (some (((L.length : Int) :: layL L) ++ r))).2 = some r := by
  unfold coinsS
  rw [List.cons_append, byteS_app]
  simp only [Int.toNat_natCast]
  rw [cl_app L [] r h]
  simp [hr]
theorem coinsS_cut {L : List Cn} (h : ∀ x ∈ L, CnWf x) {m : Nat} (hm : m < ((L.length : Int) :: layL L).length) : (coinsS (some (((L.length : Int) :: layL L).take m))).2 = none := by
  cases m with
  | zero =>
    unfold coinsS
    rw [List.take_zero, byteS_nil]
    simp [cl]
  | succ m =>
    unfold coinsS
    rw [List.take_succ_cons, byteS_app]
    simp only [Int.toNat_natCast]
    rw [cl_cut L [] m h (by simp at hm; omega)]
    simp
/-- A part: its kind, its number, its coins (as they lie, and which they are). -/
structure Pt where
  k : Int
  x0 : Int
  x1 : Int
  x2 : Int
  x3 : Int
  a : Option Addr
  n : Nat
  cap : Nat
  L : List Cn
def layP (y : Pt) : List Int :=
  if y.k % 6 = 0 then [y.x0 % 256] else if y.k % 6 = 1 then [flI (y.x0.tmod 2 == 1)] else if y.k % 6 = 2 then be (y.x0 % 65536) 2 else if y.k % 6 = 3 then be y.x0 8 else if y.k % 6 = 4 then layN (val y.x0 y.x1 y.x2 y.x3)
  else ((lst (ofP y.L) 8).length : Int) :: layL (lst (ofP y.L) 8)
def Ok (y : Pt) : Prop := (0 ≤ y.k ∧ y.k ≤ 255) ∧ Lim y.x0 y.x1 y.x2 y.x3 ∧ ∀ x ∈ y.L, CnWf x
theorem layP_read {y : Pt} (h : Ok y) (r : List Int) : rdS (some (layP y ++ r)) (coinsS (some (layP y ++ r))).2 (y.k % 6) = some r := by
  obtain ⟨hk, hx, hL⟩ := h
  have hp := purse_of y.L (fun x hx => (hL x hx).2)
  unfold rdS layP
  rcases (show y.k % 6 = 0 ∨ y.k % 6 = 1 ∨ y.k % 6 = 2 ∨ y.k % 6 = 3 ∨ y.k % 6 = 4 ∨ y.k % 6 = 5 by omega) with e | e | e | e | e | e <;> rw [e]
  · simp only [if_true, List.cons_append, List.nil_append, byteS_app]
  · simp only [if_true, List.cons_append, List.nil_append]; simp; exact flagS_app _ _
  · simp [numS_be]
  · simp [numS_be]
  · simp [nS_app (val_lo hx) (val_hi hx)]
  · simp only [show ¬ (5 : Int) = 0 by omega, show ¬ (5 : Int) = 1 by omega, show ¬ (5 : Int) = 2 by omega, show ¬ (5 : Int) = 3 by omega, show ¬ (5 : Int) = 4 by omega, if_false]
    exact coinsS_app (lst_wf hp) (lst_rf hp) r
theorem layP_cut {y : Pt} (h : Ok y) {m : Nat} (hm : m < (layP y).length) : rdS (some ((layP y).take m)) (coinsS (some ((layP y).take m))).2 (y.k % 6) = none := by
  obtain ⟨hk, hx, hL⟩ := h
  have hp := purse_of y.L (fun x hx => (hL x hx).2)
  unfold rdS layP at *
  rcases (show y.k % 6 = 0 ∨ y.k % 6 = 1 ∨ y.k % 6 = 2 ∨ y.k % 6 = 3 ∨ y.k % 6 = 4 ∨ y.k % 6 = 5 by omega) with e | e | e | e | e | e <;> rw [e] at hm ⊢
  · obtain rfl : m = 0 := by simpa using hm
    simp only [if_true, List.take_zero, byteS_nil]
  · obtain rfl : m = 0 := by simpa using hm
    simp only [List.take_zero, flagS_nil]; simp
  · simp only [show ¬ (2 : Int) = 0 by omega, show ¬ (2 : Int) = 1 by omega, if_false, if_true] at hm ⊢
    rw [be_len] at hm
    exact numS_cut (by rw [List.length_take]; omega)
  · simp only [show ¬ (3 : Int) = 0 by omega, show ¬ (3 : Int) = 1 by omega, show ¬ (3 : Int) = 2 by omega, if_false, if_true] at hm ⊢
    rw [be_len] at hm
    exact numS_cut (by rw [List.length_take]; omega)
  · simp only [show ¬ (4 : Int) = 0 by omega, show ¬ (4 : Int) = 1 by omega, show ¬ (4 : Int) = 2 by omega, show ¬ (4 : Int) = 3 by omega, if_false, if_true] at hm ⊢
    exact nS_cut2 hm
  · simp only [show ¬ (5 : Int) = 0 by omega, show ¬ (5 : Int) = 1 by omega, show ¬ (5 : Int) = 2 by omega, show ¬ (5 : Int) = 3 by omega, show ¬ (5 : Int) = 4 by omega, if_false] at hm ⊢
    exact coinsS_cut (lst_wf hp) hm
theorem layP_len (y : Pt) : (layP y).length ≤ 300 ∧ 0 < (layP y).length := by
  unfold layP
  have h1 := layN_len (val y.x0 y.x1 y.x2 y.x3)
  have h2 := layL_len (lst (ofP y.L) 8)
  have h3 := lst_len (ofP y.L) 8
  have h4 : 0 < (layN (val y.x0 y.x1 y.x2 y.x3)).length := by simp [layN]
  split
  · simp
  · split
    · simp
    · split
      · rw [be_len]; omega
      · split
        · rw [be_len]; omega
        · split
          · omega
          · rw [List.length_cons]; omega
def layA (l : List Pt) : List Int := l.flatMap layP
theorem layA_cons (y : Pt) (l : List Pt) : layA (y :: l) = layP y ++ layA l := rfl
theorem layA_len (l : List Pt) : (layA l).length ≤ 300 * l.length := by
  induction l with
  | nil => simp [layA]
  | cons y l ih => have := layP_len y; rw [layA_cons, List.length_append, List.length_cons]; omega
theorem layA_pos {l : List Pt} (h : l ≠ []) : 0 < (layA l).length := by
  match l, h with
  | y :: l, _ => have := layP_len y; rw [layA_cons, List.length_append]; omega
/-- What is left of bytes that were cut short, behind some parts: a fault, or some that aren't all. -/
def Cutd (s : Option (List Int)) (l : List Pt) : Prop := s = none ∨ ∃ m, m < (layA l).length ∧ s = some ((layA l).take m)
theorem cut_step {s : Option (List Int)} {y : Pt} {l : List Pt} (hy : Ok y) (h : Cutd s (y :: l)) : Cutd (rdS s (coinsS s).2 (y.k % 6)) l := by
  rcases h with rfl | ⟨m, hm, rfl⟩
  · left
    have e : (coinsS none).2 = none := by decide
    rw [e]; exact rdS_none _
  · rw [layA_cons] at hm ⊢
    by_cases hh : m < (layP y).length
    · left
      rw [List.take_append_of_le_length (by omega)]
      exact layP_cut hy hh
    · right
      obtain ⟨k, hk⟩ : ∃ k, m = (layP y).length + k := ⟨m - (layP y).length, by omega⟩
      refine ⟨k, by rw [List.length_append] at hm; omega, ?_⟩
      rw [hk, List.take_length_add_append]
      exact layP_read hy _
end Go.Proofs.Ytoikklbnbgoecaa
