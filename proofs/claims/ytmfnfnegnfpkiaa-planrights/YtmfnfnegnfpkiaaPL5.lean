
/- plan: what periods have together, how many are over, may a plan be: plain facts. -/
import Derived.Test.YtmfnfnegnfpkiaaPL2
import Derived.Test.YtmfnfnegnfpkiaaC18
set_option linter.unusedSimpArgs false
set_option linter.unusedVariables false
set_option maxRecDepth 20000
namespace Go.Proofs.Ytmfnfnegnfpkiaa
open Go.RowKit

/-- A list as so much of each denomination. -/
def amP (l : List Cn) : Nat → Cn := fun d => amt l d
theorem amP_lst {l : List Cn} (h : rightFrom 0 l = true) : lst (amP l) 8 = l := right_lst h
theorem amP_purse {l : List Cn} (h : ∀ x ∈ l, CnWf x) : Purse (amP l) := purse_amt h
/-- What periods have together of a denomination. -/
def tot : List Pd → Nat → Int
  | [], _ => 0
  | q :: l, d => vl (amP q.l d) + tot l d
def sumP (l : List Pd) : Nat → Cn := fun d => cnOf d (tot l d)
structure PdWf (x : Pd) : Prop where
  n : 0 ≤ x.n ∧ x.n < 18446744073709551616
  l : ∀ y ∈ x.l, CnWf y
theorem tot_app : ∀ (l m : List Pd) (d : Nat), tot (l ++ m) d = tot l d + tot m d
  | [], m, d => by simp [tot]
  | q :: l, m, d => by simp only [List.cons_append, tot]; rw [tot_app l m d]; omega
theorem tot_snoc (l : List Pd) (q : Pd) (d : Nat) : tot (l ++ [q]) d = tot l d + vl (amP q.l d) := by rw [tot_app]; simp [tot]
theorem tot_lo : ∀ {l : List Pd} (_ : ∀ q ∈ l, PdWf q) {d : Nat} (_ : d < 8), 0 ≤ tot l d
  | [], _, _, _ => by simp [tot]
  | q :: l, h, d, hd => by
    have h1 := tot_lo (l := l) (fun x hx => h x (by simp [hx])) hd
    have h2 := vl_lo (amP_purse (h q (by simp)).l) hd
    simp only [tot]; omega
theorem tot_take {l : List Pd} (h : ∀ q ∈ l, PdWf q) (i : Nat) {d : Nat} (hd : d < 8) : 0 ≤ tot (l.take i) d ∧ tot (l.take i) d ≤ tot l d := by
  have h1 : tot l d = tot (l.take i) d + tot (l.drop i) d := by rw [← tot_app, List.take_append_drop]
  have h2 := tot_lo (l := l.take i) (fun q hq => h q (List.mem_of_mem_take hq)) hd
  have h3 := tot_lo (l := l.drop i) (fun q hq => h q (List.mem_of_mem_drop hq)) hd
  omega
theorem sumP_purse {l : List Pd} (h : ∀ q ∈ l, PdWf q) (hf : ∀ d, d < 8 → tot l d < 115792089237316195423570985008687907853269984665640564039457584007913129639936) : Purse (sumP l) := fun d hd => ⟨cnOf_lim (tot_lo h hd) (hf d hd), rfl⟩
theorem sumP_vl (l : List Pd) (d : Nat) : vl (sumP l d) = tot l d := cnOf_vl
theorem sumP_nil : lst (sumP []) 8 = [] := by
  rw [lst_congr (y := zeroP) 8 (fun d _ => ?_), lst_zero]
  simp [sumP, tot, cnOf, zeroP]
theorem sumP_snoc (l : List Pd) (q : Pd) : opP (· + ·) (sumP l) (amP q.l) = sumP (l ++ [q]) := by
  funext d
  simp only [opP, sumP_vl]
  unfold sumP
  rw [tot_snoc]
/-- How long periods are together. -/
def lenS : List Pd → Int
  | [] => 0
  | q :: l => q.n + lenS l
theorem lenS_app : ∀ (l m : List Pd), lenS (l ++ m) = lenS l + lenS m
  | [], m => by simp [lenS]
  | q :: l, m => by simp only [List.cons_append, lenS]; rw [lenS_app l m]; omega
theorem lenS_snoc (l : List Pd) (q : Pd) : lenS (l ++ [q]) = lenS l + q.n := by rw [lenS_app]; simp [lenS]
theorem lenS_lo : ∀ {l : List Pd} (_ : ∀ q ∈ l, PdWf q), 0 ≤ lenS l
  | [], _ => by simp [lenS]
  | q :: l, h => by
    have h1 := lenS_lo (l := l) (fun x hx => h x (by simp [hx]))
    have h2 := (h q (by simp)).n
    simp only [lenS]; omega
theorem lenS_take {l : List Pd} (h : ∀ q ∈ l, PdWf q) (i : Nat) : 0 ≤ lenS (l.take i) ∧ lenS (l.take i) ≤ lenS l := by
  have h1 : lenS l = lenS (l.take i) + lenS (l.drop i) := by rw [← lenS_app, List.take_append_drop]
  have h2 := lenS_lo (l := l.take i) (fun q hq => h q (List.mem_of_mem_take hq))
  have h3 := lenS_lo (l := l.drop i) (fun q hq => h q (List.mem_of_mem_drop hq))
  omega
/-- How many periods from e on are over at t, and when the last one was. -/
def ovN : List Pd → Int → Int → Nat × Int
  | [], e, _ => (0, e)
  | q :: l, e, t => if t < e ∨ t - e < q.n then (0, e) else ((ovN l (e + q.n) t).1 + 1, (ovN l (e + q.n) t).2)
theorem ovN_le : ∀ (l : List Pd) (e t : Int), (ovN l e t).1 ≤ l.length
  | [], _, _ => by simp [ovN]
  | q :: l, e, t => by
    unfold ovN
    split
    · simp
    · have := ovN_le l (e + q.n) t; simp only [List.length_cons]; omega
theorem ovN_end : ∀ (l : List Pd) (e t : Int), (ovN l e t).2 = e + lenS (l.take (ovN l e t).1)
  | [], _, _ => by simp [ovN, lenS]
  | q :: l, e, t => by
    unfold ovN
    split
    · simp [lenS]
    · have := ovN_end l (e + q.n) t
      simp only [List.take_succ_cons, lenS]; omega
theorem ovN_t : ∀ (l : List Pd) (e t : Int), e ≤ t → (ovN l e t).2 ≤ t
  | [], _, _, h => by simpa [ovN] using h
  | q :: l, e, t, h => by
    unfold ovN
    split
    · exact h
    · exact ovN_t l _ t (by omega)
theorem ovN_all : ∀ {l : List Pd} {e t : Int}, (∀ q ∈ l, PdWf q) → e + lenS l ≤ t → (ovN l e t).1 = l.length
  | [], _, _, _, _ => by simp [ovN]
  | q :: l, e, t, h, ht => by
    have hl := lenS_lo (l := l) (fun x hx => h x (by simp [hx]))
    have hq := (h q (by simp)).n
    simp only [lenS] at ht
    unfold ovN
    rw [if_neg (by omega)]
    simp only [List.length_cons]
    rw [ovN_all (fun x hx => h x (by simp [hx])) (by omega)]
theorem ovN_full {l : List Pd} {e t : Int} (h : ∀ q ∈ l, PdWf q) : (decide ((ovN l e t).1 = l.length) && decide ((ovN l e t).2 = t)) = decide (e + lenS l = t) := by
  by_cases ht : e + lenS l = t
  · have h1 := ovN_all h (show e + lenS l ≤ t by omega)
    have h2 := ovN_end l e t
    rw [h1, List.take_length] at h2
    rw [decide_eq_true h1, decide_eq_true (by omega : (ovN l e t).2 = t), decide_eq_true ht]; rfl
  · rw [decide_eq_false ht]
    by_cases h1 : (ovN l e t).1 = l.length
    · have h2 := ovN_end l e t
      rw [h1, List.take_length] at h2
      rw [decide_eq_false (by omega : ¬ (ovN l e t).2 = t), Bool.and_false]
    · rw [decide_eq_false h1, Bool.false_and]
/-- Are a period's length and coins such as may be? -/
def pdR (q : Pd) : Bool := decide (1 ≤ q.n) && someB q.l
/-- Are the first eight numbers the same? -/
def all8 (f g : Nat → Int) : Bool := (List.range 8).all fun d => decide (f d = g d)
theorem all8_true {f g : Nat → Int} : all8 f g = true ↔ ∀ d, d < 8 → f d = g d := by simp [all8]
/-- The periods' part of whether a plan may be. -/
def stepsB (x : Pn) : Bool := decide (1 ≤ x.pl.length) && decide (x.pl.length ≤ 16) && x.pl.all pdR && decide (x.s + lenS x.pl = x.e) && all8 (tot x.pl) (fun d => vl (amP x.al d))
/-- May a plan be? -/
def rightB (x : Pn) : Bool := if x.k = 3 ∨ x.k = 5 then givesB x && stepsB x else rightN x
structure PnOk (x : Pn) : Prop where
  w : PnWf x
  p : ∀ q ∈ x.pl, PdWf q
theorem some_right {l : List Cn} (h : someB l = true) : rightFrom 0 l = true := by
  unfold someB at h; exact (Bool.and_eq_true_iff.1 h).2
theorem some_len {l : List Cn} (h : someB l = true) : l.length ≤ 8 := by
  rw [← amP_lst (some_right h)]; exact lst_len _ 8
theorem IsCL.coins {W : World} {v : Value} {l : List Cn} (h : IsCL W v l) (hl : l.length ≤ 1048576) : IsCoins W v l := by
  rcases h with h | ⟨blk, off, cap, hv, hne, -, r⟩
  · exact .inl h
  · exact .inr ⟨blk, off, cap, hv, hne, hl, r⟩
theorem IsCL.lst {W : World} {v : Value} {l : List Cn} (h : IsCL W v l) (hs : rightFrom 0 l = true) : IsCoins W v (lst (amP l) 8) := by
  have hl := amP_lst hs
  rw [hl]
  exact h.coins (by rw [← hl]; have := lst_len (amP l) 8; omega)
theorem allB_eq {z y : Nat → Cn} (hz : Purse z) (hy : Purse y) : allB eqB (lst z 8) (lst y 8) 8 = all8 (fun d => vl (z d)) (fun d => vl (y d)) := by
  by_cases h : ∀ d, d < 8 → vl (z d) = vl (y d)
  · rw [all8_true.2 h]
    exact allB_full hz hy (fun d hd => decide_eq_true (h d hd)) 8 (Nat.le_refl _)
  · rw [Bool.eq_false_iff.2 fun e => h (all8_true.1 e)]
    have h' : ∃ d, d < 8 ∧ vl (z d) ≠ vl (y d) := Classical.byContradiction fun hc => h fun d hd => Classical.byContradiction fun e => hc ⟨d, hd, e⟩
    obtain ⟨d, hd, e⟩ := h'
    exact allB_not hz hy ⟨d, hd, decide_eq_false e⟩
end Go.Proofs.Ytmfnfnegnfpkiaa
