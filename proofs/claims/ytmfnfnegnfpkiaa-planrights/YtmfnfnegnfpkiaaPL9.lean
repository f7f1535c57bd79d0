
/- plan: what is free at a time, as so much of each denomination: plain facts. -/
import Derived.Test.YtmfnfnegnfpkiaaPL5
import Derived.Test.YtmfnfnegnfpkiaaPL3
set_option linter.unusedSimpArgs false
set_option linter.unusedVariables false
set_option maxRecDepth 20000
namespace Go.Proofs.Ytmfnfnegnfpkiaa
open Go.RowKit

/-- Of each denomination so many parts, rounded down. -/
def evP (l : List Cn) (a b : Int) : Nat → Cn := fun d => cnOf d (vl (amP l d) * a / b)
/-- What of a plan is free at t. -/
def vestP (x : Pn) (t : Int) : Nat → Cn :=
  if x.k = 1 then (if x.e ≤ t then amP x.al else if t ≤ x.s then zeroP else evP x.al (t - x.s) (x.e - x.s))
  else if x.k = 2 then (if x.e ≤ t then amP x.al else zeroP)
  else if x.k = 3 ∨ x.k = 5 then sumP (x.pl.take (ovN x.pl x.s t).1)
  else zeroP
def lockP (x : Pn) (t : Int) : Nat → Cn := opP restI (amP x.al) (vestP x t)
theorem part_le {v a b : Int} (hv : 0 ≤ v) (ha : 0 ≤ a) (hab : a ≤ b) (hb : 0 < b) : 0 ≤ v * a / b ∧ v * a / b ≤ v := by
  refine ⟨Int.ediv_nonneg (Int.mul_nonneg hv ha) (by omega), ?_⟩
  have h1 : v * a ≤ v * b := Int.mul_le_mul_of_nonneg_left hab hv
  have h2 : v * a / b ≤ v * b / b := Int.ediv_le_ediv hb h1
  rwa [Int.mul_ediv_cancel _ (by omega)] at h2
theorem evP_vl (l : List Cn) (a b : Int) (d : Nat) : vl (evP l a b d) = vl (amP l d) * a / b := cnOf_vl
/-- The facts of a plan that may be. -/
structure PnR (x : Pn) : Prop where
  al : rightFrom 0 x.al = true
  k : x.k = 0 ∨ x.k = 1 ∨ x.k = 2 ∨ x.k = 3 ∨ x.k = 4 ∨ x.k = 5
  k0 : x.k = 0 → x.s = 0 ∧ x.e = 0 ∧ x.al = [] ∧ x.pl = []
  k1 : x.k = 1 → x.s < x.e
  gv : x.k ≠ 0 → givesB x = true
  st : x.k = 3 ∨ x.k = 5 → stepsB x = true
  np : ¬ (x.k = 3 ∨ x.k = 5) → x.pl = []
  s0 : x.k = 2 → x.s = 0
  s4 : x.k = 4 → x.s = 0 ∧ x.e = 0
theorem gives_right {x : Pn} (h : givesB x = true) : rightFrom 0 x.al = true := by
  unfold givesB at h; exact some_right (Bool.and_eq_true_iff.1 h).1
theorem right_facts {x : Pn} (h : rightB x = true) : PnR x := by
  unfold rightB at h
  split at h
  · rename_i hk
    rw [Bool.and_eq_true] at h
    refine ⟨gives_right h.1, ?_, fun e => ?_, fun e => ?_, fun _ => h.1, fun _ => h.2, fun hn => absurd hk hn, fun e => ?_, fun e => ?_⟩
    · rcases hk with e | e <;> simp [e]
    all_goals (rcases hk with e' | e' <;> omega)
  · rename_i hk
    unfold rightN at h
    split at h
    · rename_i h0
      simp only [Bool.and_eq_true, beq_iff_eq, List.isEmpty_iff] at h
      obtain ⟨⟨⟨h1, h2⟩, h3⟩, h4⟩ := h
      exact ⟨by rw [h3]; rfl, .inl h0, fun _ => ⟨h1, h2, h3, h4⟩, fun e => by omega, fun hn => absurd h0 hn, fun e => absurd e hk, fun _ => h4, fun e => by omega, fun e => by omega⟩
    · rename_i h0
      split at h
      · rename_i h1
        simp only [Bool.and_eq_true, decide_eq_true_eq, List.isEmpty_iff] at h
        obtain ⟨⟨h2, h3⟩, h4⟩ := h
        exact ⟨gives_right h3, .inr (.inl h1), fun e => by omega, fun _ => h2, fun _ => h3, fun e => absurd e hk, fun _ => h4, fun e => by omega, fun e => by omega⟩
      · split at h
        · rename_i h2
          simp only [Bool.and_eq_true, beq_iff_eq, List.isEmpty_iff] at h
          obtain ⟨⟨h3, h4⟩, h5⟩ := h
          exact ⟨gives_right h4, .inr (.inr (.inl h2)), fun e => by omega, fun e => by omega, fun _ => h4, fun e => absurd e hk, fun _ => h5, fun _ => h3, fun e => by omega⟩
        · split at h
          · rename_i h4
            simp only [Bool.and_eq_true, beq_iff_eq, List.isEmpty_iff] at h
            obtain ⟨⟨⟨h5, h6⟩, h7⟩, h8⟩ := h
            exact ⟨gives_right h7, .inr (.inr (.inr (.inr (.inl h4)))), fun e => by omega, fun e => by omega, fun _ => h7, fun e => absurd e hk, fun _ => h8, fun e => by omega, fun _ => ⟨h5, h6⟩⟩
          · cases h
/-- The facts of periods that may be. -/
structure StR (x : Pn) : Prop where
  n1 : 1 ≤ x.pl.length
  n16 : x.pl.length ≤ 16
  ok : ∀ q ∈ x.pl, 1 ≤ q.n ∧ someB q.l = true
  len : x.s + lenS x.pl = x.e
  tot : ∀ d, d < 8 → tot x.pl d = vl (amP x.al d)
theorem steps_facts {x : Pn} (h : stepsB x = true) : StR x := by
  simp only [stepsB, Bool.and_eq_true, decide_eq_true_eq, List.all_eq_true, all8_true] at h
  obtain ⟨⟨⟨⟨h1, h2⟩, h3⟩, h4⟩, h5⟩ := h
  exact ⟨h1, h2, fun q hq => by have := h3 q hq; simp only [pdR, Bool.and_eq_true, decide_eq_true_eq] at this; exact this, h4, h5⟩
theorem steps_of {x : Pn} (h : StR x) : stepsB x = true := by
  simp only [stepsB, Bool.and_eq_true, decide_eq_true_eq, List.all_eq_true, all8_true]
  exact ⟨⟨⟨⟨h.n1, h.n16⟩, fun q hq => by simp only [pdR, Bool.and_eq_true, decide_eq_true_eq]; exact h.ok q hq⟩, h.len⟩, h.tot⟩
section
variable {x : Pn} {t u : Int}
theorem al_lo (ho : PnOk x) {d : Nat} (hd : d < 8) : 0 ≤ vl (amP x.al d) ∧ vl (amP x.al d) < 115792089237316195423570985008687907853269984665640564039457584007913129639936 := vl_lo (amP_purse ho.w.al) hd
theorem vest_lo (ho : PnOk x) (hr : PnR x) (t : Int) {d : Nat} (hd : d < 8) : 0 ≤ vl (vestP x t d) ∧ vl (vestP x t d) ≤ vl (amP x.al d) := by
  have h0 := al_lo ho hd
  have hz := vl_zero d
  unfold vestP
  split
  · rename_i hk
    have := hr.k1 hk
    split
    · omega
    · split
      · omega
      · rw [evP_vl]
        exact part_le h0.1 (by omega) (by omega) (by omega)
  · split
    · split <;> omega
    · split
      · rename_i hk
        rw [sumP_vl, ← (steps_facts (hr.st hk)).tot d hd]
        exact tot_take ho.p _ hd
      · omega
theorem vest_purse (ho : PnOk x) (hr : PnR x) (t : Int) : Purse (vestP x t) := by
  have hA := amP_purse ho.w.al
  have hb := fun d (hd : d < 8) => vest_lo ho hr t hd
  have ha := fun d (hd : d < 8) => al_lo ho hd
  revert hb
  unfold vestP
  split
  · split
    · exact fun _ => hA
    · split
      · exact fun _ => purse_zero
      · intro hb d hd
        have h1 := hb d hd
        have h2 := ha d hd
        rw [evP_vl] at h1
        exact ⟨cnOf_lim h1.1 (by omega), rfl⟩
  · split
    · split
      · exact fun _ => hA
      · exact fun _ => purse_zero
    · split
      · intro hb
        refine sumP_purse (fun q hq => ho.p q (List.mem_of_mem_take hq)) fun d hd => ?_
        have h1 := hb d hd
        have h2 := ha d hd
        rw [sumP_vl] at h1
        omega
      · exact fun _ => purse_zero
theorem ovN_mono : ∀ {l : List Pd} {e t u : Int}, t ≤ u → (ovN l e t).1 ≤ (ovN l e u).1
  | [], _, _, _, _ => by simp [ovN]
  | q :: l, e, t, u, h => by
    unfold ovN
    split
    · exact Nat.zero_le _
    · rw [if_neg (by omega)]
      have := ovN_mono (l := l) (e := e + q.n) h
      simp only; omega
theorem tot_mono {l : List Pd} (h : ∀ q ∈ l, PdWf q) {i j : Nat} (hij : i ≤ j) {d : Nat} (hd : d < 8) : tot (l.take i) d ≤ tot (l.take j) d := by
  have h1 := (tot_take (l := l.take j) (fun q hq => h q (List.mem_of_mem_take hq)) i hd).2
  rwa [List.take_take, Nat.min_eq_left hij] at h1
/-- What is free stays free. -/
theorem vest_mono (ho : PnOk x) (hr : PnR x) (htu : t ≤ u) {d : Nat} (hd : d < 8) : vl (vestP x t d) ≤ vl (vestP x u d) := by
  have h0 := al_lo ho hd
  have hz := vl_zero d
  have hu := vest_lo ho hr u hd
  have ht := vest_lo ho hr t hd
  revert hu ht
  unfold vestP
  split
  · rename_i hk
    have := hr.k1 hk
    by_cases h1 : x.e ≤ u
    · rw [if_pos h1]
      intro _ h; exact h.2
    · have h1' : ¬ x.e ≤ t := by omega
      rw [if_neg h1, if_neg h1']
      by_cases h2 : t ≤ x.s
      · rw [if_pos h2]
        intro h _; omega
      · have h2' : ¬ u ≤ x.s := by omega
        rw [if_neg h2, if_neg h2']
        intro _ _
        rw [evP_vl, evP_vl]
        exact Int.ediv_le_ediv (by omega) (Int.mul_le_mul_of_nonneg_left (by omega) h0.1)
  · split
    · by_cases h1 : x.e ≤ u
      · rw [if_pos h1]; intro _ h; exact h.2
      · have h1' : ¬ x.e ≤ t := by omega
        rw [if_neg h1, if_neg h1']; intro _ _; omega
    · split
      · intro _ _
        rw [sumP_vl, sumP_vl]
        exact tot_mono ho.p (ovN_mono htu) hd
      · intro _ _; omega
/-- From its end on all is free, but of what never is. -/
theorem vest_end (ho : PnOk x) (hr : PnR x) (hk : x.k ≠ 4) (ht : x.e ≤ t) {d : Nat} (hd : d < 8) : vl (vestP x t d) = vl (amP x.al d) := by
  unfold vestP
  split
  · first | rfl | rw [if_pos ht]
  · split
    · first | rfl | rw [if_pos ht]
    · split
      · rename_i h
        have hs := steps_facts (hr.st h)
        rw [sumP_vl, ovN_all ho.p (by have := hs.len; omega), List.take_length]
        exact hs.tot d hd
      · rename_i h1 h2 h3
        have h0 : x.k = 0 := by rcases hr.k with h | h | h | h | h | h <;> omega
        rw [(hr.k0 h0).2.2.1]
        rfl
theorem vest_never (hk : x.k = 4) : vestP x t = zeroP := by
  unfold vestP; rw [if_neg (by omega), if_neg (by omega), if_neg (by omega)]
theorem ovN_zero {l : List Pd} {e t : Int} (h : ∀ q ∈ l, 1 ≤ q.n) (ht : t ≤ e) : (ovN l e t).1 = 0 := by
  cases l with
  | nil => rfl
  | cons q l =>
    have := h q (by simp)
    unfold ovN
    rw [if_pos (by omega)]
theorem vest_start (hr : PnR x) (ht : t < x.e) (hs : t ≤ x.s) (d : Nat) : vl (vestP x t d) = 0 := by
  have hz := vl_zero d
  unfold vestP
  split
  · have h1 : ¬ x.e ≤ t := by omega
    first | exact hz | (rw [if_neg h1, if_pos hs]; exact hz) | (rw [if_neg h1]; exact hz)
  · split
    · have h1 : ¬ x.e ≤ t := by omega
      first | exact hz | (rw [if_neg h1]; exact hz)
    · split
      · rename_i h
        rw [ovN_zero (fun q hq => ((steps_facts (hr.st h)).ok q hq).1) hs, List.take_zero, sumP_vl]
        rfl
      · exact hz
theorem lock_purse (ho : PnOk x) (hr : PnR x) (t : Int) : Purse (lockP x t) := purse_rest (amP_purse ho.w.al) (vest_purse ho hr t)
theorem lock_vl (ho : PnOk x) (hr : PnR x) (t : Int) {d : Nat} (hd : d < 8) : vl (lockP x t d) = vl (amP x.al d) - vl (vestP x t d) := by
  have := vest_lo ho hr t hd
  unfold lockP opP
  rw [cnOf_vl]
  unfold restI
  rw [if_pos (by omega)]
end
theorem lst_nil {z : Nat → Cn} (hz : Purse z) (h : ∀ d, d < 8 → vl (z d) = 0) : lst z 8 = [] := by
  have e : lst z 8 = lst zeroP 8 := lst_congr 8 fun d hd => by
    rw [cn_one (hz d hd).1 (hz d hd).2 (h d hd), cn_one (n := 0) (purse_zero d hd).1 (purse_zero d hd).2 (vl_zero d)]
  rw [e, lst_zero]
theorem lst_vl {z y : Nat → Cn} (hz : Purse z) (hy : Purse y) (h : ∀ d, d < 8 → vl (z d) = vl (y d)) : lst z 8 = lst y 8 := lst_congr 8 fun d hd => by
  exact (cn_one (hz d hd).1 (hz d hd).2 (h d hd)).trans (cn_one (hy d hd).1 (hy d hd).2 rfl).symm
/-- The parts of each coin are the list of the parts of each denomination. -/
theorem flat_one (f : Cn → Cn) (hf : ∀ x, (f x).d = x.d) (h0 : ∀ x, eq4 x.a x.b x.c x.e 0 0 0 0 = true → eq4 (f x).a (f x).b (f x).c (f x).e 0 0 0 0 = true) {z : Nat → Cn} (hz : Purse z) : ∀ k, k ≤ 8 → (lst z k).flatMap (fun x => oneD (f x)) = lst (fun d => f (z d)) k
  | 0, _ => rfl
  | k + 1, hk => by
    simp only [lst]
    rw [List.flatMap_append, flat_one f hf h0 hz k (by omega)]
    congr 1
    have hd := (hz k (by omega)).2
    unfold oneL
    split
    · rename_i h
      rw [if_pos (h0 _ h)]
      rfl
    · simp only [List.flatMap_cons, List.flatMap_nil, List.append_nil]
      unfold oneD
      rw [if_neg (by rw [hf, hd]; omega)]
      rfl
theorem ev_flat {al ys : List Cn} {a b : Int} (hwf : ∀ x ∈ al, CnWf x) (hr : rightFrom 0 al = true) (hl : ys.length = al.length) (h : ∀ (i : Nat) x y, al[i]? = some x → ys[i]? = some y → EvC a b x y) (ha : 0 ≤ a) (hab : a ≤ b) (hb : 0 < b) : ys.flatMap oneD = lst (evP al a b) 8 := by
  have hys : ys = al.map (fun x => ({cnOf 0 (vl x * a / b) with d := x.d} : Cn)) := by
    refine List.ext_getElem? fun i => ?_
    rw [List.getElem?_map]
    by_cases hi : i < al.length
    · have e1 := List.getElem?_eq_getElem hi
      have e2 := List.getElem?_eq_getElem (show i < ys.length by omega)
      rw [e1, e2]
      obtain ⟨h1, h2, h3⟩ := h i _ _ e1 e2
      have hx := hwf al[i] (List.getElem_mem hi)
      have hp := part_le (a := a) (b := b) (val_lo hx.2) ha hab hb
      have hv := val_hi hx.2
      generalize ys[i] = y at *
      generalize al[i] = x at *
      have hc := cnOf_vl (d := 0) (n := vl x * a / b)
      obtain ⟨e0, e1', e2', e3⟩ := val_inj h2 (cnOf_lim (d := 0) (n := vl x * a / b) hp.1 (by unfold vl; omega)) (show vl y = vl (cnOf 0 (vl x * a / b)) by rw [hc, h3])
      cases y
      simp only at h1 e0 e1' e2' e3
      simp only [Option.map_some]
      rw [h1, e0, e1', e2', e3]
    · rw [List.getElem?_eq_none (by omega), List.getElem?_eq_none (by omega)]
      rfl
  rw [hys, List.flatMap_map]
  have hz := amP_purse hwf
  have e := flat_one (fun x => ({cnOf 0 (vl x * a / b) with d := x.d} : Cn)) (fun _ => rfl) (fun x hx => ?_) hz 8 (Nat.le_refl _)
  · rw [amP_lst hr] at e
    rw [e]
    exact lst_congr 8 fun d hd => by
      have := (hz d hd).2
      simp only [evP, cnOf]
      rw [this]
  · rw [eq4_true] at hx
    have : vl x = 0 := by unfold vl; rw [hx.1, hx.2.1, hx.2.2.1, hx.2.2.2]; exact val0
    rw [this]
    simp [cnOf, eq4]
end Go.Proofs.Ytmfnfnegnfpkiaa
