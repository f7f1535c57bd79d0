
/- bank: right coins as a purse; what all have together; each deed told: plain facts. -/
import Derived.Test.YtgphdioolcfmmaaBK4
set_option linter.unusedSimpArgs false
set_option linter.unusedVariables false
set_option maxRecDepth 20000
namespace Go.Proofs.Ytgphdioolcfmmaa
open Go.RowKit

/-- The list of a purse from one place on. -/
def lf (z : Nat → Cn) : Nat → Nat → List Cn
  | 0, _ => []
  | k + 1, m => oneL (z m) ++ lf z k (m + 1)
theorem lf_lst (z : Nat → Cn) : ∀ k m, lst z (m + k) = lst z m ++ lf z k m
  | 0, m => by simp [lf]
  | k + 1, m => by
    have e : m + (k + 1) = (m + 1) + k := by omega
    rw [e, lf_lst z k (m + 1)]
    simp [lst, lf]
theorem lf_congr {z y : Nat → Cn} : ∀ k m, (∀ d, m ≤ d → z d = y d) → lf z k m = lf y k m
  | 0, _, _ => rfl
  | k + 1, m, h => by
    simp only [lf]
    rw [h m (Nat.le_refl _), lf_congr k (m + 1) (fun d hd => h d (by omega))]
theorem amt_cons_ne {x : Cn} {l : List Cn} {d : Int} (h : x.d ≠ d) : amt (x :: l) d = amt l d := by
  unfold amt
  rw [List.find?_cons_of_neg (by simpa using h)]
theorem amt_cons_eq {x : Cn} {l : List Cn} : amt (x :: l) x.d = x := by
  unfold amt
  rw [List.find?_cons_of_pos (by simp)]
  rfl
theorem right_cons {m : Int} {x : Cn} {l : List Cn} (h : rightFrom m (x :: l) = true) : m ≤ x.d ∧ x.d < 8 ∧ eq4 x.a x.b x.c x.e 0 0 0 0 = false ∧ rightFrom (x.d + 1) l = true := by
  unfold rightFrom at h
  split at h
  · cases h
  · split at h
    · cases h
    · split at h
      · cases h
      · rename_i h1 h2 h3
        exact ⟨by omega, by omega, by simpa using h3, h⟩
theorem right_up : ∀ {m k : Int} {l : List Cn}, rightFrom m l = true → (∀ x, l.head? = some x → k ≤ x.d) → rightFrom k l = true
  | _, _, [], _, _ => rfl
  | m, k, x :: l, h, hk => by
    obtain ⟨h1, h2, h3, h4⟩ := right_cons h
    have := hk x rfl
    unfold rightFrom
    rw [if_neg (by omega), if_neg (by omega), h3]
    simpa using h4
theorem amt_low : ∀ {m : Int} {l : List Cn} {d : Int}, rightFrom m l = true → d < m → amt l d = ⟨d, 0, 0, 0, 0⟩
  | _, [], _, _, _ => rfl
  | m, x :: l, d, h, hd => by
    obtain ⟨h1, h2, h3, h4⟩ := right_cons h
    rw [amt_cons_ne (by omega)]
    exact amt_low h4 (by omega)
theorem lf_amt : ∀ (k m : Nat) (l : List Cn), rightFrom (m : Int) l = true → m + k = 8 → lf (fun d => amt l d) k m = l
  | 0, m, [], _, _ => rfl
  | 0, m, x :: l, h, hm => by
    obtain ⟨h1, h2, -, -⟩ := right_cons h
    omega
  | k + 1, m, [], _, hm => by
    simp only [lf]
    have ih := lf_amt k (m + 1) [] rfl (by omega)
    rw [ih]
    simp [amt, oneL, eq4]
  | k + 1, m, x :: l, h, hm => by
    obtain ⟨h1, h2, h3, h4⟩ := right_cons h
    simp only [lf]
    by_cases e : x.d = (m : Int)
    · have e2 : amt (x :: l) (m : Int) = x := by rw [← e]; exact amt_cons_eq
      rw [e2, lf_congr (y := fun d => amt l d) k (m + 1) (fun d hd => amt_cons_ne (by omega))]
      have h4' : rightFrom ((m + 1 : Nat) : Int) l = true := by
        have e3 : ((m + 1 : Nat) : Int) = x.d + 1 := by omega
        rw [e3]; exact h4
      rw [lf_amt k (m + 1) l h4' (by omega)]
      unfold oneL
      rw [h3]
      rfl
    · have e2 : amt (x :: l) (m : Int) = ⟨(m : Int), 0, 0, 0, 0⟩ := by
        rw [amt_cons_ne e]
        exact amt_low h4 (by omega)
      have h5 : rightFrom ((m + 1 : Nat) : Int) (x :: l) = true := right_up h (fun y hy => by injection hy with hy; subst hy; omega)
      rw [e2, lf_amt k (m + 1) (x :: l) h5 (by omega)]
      simp [oneL, eq4]
/-- Coins that may be are the list of a purse. -/
theorem right_lst {l : List Cn} (h : rightFrom 0 l = true) : lst (fun d => amt l d) 8 = l := by
  have := lf_lst (fun d => amt l d) 8 0
  rw [Nat.zero_add] at this
  rw [this, lf_amt 8 0 l h rfl]
  rfl
theorem amt_d (l : List Cn) (d : Int) : (amt l d).d = d := by
  unfold amt
  cases hf : l.find? (fun x => x.d == d) with
  | none => rfl
  | some x => simpa using List.find?_some hf
theorem purse_amt {l : List Cn} (hwf : ∀ x ∈ l, CnWf x) : Purse (fun d => amt l d) := fun d _ => ⟨lim_amt (fun x hx => (hwf x hx).2) d, amt_d l d⟩

/-- The sum of the first numbers. -/
def sumF (f : Nat → Int) : Nat → Int
  | 0 => 0
  | n + 1 => sumF f n + f n
theorem sumF_congr {f g : Nat → Int} : ∀ n, (∀ i, i < n → f i = g i) → sumF f n = sumF g n
  | 0, _ => rfl
  | n + 1, h => by simp only [sumF]; rw [sumF_congr n (fun i hi => h i (by omega)), h n (by omega)]
theorem sumF_nonneg {f : Nat → Int} : ∀ n, (∀ i, i < n → 0 ≤ f i) → 0 ≤ sumF f n
  | 0, _ => by simp [sumF]
  | n + 1, h => by
    have h1 := sumF_nonneg n (fun i hi => h i (by omega))
    have h2 := h n (by omega)
    simp only [sumF]; omega
theorem sumF_upd {f : Nat → Int} {p : Nat} {v : Int} : ∀ n, p < n → sumF (fun i => if i = p then v else f i) n = sumF f n - f p + v
  | 0, h => by omega
  | n + 1, h => by
    simp only [sumF]
    by_cases e : p = n
    · subst e
      rw [sumF_congr (g := f) p (fun i hi => if_neg (by omega)), if_pos rfl]
      omega
    · rw [sumF_upd n (by omega), if_neg (by omega)]
      omega
theorem sumF_zero {f : Nat → Int} : ∀ n, (∀ i, i < n → f i = 0) → sumF f n = 0
  | 0, _ => rfl
  | n + 1, h => by simp only [sumF]; rw [sumF_zero n (fun i hi => h i (by omega)), h n (by omega)]; rfl
theorem sumF_one {f : Nat → Int} {n p : Nat} (h : ∀ i, i < n → 0 ≤ f i) (hp : p < n) : f p ≤ sumF f n := by
  have h1 := sumF_upd (f := f) (p := p) (v := 0) n hp
  have h2 := sumF_nonneg (f := fun i => if i = p then 0 else f i) n (fun i hi => by
    show 0 ≤ if i = p then 0 else f i
    split
    · omega
    · exact h i hi)
  omega
theorem sumF_two {f : Nat → Int} {n p q : Nat} (h : ∀ i, i < n → 0 ≤ f i) (hp : p < n) (hq : q < n) (hne : p ≠ q) : f p + f q ≤ sumF f n := by
  have h1 := sumF_upd (f := f) (p := p) (v := 0) n hp
  have h2 := sumF_one (f := fun i => if i = p then 0 else f i) (p := q) (fun i hi => by
    show 0 ≤ if i = p then 0 else f i
    split
    · omega
    · exact h i hi) hq
  simp only [if_neg hne.symm] at h2
  omega

/-- What holds of all places, whatever was done. -/
structure BInv (b : Nat → Nat → Cn) : Prop where
  pur : ∀ p, p ≤ 256 → Purse (b p)
  sum : ∀ d, d < 8 → sumF (fun p => vl (b p d)) 205 = vl (b 256 d)
  out : ∀ p d, 205 ≤ p → p < 256 → d < 8 → vl (b p d) = 0
theorem BInv.new : BInv (fun _ => zeroP) := ⟨fun _ _ => purse_zero, fun d _ => by
  rw [sumF_zero 205 (fun i _ => vl_zero d)]; exact (vl_zero d).symm, fun _ d _ _ _ => vl_zero d⟩
theorem opP_vl {f : Int → Int → Int} {z y : Nat → Cn} (d : Nat) : vl (opP f z y d) = f (vl (z d)) (vl (y d)) := cnOf_vl
theorem opP_keep {f : Int → Int → Int} {z y : Nat → Cn} (hz : Purse z) {d : Nat} (hd : d < 8) (hf : ∀ n, 0 ≤ n → f n 0 = n) (h : vl (y d) = 0) : opP f z y d = z d := by
  unfold opP
  rw [h, hf _ (vl_lo hz hd).1]
  exact (cn_one (hz d hd).1 (hz d hd).2 rfl).symm
theorem rest0 (n : Int) (h : 0 ≤ n) : restI n 0 = n := by unfold restI; rw [if_pos h]; omega
theorem add0 (n : Int) (h : 0 ≤ n) : n + 0 = n := by omega
theorem setB_at (b : Nat → Nat → Cn) (p : Nat) (z : Nat → Cn) : setB b p z p = z := if_pos rfl
theorem setB_off {b : Nat → Nat → Cn} {p q : Nat} {z : Nat → Cn} (h : q ≠ p) : setB b p z q = b q := if_neg h
theorem sum_set {b : Nat → Nat → Cn} {p : Nat} {z : Nat → Cn} (hp : p < 205) (d : Nat) : sumF (fun q => vl (setB b p z q d)) 205 = sumF (fun q => vl (b q d)) 205 - vl (b p d) + vl (z d) := by
  rw [← sumF_upd (f := fun q => vl (b q d)) (v := vl (z d)) 205 hp]
  refine sumF_congr 205 (fun i _ => ?_)
  unfold setB
  split <;> rfl
theorem sum_set' {b : Nat → Nat → Cn} {z : Nat → Cn} (d : Nat) : sumF (fun q => vl (setB b 256 z q d)) 205 = sumF (fun q => vl (b q d)) 205 :=
  sumF_congr 205 (fun i hi => by rw [setB_off (by omega)])
theorem pur_set {b : Nat → Nat → Cn} {p : Nat} {z : Nat → Cn} (h : ∀ p, p ≤ 256 → Purse (b p)) (hz : Purse z) : ∀ q, q ≤ 256 → Purse (setB b p z q) := fun q hq => by
  by_cases e : q = p
  · subst e; rw [setB_at]; exact hz
  · rw [setB_off e]; exact h q hq

/-- So much goes; so much comes. -/
def takeB (b : Nat → Nat → Cn) (p : Nat) (y : Nat → Cn) : Nat → Nat → Cn := setB b p (opP restI (b p) y)
def giveB (b : Nat → Nat → Cn) (p : Nat) (y : Nat → Cn) : Nat → Nat → Cn := setB b p (opP (· + ·) (b p) y)
def Has (b : Nat → Nat → Cn) (p : Nat) (y : Nat → Cn) : Prop := ∀ d, d < 8 → vl (y d) ≤ vl (b p d)
def Fits (b : Nat → Nat → Cn) (p : Nat) (y : Nat → Cn) : Prop := ∀ d, d < 8 → vl (b p d) + vl (y d) < 115792089237316195423570985008687907853269984665640564039457584007913129639936
section
variable {b : Nat → Nat → Cn} {y : Nat → Cn}
theorem BInv.one (h : BInv b) {p d : Nat} (hp : p < 205) (hd : d < 8) : vl (b p d) ≤ vl (b 256 d) := by
  rw [← h.sum d hd]
  exact sumF_one (f := fun q => vl (b q d)) (fun i hi => (vl_lo (h.pur i (by omega)) hd).1) hp
theorem BInv.two (h : BInv b) {p q d : Nat} (hp : p < 205) (hq : q < 205) (hne : p ≠ q) (hd : d < 8) : vl (b p d) + vl (b q d) ≤ vl (b 256 d) := by
  rw [← h.sum d hd]
  exact sumF_two (f := fun q => vl (b q d)) (fun i hi => (vl_lo (h.pur i (by omega)) hd).1) hp hq hne
theorem send_fits (h : BInv b) {p q : Nat} (hp : p < 205) (hq : q < 205) (hy : Has b p y) : Fits (takeB b p y) q y := by
  intro d hd
  have h0 := vl_lo (h.pur p (by omega)) hd
  have h1 := hy d hd
  have h2 := vl_lo (h.pur 256 (by omega)) hd
  unfold takeB
  by_cases e : q = p
  · subst e
    rw [setB_at, opP_vl]
    unfold restI
    rw [if_pos h1]
    omega
  · rw [setB_off e]
    have := h.two hp hq (Ne.symm e) hd
    omega
theorem mint_fits (h : BInv b) {q : Nat} (hq : q < 205) (hy : Fits b 256 y) : Fits (giveB b 256 y) q y := by
  intro d hd
  unfold giveB
  rw [setB_off (by omega)]
  have := h.one hq hd
  have := hy d hd
  omega
theorem burn_has (h : BInv b) {p : Nat} (hp : p < 205) (hy : Has b p y) : Has (takeB b p y) 256 y := by
  intro d hd
  unfold takeB
  rw [setB_off (by omega)]
  have := h.one hp hd
  have := hy d hd
  omega
theorem take_vl {p d : Nat} (h : vl (y d) ≤ vl (b p d)) : vl (opP restI (b p) y d) = vl (b p d) - vl (y d) := by rw [opP_vl]; unfold restI; rw [if_pos h]
theorem pur_take (h : ∀ p, p ≤ 256 → Purse (b p)) (hy : Purse y) {p : Nat} (hp : p ≤ 256) : ∀ q, q ≤ 256 → Purse (takeB b p y q) := pur_set h (purse_rest (h p hp) hy)
theorem pur_give (h : ∀ p, p ≤ 256 → Purse (b p)) (hy : Purse y) {p : Nat} (hp : p ≤ 256) (hf : Fits b p y) : ∀ q, q ≤ 256 → Purse (giveB b p y q) := pur_set h (purse_sum (h p hp) hy hf)
theorem BInv.send (h : BInv b) (hP : Purse y) {p q : Nat} (hp : p < 205) (hq : q < 205) (hy : Has b p y) : BInv (giveB (takeB b p y) q y) := by
  have hf := send_fits h hp hq hy
  have h1 := pur_take h.pur hP (p := p) (by omega)
  refine ⟨pur_give h1 hP (by omega) hf, fun d hd => ?_, fun r d h1 h2 hd => ?_⟩
  · have e1 : giveB (takeB b p y) q y 256 = b 256 := by unfold giveB takeB; rw [setB_off (by omega), setB_off (by omega)]
    rw [e1]
    unfold giveB
    rw [sum_set hq, opP_vl]
    unfold takeB
    rw [sum_set hp, take_vl (hy d hd), h.sum d hd]
    show _ - vl (setB b p (opP restI (b p) y) q d) + (vl (setB b p (opP restI (b p) y) q d) + vl (y d)) = _
    omega
  · unfold giveB takeB
    rw [setB_off (by omega), setB_off (by omega)]
    exact h.out r d h1 h2 hd
theorem BInv.mint (h : BInv b) (hP : Purse y) {q : Nat} (hq : q < 205) (hy : Fits b 256 y) : BInv (giveB (giveB b 256 y) q y) := by
  have hf := mint_fits h hq hy
  have h1 := pur_give h.pur hP (p := 256) (by omega) hy
  refine ⟨pur_give h1 hP (by omega) hf, fun d hd => ?_, fun r d h1 h2 hd => ?_⟩
  · have e1 : giveB (giveB b 256 y) q y 256 = opP (· + ·) (b 256) y := by unfold giveB; rw [setB_off (by omega), setB_at]
    rw [e1, opP_vl]
    conv => lhs; unfold giveB
    rw [sum_set hq, opP_vl]
    rw [sum_set', h.sum d hd, setB_off (show q ≠ 256 by omega)]
    show _ - vl (b q d) + (vl (b q d) + vl (y d)) = _
    omega
  · unfold giveB
    rw [setB_off (by omega), setB_off (by omega)]
    exact h.out r d h1 h2 hd
theorem BInv.burn (h : BInv b) (hP : Purse y) {p : Nat} (hp : p < 205) (hy : Has b p y) : BInv (takeB (takeB b p y) 256 y) := by
  have hf := burn_has h hp hy
  have h1 := pur_take h.pur hP (p := p) (by omega)
  refine ⟨pur_take h1 hP (by omega), fun d hd => ?_, fun r d h1 h2 hd => ?_⟩
  · have hf' := hf d hd
    have e1 : takeB b p y 256 = b 256 := by unfold takeB; rw [setB_off (by omega)]
    have e2 : takeB (takeB b p y) 256 y 256 = opP restI (takeB b p y 256) y := setB_at _ _ _
    rw [e2, take_vl hf', e1]
    conv => lhs; unfold takeB
    rw [sum_set']
    rw [sum_set hp, take_vl (hy d hd), h.sum d hd]
    omega
  · unfold takeB
    rw [setB_off (by omega), setB_off (by omega)]
    exact h.out r d h1 h2 hd
end
end Go.Proofs.Ytgphdioolcfmmaa
