
/- bank: all balances together. -/
import Derived.Test.YtgphdioolcfmmaaBM5
set_option linter.unusedSimpArgs false
set_option linter.unusedVariables false
set_option maxRecDepth 20000
namespace Go.Proofs.Ytgphdioolcfmmaa
open Go.RowKit

def sumL (f : Nat → Int) : List Nat → Int
  | [] => 0
  | p :: r => f p + sumL f r
theorem sumL_app (f : Nat → Int) : ∀ a b : List Nat, sumL f (a ++ b) = sumL f a + sumL f b
  | [], b => by simp [sumL]
  | p :: a, b => by simp only [List.cons_append, sumL]; rw [sumL_app f a b]; omega
theorem sumL_nonneg {f : Nat → Int} : ∀ a : List Nat, (∀ p ∈ a, 0 ≤ f p) → 0 ≤ sumL f a
  | [], _ => by simp [sumL]
  | p :: a, h => by
    have h1 := sumL_nonneg a (fun q hq => h q (by simp [hq]))
    have h2 := h p (by simp)
    simp only [sumL]; omega
theorem sumL_asF {b : Nat → Nat → Cn} (hb : ∀ p, p ≤ 256 → Purse (b p)) {d : Nat} (hd : d < 8) : ∀ k, k ≤ 205 → sumL (fun p => vl (b p d)) (asF b k 0) = sumF (fun p => vl (b p d)) k
  | 0, _ => rfl
  | k + 1, hk => by
    rw [asF_snoc, sumL_app, sumL_asF hb hd k (by omega), Nat.zero_add]
    simp only [sumF]
    by_cases e : lst (b k) 8 = []
    · rw [if_pos e, noneP (hb k (by omega)) e d hd]; rfl
    · rw [if_neg e]; simp [sumL]
/-- What some addresses have together. -/
def sumP (b : Nat → Nat → Cn) (ps : List Nat) : Nat → Cn := fun d => cnOf d (sumL (fun p => vl (b p d)) ps)
theorem sumP_vl (b : Nat → Nat → Cn) (ps : List Nat) (d : Nat) : vl (sumP b ps d) = sumL (fun p => vl (b p d)) ps := cnOf_vl
section
variable {b : Nat → Nat → Cn}
theorem sumP_le (hI : BInv b) {ps qs : List Nat} (h : ps ++ qs = asF b 205 0) {d : Nat} (hd : d < 8) : 0 ≤ sumL (fun p => vl (b p d)) ps ∧ sumL (fun p => vl (b p d)) ps ≤ vl (b 256 d) := by
  have hm : ∀ p ∈ asF b 205 0, 0 ≤ vl (b p d) := fun p hp => by
    have := (asF_mem 205 0).1 hp
    exact (vl_lo (hI.pur p (by omega)) hd).1
  have h1 := sumL_nonneg (f := fun p => vl (b p d)) ps (fun p hp => hm p (by rw [← h]; simp [hp]))
  have h2 := sumL_nonneg (f := fun p => vl (b p d)) qs (fun p hp => hm p (by rw [← h]; simp [hp]))
  have h3 := sumL_asF hI.pur hd 205 (Nat.le_refl _)
  rw [← h, sumL_app] at h3
  have h4 := hI.sum d hd
  exact ⟨h1, by omega⟩
theorem purse_sumP (hI : BInv b) {ps qs : List Nat} (h : ps ++ qs = asF b 205 0) : Purse (sumP b ps) := fun d hd => by
  have h1 := sumP_le hI h hd
  have h2 := vl_lo (hI.pur 256 (by omega)) hd
  exact ⟨cnOf_lim h1.1 (by omega), rfl⟩
theorem sumP_nil : lst (sumP b []) 8 = [] := lst_nil (fun d _ => ⟨cnOf_lim (by simp [sumL]) (by simp [sumL]), rfl⟩) (fun d _ => by rw [sumP_vl]; rfl)
theorem sumP_snoc (hI : BInv b) {ps qs : List Nat} {p : Nat} (h : ps ++ p :: qs = asF b 205 0) : (∀ d, d < 8 → vl (sumP b ps d) + vl (b p d) < 115792089237316195423570985008687907853269984665640564039457584007913129639936) ∧ lst (opP (· + ·) (sumP b ps) (b p)) 8 = lst (sumP b (ps ++ [p])) 8 := by
  have e : ∀ d, sumL (fun p => vl (b p d)) (ps ++ [p]) = sumL (fun p => vl (b p d)) ps + vl (b p d) := fun d => by rw [sumL_app]; simp [sumL]
  have h' : (ps ++ [p]) ++ qs = asF b 205 0 := by rw [← h]; simp
  constructor
  · intro d hd
    have h1 := sumP_le hI h' hd
    rw [e] at h1
    have h2 := vl_lo (hI.pur 256 (by omega)) hd
    rw [sumP_vl]
    omega
  · refine lst_congr 8 (fun d hd => ?_)
    unfold opP sumP
    rw [e]
    congr 1
    show vl (sumP b ps d) + vl (b p d) = _
    rw [sumP_vl]
theorem sumP_all (hI : BInv b) : lst (sumP b (asF b 205 0)) 8 = lst (b 256) 8 := by
  refine lst_congr 8 (fun d hd => ?_)
  unfold sumP
  rw [sumL_asF hI.pur hd 205 (Nat.le_refl _), hI.sum d hd]
  exact cn_ext (hI.pur 256 (by omega)) hd rfl
end
end Go.Proofs.Ytgphdioolcfmmaa
