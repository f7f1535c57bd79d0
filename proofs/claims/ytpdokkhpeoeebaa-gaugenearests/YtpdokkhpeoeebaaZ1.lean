
/- num.MulDiv. -/
import Derived.Test.YtpdokkhpeoeebaaY2
import Derived.Test.YtpdokkhpeoeebaaH
import Derived.Deep.RegionWith
set_option linter.unusedSimpArgs false
set_option linter.unusedVariables false
set_option maxRecDepth 20000
namespace Go.Proofs.Ytpdokkhpeoeebaa
open Go.RowKit

def upI (up : Bool) (q r : Int) : Int := if up = true ∧ r ≠ 0 then q + 1 else q
def MdS (a b c : Int) (up : Bool) (z e : Int) : Prop := (c = 0 ∧ e = 1 ∧ z = 0) ∨
  (0 < c ∧ ∃ q r : Int, a * b = q * c + r ∧ 0 ≤ r ∧ r < c ∧ 0 ≤ q ∧ ((upI up q r < 115792089237316195423570985008687907853269984665640564039457584007913129639936 ∧ e = 0 ∧ z = upI up q r) ∨ (115792089237316195423570985008687907853269984665640564039457584007913129639936 ≤ upI up q r ∧ e = 2 ∧ z = 0)))

theorem md_over {a b c h l : Int} {up : Bool} (hc : 0 < c) (ha : 0 ≤ a) (hb : 0 ≤ b) (hl : 0 ≤ l) (e : Hid (a * b = h * 115792089237316195423570985008687907853269984665640564039457584007913129639936 + l)) (hh : c ≤ h) : MdS a b c up 0 2 := by
  have e := e.out
  have h1 := Int.emod_add_mul_ediv (a * b) c
  have h2 := Int.emod_nonneg (a * b) (show c ≠ 0 by omega)
  have h3 := Int.emod_lt_of_pos (a * b) hc
  have hp : 0 ≤ a * b := Int.mul_nonneg ha hb
  have h4 : 0 ≤ a * b / c := Int.ediv_nonneg hp (by omega)
  have h5 : 115792089237316195423570985008687907853269984665640564039457584007913129639936 ≤ a * b / c := by
    apply (Int.le_ediv_iff_mul_le hc).2
    rw [e]
    omega
  refine .inr ⟨hc, a * b / c, a * b % c, by rw [Int.mul_comm (a * b / c) c]; omega, h2, h3, h4, .inr ⟨?_, rfl, rfl⟩⟩
  unfold upI; split <;> omega

theorem cmp_cases (a b : Int) : (a < b ∧ ¬ 0 ≤ cmpI a b) ∨ (b ≤ a ∧ 0 ≤ cmpI a b) := by
  unfold cmpI
  by_cases h : a < b
  · left; simp [h]
  · right; refine ⟨by omega, ?_⟩
    rw [if_neg h]; split <;> omega

theorem md_done {a b c h l q r : Int} {up : Bool} (hc : 0 < c) (e : Hid (a * b = h * 115792089237316195423570985008687907853269984665640564039457584007913129639936 + l)) (e2 : Hid (h * 115792089237316195423570985008687907853269984665640564039457584007913129639936 + l = q * c + r)) (h0 : 0 ≤ r) (h1 : r < c) (hq0 : 0 ≤ q) (hq1 : q < 115792089237316195423570985008687907853269984665640564039457584007913129639936) (hz : upI up q r = q) :
    MdS a b c up q 0 := by
  refine .inr ⟨hc, q, r, e.out.trans e2.out, h0, h1, hq0, .inl ⟨by rw [hz]; exact hq1, rfl, hz.symm⟩⟩

theorem md_up {a b c h l q r z e' : Int} (hc : 0 < c) (e : Hid (a * b = h * 115792089237316195423570985008687907853269984665640564039457584007913129639936 + l)) (e2 : Hid (h * 115792089237316195423570985008687907853269984665640564039457584007913129639936 + l = q * c + r)) (h0 : 0 ≤ r) (h1 : r < c) (hr : r ≠ 0) (hq0 : 0 ≤ q) (hs : AddS q 1 z e') :
    MdS a b c true z e' := by
  have hu : upI true q r = q + 1 := by simp [upI, hr]
  refine .inr ⟨hc, q, r, e.out.trans e2.out, h0, h1, hq0, ?_⟩
  rw [hu]
  exact hs

end Go.Proofs.Ytpdokkhpeoeebaa
