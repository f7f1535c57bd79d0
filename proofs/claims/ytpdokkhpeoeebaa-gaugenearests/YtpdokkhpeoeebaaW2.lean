
/- num.dividePart. -/
import Derived.Test.YtpdokkhpeoeebaaW1
set_option linter.unusedSimpArgs false
set_option linter.unusedVariables false
set_option maxRecDepth 20000
namespace Go.Proofs.Ytpdokkhpeoeebaa
open Go.RowKit

/-- Between two rounds: what is left is told by the low parts, the top one, and whether it is below nought. -/
def PInv (N C g l t un : Int) : Prop := 0 ≤ g ∧ N < (g + 1) * C ∧ N - g * C = l + t * 115792089237316195423570985008687907853269984665640564039457584007913129639936 - un * 2135987035920910082395021706169552114602704522356652769947041607822219725780640550022962086936576

theorem part_start {r0 r1 r2 r3 n c0 c1 c2 c3 g k0 k1 k2 k3 tp l0 l1 l2 l3 bo tv un : Int}
    (e1 : Hid (val c0 c1 c2 c3 * g + 0 = val k0 k1 k2 k3 + tp * 115792089237316195423570985008687907853269984665640564039457584007913129639936))
    (e2 : Hid (val n r0 r1 r2 - val k0 k1 k2 k3 = val l0 l1 l2 l3 - bo * 115792089237316195423570985008687907853269984665640564039457584007913129639936))
    (e3 : Hid (r3 - tp - bo = tv - un * 18446744073709551616)) (hg : 0 ≤ g) (hk : val r0 r1 r2 r3 * 18446744073709551616 + n < (g + 1) * val c0 c1 c2 c3) :
    PInv (val r0 r1 r2 r3 * 18446744073709551616 + n) (val c0 c1 c2 c3) g (val l0 l1 l2 l3) tv un := by
  unfold Hid at *
  refine ⟨hg, hk, ?_⟩
  rw [Int.mul_comm g]
  generalize val c0 c1 c2 c3 * g = A at *
  unfold val at *
  omega

theorem part_next {N C g l t l' t' ca cb : Int} (h : PInv N C g l t 1) (hN : 0 ≤ N) (hC : 0 < C) (hl : 0 ≤ l ∧ l < 115792089237316195423570985008687907853269984665640564039457584007913129639936) (ht : 0 ≤ t ∧ t < 18446744073709551616)
    (e1 : Hid (l + C = l' + ca * 115792089237316195423570985008687907853269984665640564039457584007913129639936)) (e2 : Hid (t + 0 + ca = t' + cb * 18446744073709551616)) :
    1 ≤ g ∧ PInv N C (g - 1) l' t' (1 - cb) := by
  obtain ⟨h1, h2, h3⟩ := h
  unfold Hid at *
  have hneg : N - g * C < 0 := by rw [h3]; omega
  have hg : 1 ≤ g := by
    by_cases e : g = 0
    · subst e; omega
    · omega
  have e3 : (g - 1) * C = g * C - C := by rw [Int.sub_mul]; omega
  refine ⟨hg, by omega, ?_, ?_⟩
  · rw [show g - 1 + 1 = g by omega]; omega
  · rw [e3]
    generalize g * C = A at *
    omega

theorem part_pos {N C g l t : Int} (h : PInv N C g l t 1) (hN : 0 ≤ N) (hl : 0 ≤ l ∧ l < 115792089237316195423570985008687907853269984665640564039457584007913129639936) (ht : 0 ≤ t ∧ t < 18446744073709551616) : 1 ≤ g := by
  obtain ⟨h1, h2, h3⟩ := h
  by_cases e : g = 0
  · subst e; omega
  · omega

theorem part_done {N C g l t : Int} (h : PInv N C g l t 0) (hC : C < 115792089237316195423570985008687907853269984665640564039457584007913129639936) (hl : 0 ≤ l ∧ l < 115792089237316195423570985008687907853269984665640564039457584007913129639936) (ht : 0 ≤ t) :
    N = g * C + l ∧ l < C := by
  obtain ⟨h1, h2, h3⟩ := h
  rw [Int.add_mul] at h2
  generalize g * C = A at *
  have : t = 0 := by omega
  subst this
  omega

end Go.Proofs.Ytpdokkhpeoeebaa
