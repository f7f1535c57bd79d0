
/- Floats held against each other: as rungs with a sign; sums, differences, squares: what is the same whichever way round. -/
import Derived.Test.YtpdokkhpeoeebaaGA
set_option linter.unusedSimpArgs false
set_option linter.unusedVariables false
set_option maxRecDepth 20000
namespace Go.Proofs.Ytpdokkhpeoeebaa
open Ieee

/-- What a sign and a rung up to infinity's stand for. -/
def rdF (s : Bool) (r : Nat) : Datum := if r < 4503599627370496 then .number s r (-1074) else if r < 2047 * 4503599627370496 then .number s (4503599627370496 + r % 4503599627370496) (-1074 + ((r / 4503599627370496 - 1 : Nat) : Int)) else .infinity s
/-- A float that is no NaN. -/
def Fin' (w : Nat) : Prop := w < 18446744073709551616 ∧ w % 9223372036854775808 ≤ 2047 * 4503599627370496
def sgn (w : Nat) : Bool := w / 9223372036854775808 % 2 == 1
def rung (w : Nat) : Nat := w % 9223372036854775808
def key (w : Nat) : Int := if sgn w then -(rung w : Int) else (rung w : Int)
theorem read_rdF {w : Nat} (h : Fin' w) : Ieee.double.read w = rdF (sgn w) (rung w) := by
  have h2 := h.2
  unfold Format.read rdF sgn rung
  rw [sgW, bin, infR, lstP]
  simp only
  split
  · rfl
  · split
    · rfl
    · rw [if_pos (by omega)]
/-- The number's last place above the least one, and its digits: rung = place * 2^52 + digits. -/
def pl (r : Nat) : Nat := if r < 4503599627370496 then 0 else r / 4503599627370496 - 1
def mg (r : Nat) : Nat := if r < 4503599627370496 then r else 4503599627370496 + r % 4503599627370496
theorem rdF_fin (s : Bool) {r : Nat} (h : r < 2047 * 4503599627370496) : rdF s r = .number s (mg r) (-1074 + (pl r : Int)) := by
  unfold rdF mg pl
  split
  · simp
  · simp [h]
theorem rdF_inf (s : Bool) {r : Nat} (h : r = 2047 * 4503599627370496) : rdF s r = .infinity s := by
  subst h; unfold rdF; rw [if_neg (by omega), if_neg (by omega)]
theorem pl_mg (r : Nat) : r = pl r * 4503599627370496 + mg r ∧ mg r < 9007199254740992 ∧ (0 < pl r → 4503599627370496 ≤ mg r) := by
  unfold pl mg
  split <;> omega
theorem shl_lt {m n i j b : Nat} (hm : m < 9007199254740992) (hn : 4503599627370496 ≤ n) (hij : i < j) (hb : b = i) : m * 2 ^ (i - b) < n * 2 ^ (j - b) := by
  subst hb
  obtain ⟨d, rfl⟩ := Nat.exists_eq_add_of_lt hij
  rw [Nat.sub_self, show b + d + 1 - b = d + 1 by omega, Nat.pow_succ]
  have hp := Nat.two_pow_pos d
  have h1 : 4503599627370496 * (2 ^ d * 2) ≤ n * (2 ^ d * 2) := Nat.mul_le_mul_right _ hn
  omega
theorem mag_lt {r q : Nat} (h : r < q) : mg r * 2 ^ (pl r - min (pl r) (pl q)) < mg q * 2 ^ (pl q - min (pl r) (pl q)) := by
  obtain ⟨a1, a2, a3⟩ := pl_mg r
  obtain ⟨b1, b2, b3⟩ := pl_mg q
  rcases Nat.lt_trichotomy (pl r) (pl q) with hl | he | hg
  · exact shl_lt a2 (b3 (by omega)) hl (by omega)
  · rw [he, Nat.min_self, Nat.sub_self]; simp; omega
  · have := a3 (by omega); omega
theorem shN (s : Bool) (m k : Nat) : signed s m k = if s then -((m * 2 ^ k : Nat) : Int) else ((m * 2 ^ k : Nat) : Int) := by
  unfold signed; rw [Nat.shiftLeft_eq]
theorem cmp_nat_int (a b : Int) : compare a b = if a < b then .lt else if a = b then .eq else .gt := by
  simp [compare, compareOfLessAndEq]
theorem order_fin {s t : Bool} {r q : Nat} (hr : r < 2047 * 4503599627370496) (hq : q < 2047 * 4503599627370496) :
    (rdF s r).order (rdF t q) = some (compare (if s then -(r : Int) else (r : Int)) (if t then -(q : Int) else (q : Int))) := by
  rw [rdF_fin s hr, rdF_fin t hq]
  unfold Datum.order
  simp only
  congr 1
  have hb : min (-1074 + (pl r : Int)) (-1074 + (pl q : Int)) = -1074 + ((min (pl r) (pl q) : Nat) : Int) := by omega
  rw [hb, show (-1074 + (pl r : Int) - (-1074 + ((min (pl r) (pl q) : Nat) : Int))).toNat = pl r - min (pl r) (pl q) by omega, show (-1074 + (pl q : Int) - (-1074 + ((min (pl r) (pl q) : Nat) : Int))).toNat = pl q - min (pl r) (pl q) by omega, shN, shN]
  have k1 : r < q → mg r * 2 ^ (pl r - min (pl r) (pl q)) < mg q * 2 ^ (pl q - min (pl r) (pl q)) := fun h => mag_lt h
  have k2 : q < r → mg q * 2 ^ (pl q - min (pl r) (pl q)) < mg r * 2 ^ (pl r - min (pl r) (pl q)) := fun h => by
    have := mag_lt h; rw [Nat.min_comm] at this; exact this
  have k3 : r = q → mg r * 2 ^ (pl r - min (pl r) (pl q)) = mg q * 2 ^ (pl q - min (pl r) (pl q)) := fun h => by subst h; rfl
  have z1 : r = 0 ↔ mg r * 2 ^ (pl r - min (pl r) (pl q)) = 0 := by
    obtain ⟨a1, a2, a3⟩ := pl_mg r
    have hp := Nat.two_pow_pos (pl r - min (pl r) (pl q))
    constructor
    · intro h; have : mg r = 0 := by omega
      rw [this]; simp
    · intro h
      rcases Nat.mul_eq_zero.1 h with h | h
      · have : pl r = 0 := by
          apply Nat.eq_zero_of_not_pos; intro hh; have := a3 hh; omega
        omega
      · omega
  have z2 : q = 0 ↔ mg q * 2 ^ (pl q - min (pl r) (pl q)) = 0 := by
    obtain ⟨a1, a2, a3⟩ := pl_mg q
    have hp := Nat.two_pow_pos (pl q - min (pl r) (pl q))
    constructor
    · intro h; have : mg q = 0 := by omega
      rw [this]; simp
    · intro h
      rcases Nat.mul_eq_zero.1 h with h | h
      · have : pl q = 0 := by
          apply Nat.eq_zero_of_not_pos; intro hh; have := a3 hh; omega
        omega
      · omega
  generalize mg r * 2 ^ (pl r - min (pl r) (pl q)) = A at *
  generalize mg q * 2 ^ (pl q - min (pl r) (pl q)) = B at *
  rw [cmp_nat_int, cmp_nat_int]
  cases s <;> cases t <;> simp only [Bool.false_eq_true, if_true, if_false] <;> (split <;> split <;> (try split) <;> (try split) <;> first | rfl | omega)
theorem order_key {x y : Nat} (hx : Fin' x) (hy : Fin' y) : Ieee.double.order x y = some (compare (key x) (key y)) := by
  unfold Format.order key
  rw [read_rdF hx, read_rdF hy]
  have h1 : rung x ≤ 2047 * 4503599627370496 := hx.2
  have h2 : rung y ≤ 2047 * 4503599627370496 := hy.2
  generalize rung x = r at *
  generalize rung y = q at *
  generalize sgn x = s
  generalize sgn y = t
  rcases Nat.lt_or_ge r (2047 * 4503599627370496) with hr | hr
  · rcases Nat.lt_or_ge q (2047 * 4503599627370496) with hq | hq
    · exact order_fin hr hq
    · rw [rdF_fin s hr, rdF_inf t (by omega)]
      unfold Datum.order
      simp only
      congr 1
      rw [cmp_nat_int]
      cases s <;> cases t <;> simp only [Bool.false_eq_true, if_true, if_false] <;> (split <;> first | rfl | omega | (split <;> first | rfl | omega))
  · rcases Nat.lt_or_ge q (2047 * 4503599627370496) with hq | hq
    · rw [rdF_inf s (by omega), rdF_fin t hq]
      unfold Datum.order
      simp only
      congr 1
      rw [cmp_nat_int]
      cases s <;> cases t <;> simp only [Bool.false_eq_true, if_true, if_false] <;> (split <;> first | rfl | omega | (split <;> first | rfl | omega))
    · rw [rdF_inf s (by omega), rdF_inf t (by omega)]
      unfold Datum.order
      simp only
      congr 1
      have e1 : r = 2047 * 4503599627370496 := by omega
      have e2 : q = 2047 * 4503599627370496 := by omega
      subst e1; subst e2
      cases s <;> cases t <;> decide
theorem order_self {x : Nat} (hx : Fin' x) : (Ieee.double.order x x == some .eq) = true := by
  rw [order_key hx hx, cmp_nat_int, if_neg (by omega), if_pos rfl]; rfl
/-- Words as they come of writing: no NaN. -/
theorem word_fin (s : Bool) {r : Nat} (h : r ≤ 2047 * 4503599627370496) : Fin' (Ieee.double.word s r) ∧ rung (Ieee.double.word s r) = r ∧ sgn (Ieee.double.word s r) = s := by
  unfold Format.word Fin' rung sgn
  rw [sgW]
  cases s
  · simp only [Bool.false_eq_true, if_false]; refine ⟨⟨by omega, by omega⟩, by omega, ?_⟩
    rw [Nat.div_eq_of_lt (by omega)]; rfl
  · simp only [if_true]; refine ⟨⟨by omega, by omega⟩, by omega, ?_⟩
    rw [show (9223372036854775808 + r) / 9223372036854775808 = 1 by omega]; rfl
theorem near_word (s : Bool) (m : Nat) (p : Int) : ∃ r, r ≤ 2047 * 4503599627370496 ∧ ∀ t, Ieee.double.nearest t m p = Ieee.double.word t r := by
  by_cases h : m = 0
  · exact ⟨0, by omega, fun t => by unfold Format.nearest; rw [if_pos h]⟩
  · refine ⟨min (((max (p + m.log2 - Ieee.double.fractionBits) Ieee.double.leastPlace) - Ieee.double.leastPlace).toNat * Ieee.double.binade + Toward.even.cut false (m <<< (p - max (p + m.log2 - Ieee.double.fractionBits) Ieee.double.leastPlace).toNat) (max (p + m.log2 - Ieee.double.fractionBits) Ieee.double.leastPlace - p).toNat) Ieee.double.infRung, ?_, fun t => ?_⟩
    · rw [infR]; exact Nat.min_le_right _ _
    · unfold Format.nearest; rw [if_neg h]
      simp only [Toward.cut]
end Go.Proofs.Ytpdokkhpeoeebaa
