
/- Floats that are finite: negated, taken from one another, squared, added: what is the same whichever way round. -/
import Derived.Test.YtpdokkhpeoeebaaGB
set_option linter.unusedSimpArgs false
set_option linter.unusedVariables false
set_option maxRecDepth 20000
namespace Go.Proofs.Ytpdokkhpeoeebaa
open Ieee

def neg (w : Nat) : Nat := w ^^^ 9223372036854775808
/-- A finite float. -/
def FinX (w : Nat) : Prop := w < 18446744073709551616 ∧ rung w < 2047 * 4503599627370496
theorem FinX.fin {w : Nat} (h : FinX w) : Fin' w := ⟨h.1, Nat.le_of_lt h.2⟩
theorem neg_rung (w : Nat) : rung (neg w) = rung w := by
  unfold rung neg
  rw [show (9223372036854775808 : Nat) = 2 ^ 63 by decide, Nat.xor_mod_two_pow, Nat.mod_self, Nat.xor_zero]
theorem neg_div (w : Nat) : neg w / 9223372036854775808 = (w / 9223372036854775808) ^^^ 1 := by
  unfold neg
  rw [show (9223372036854775808 : Nat) = 2 ^ 63 by decide, Nat.xor_div_two_pow, Nat.div_self (Nat.two_pow_pos _)]
theorem neg_lt {w : Nat} (h : w < 18446744073709551616) : neg w < 18446744073709551616 ∧ sgn (neg w) = !sgn w := by
  have h1 := neg_div w
  have hd : w / 9223372036854775808 = 0 ∨ w / 9223372036854775808 = 1 := by omega
  unfold sgn
  rcases hd with e | e
  · rw [e] at h1 ⊢
    have h2 : neg w / 9223372036854775808 = 1 := h1
    rw [h2]
    exact ⟨by omega, rfl⟩
  · rw [e] at h1 ⊢
    have h2 : neg w / 9223372036854775808 = 0 := h1
    rw [h2]
    exact ⟨by omega, rfl⟩
theorem neg_neg (w : Nat) : neg (neg w) = w := by unfold neg; rw [Nat.xor_assoc, Nat.xor_self, Nat.xor_zero]
theorem FinX.neg {w : Nat} (h : FinX w) : FinX (neg w) := ⟨(neg_lt h.1).1, by rw [neg_rung]; exact h.2⟩
theorem read_fin {w : Nat} (h : FinX w) : Ieee.double.read w = .number (sgn w) (mg (rung w)) (-1074 + (pl (rung w) : Int)) := by
  rw [read_rdF h.fin, rdF_fin _ h.2]
theorem signed_not (s : Bool) (m k : Nat) : signed (!s) m k = -signed s m k := by unfold signed; cases s <;> simp
theorem write_num (s : Bool) (m : Nat) (p : Int) : Ieee.double.write (.number s m p) = Ieee.double.nearest s m p := rfl
/-- A difference of finite ones: as great whichever is taken from whichever, and of both negated. -/
theorem sub_fin {x y : Nat} (hx : FinX x) (hy : FinX y) : ∃ r, r ≤ 2047 * 4503599627370496 ∧ (∃ s, Ieee.double.sub x y = some (Ieee.double.word s r)) ∧ (∃ s, Ieee.double.sub y x = some (Ieee.double.word s r)) ∧ (∃ s, Ieee.double.sub (neg x) (neg y) = some (Ieee.double.word s r)) := by
  have rx := read_fin hx
  have ry := read_fin hy
  have nx := read_fin hx.neg
  have ny := read_fin hy.neg
  rw [neg_rung, (neg_lt hx.1).2] at nx
  rw [neg_rung, (neg_lt hy.1).2] at ny
  unfold Format.sub
  rw [rx, ry, nx, ny]
  simp only [Datum.opposite, Datum.sum, Option.map_some, write_num, Bool.not_not]
  generalize sgn x = s
  generalize sgn y = t
  generalize mg (rung x) = m
  generalize mg (rung y) = n
  generalize (-1074 + (pl (rung x) : Int)) = i
  generalize (-1074 + (pl (rung y) : Int)) = j
  rw [Int.min_comm j i]
  have e1 : signed s m (i - min i j).toNat + signed (!t) n (j - min i j).toNat = signed s m (i - min i j).toNat - signed t n (j - min i j).toNat := by rw [signed_not]; omega
  have e2 : signed t n (j - min i j).toNat + signed (!s) m (i - min i j).toNat = -(signed s m (i - min i j).toNat - signed t n (j - min i j).toNat) := by rw [signed_not]; omega
  have e3 : signed (!s) m (i - min i j).toNat + signed t n (j - min i j).toNat = -(signed s m (i - min i j).toNat - signed t n (j - min i j).toNat) := by rw [signed_not]; omega
  rw [e1, e2, e3, Int.natAbs_neg]
  obtain ⟨r, hr, hw⟩ := near_word false (signed s m (i - min i j).toNat - signed t n (j - min i j).toNat).natAbs (min i j)
  exact ⟨r, hr, ⟨_, congrArg some (hw _)⟩, ⟨_, congrArg some (hw _)⟩, ⟨_, congrArg some (hw _)⟩⟩
theorem sub_self {x : Nat} (hx : FinX x) : Ieee.double.sub x x = some 0 := by
  unfold Format.sub
  rw [read_fin hx]
  simp only [Datum.opposite, Datum.sum, Option.map_some, write_num, Int.min_self, signed_not]
  rw [show signed (sgn x) (mg (rung x)) (-1074 + (pl (rung x) : Int) - (-1074 + (pl (rung x) : Int))).toNat + -signed (sgn x) (mg (rung x)) (-1074 + (pl (rung x) : Int) - (-1074 + (pl (rung x) : Int))).toNat = 0 by omega]
  cases sgn x <;> rfl
/-- A square: of a float that is no NaN; the same of one that is as great. -/
theorem sq_word {r : Nat} (h : r ≤ 2047 * 4503599627370496) : ∃ u, Fin' u ∧ sgn u = false ∧ ∀ s, Ieee.double.mul (Ieee.double.word s r) (Ieee.double.word s r) = some u := by
  rcases Nat.lt_or_ge r (2047 * 4503599627370496) with hr | hr
  · obtain ⟨q, hq, hw⟩ := near_word false (mg r * mg r) (-1074 + (pl r : Int) + (-1074 + (pl r : Int)))
    obtain ⟨f1, f2, f3⟩ := word_fin false hq
    refine ⟨Ieee.double.word false q, f1, f3, fun s => ?_⟩
    obtain ⟨g1, g2, g3⟩ := word_fin s (Nat.le_of_lt hr)
    unfold Format.mul
    rw [read_rdF g1, g2, g3, rdF_fin s hr]
    simp only [Datum.product, Option.map_some, write_num, Bool.xor_self]
    rw [hw]
  · have e : r = 2047 * 4503599627370496 := by omega
    obtain ⟨f1, f2, f3⟩ := word_fin false (r := r) h
    refine ⟨Ieee.double.word false r, f1, f3, fun s => ?_⟩
    obtain ⟨g1, g2, g3⟩ := word_fin s h
    unfold Format.mul
    rw [read_rdF g1, g2, g3, rdF_inf s e]
    simp only [Datum.product, Option.map_some, Format.write, Bool.xor_self, infR]
    rw [e]
theorem sum_comm (d e : Datum) : d.sum e = e.sum d := by
  cases d <;> cases e <;> simp [Datum.sum]
  · rename_i s m i t n j
    rw [Int.min_comm j i, Int.add_comm (signed t n _), Bool.and_comm]
    simp
  · rename_i s t
    by_cases h : s = t
    · subst h; rfl
    · rw [if_neg h, if_neg (Ne.symm h)]
theorem add_swap (x y : Nat) : Ieee.double.add x y = Ieee.double.add y x := by unfold Format.add; rw [sum_comm]
theorem signed_pos (m k : Nat) : 0 ≤ signed false m k := by rw [shN, if_neg (by decide)]; exact Int.natCast_nonneg _
/-- A sum of floats of which none is below nothing. -/
theorem add_pos {x y : Nat} (hx : Fin' x) (hy : Fin' y) (sx : sgn x = false) (sy : sgn y = false) : ∃ d, Ieee.double.add x y = some d ∧ Fin' d ∧ sgn d = false := by
  unfold Format.add
  rw [read_rdF hx, read_rdF hy, sx, sy]
  have h1 : rung x ≤ 2047 * 4503599627370496 := hx.2
  have h2 : rung y ≤ 2047 * 4503599627370496 := hy.2
  generalize rung x = r at *
  generalize rung y = q at *
  obtain ⟨g1, -, g3⟩ := word_fin false (show 2047 * 4503599627370496 ≤ 2047 * 4503599627370496 by omega)
  rcases Nat.lt_or_ge r (2047 * 4503599627370496) with hr | hr
  · rcases Nat.lt_or_ge q (2047 * 4503599627370496) with hq | hq
    · rw [rdF_fin false hr, rdF_fin false hq]
      simp only [Datum.sum, Option.map_some, write_num]
      have p1 := signed_pos (mg r) (-1074 + (pl r : Int) - min (-1074 + (pl r : Int)) (-1074 + (pl q : Int))).toNat
      have p2 := signed_pos (mg q) (-1074 + (pl q : Int) - min (-1074 + (pl r : Int)) (-1074 + (pl q : Int))).toNat
      generalize signed false (mg r) _ = A at *
      generalize signed false (mg q) _ = B at *
      rw [show (if A + B = 0 then (false && false) else decide (A + B < 0)) = false from by
        split
        · rfl
        · exact decide_eq_false (by omega)]
      obtain ⟨z, hz, hw⟩ := near_word false (A + B).natAbs (min (-1074 + (pl r : Int)) (-1074 + (pl q : Int)))
      obtain ⟨f1, f2, f3⟩ := word_fin false hz
      exact ⟨_, congrArg some (hw false), f1, f3⟩
    · rw [rdF_fin false hr, rdF_inf false (by omega)]
      refine ⟨Ieee.double.word false (2047 * 4503599627370496), ?_, g1, g3⟩
      simp [Datum.sum, Format.write, infR]
  · rcases Nat.lt_or_ge q (2047 * 4503599627370496) with hq | hq
    · rw [rdF_inf false (by omega), rdF_fin false hq]
      refine ⟨Ieee.double.word false (2047 * 4503599627370496), ?_, g1, g3⟩
      simp [Datum.sum, Format.write, infR]
    · rw [rdF_inf false (by omega), rdF_inf false (by omega)]
      refine ⟨Ieee.double.word false (2047 * 4503599627370496), ?_, g1, g3⟩
      simp [Datum.sum, Format.write, infR]
theorem fN_fin {n : Nat} (h : n.log2 < 1000) : FinX (fN n) ∧ sgn (fN n) = false ∧ key (fN n) = fN n := by
  have hl := fN_lt h
  have e : fN n / 9223372036854775808 = 0 := Nat.div_eq_of_lt (by omega)
  have hs : sgn (fN n) = false := by unfold sgn; rw [e]; rfl
  have hr : rung (fN n) = fN n := by unfold rung; exact Nat.mod_eq_of_lt (by omega)
  refine ⟨⟨by omega, by rw [hr]; exact hl⟩, hs, ?_⟩
  unfold key; rw [hs, hr]; rfl
/-- Nothing and a float of a whole number: it. -/
theorem add_zero_fN {n : Nat} (h : n.log2 < 1000) : Ieee.double.add 0 (fN n) = some (fN n) := by
  by_cases h0 : n = 0
  · subst h0; decide
  · have hl := fN_lt h
    have hg := fN_ge h0
    unfold Format.add
    rw [read_low (r := 0) (by omega), read_normal hg hl]
    simp only [Datum.sum, Option.map_some, write_num]
    have hm : fN n % 4503599627370496 < 4503599627370496 := Nat.mod_lt _ (by decide)
    have hd : 1 ≤ fN n / 4503599627370496 := (Nat.le_div_iff_mul_le (by decide)).2 (by omega)
    have hdm := Nat.div_add_mod (fN n) 4503599627370496
    have hk : (min (-1074 : Int) (-1074 + ((fN n / 4503599627370496 - 1 : Nat) : Int))) = -1074 := by omega
    rw [hk, show ((-1074 : Int) - -1074).toNat = 0 by omega, show ((-1074 : Int) + ((fN n / 4503599627370496 - 1 : Nat) : Int) - -1074).toNat = fN n / 4503599627370496 - 1 by omega]
    have et : signed false 0 0 + signed false (4503599627370496 + fN n % 4503599627370496) (fN n / 4503599627370496 - 1) = (((4503599627370496 + fN n % 4503599627370496) * 2 ^ (fN n / 4503599627370496 - 1) : Nat) : Int) := by rw [shN, shN]; simp
    rw [et]
    generalize hM : 4503599627370496 + fN n % 4503599627370496 = m at *
    generalize hK : fN n / 4503599627370496 - 1 = k at *
    have hp := Nat.two_pow_pos k
    have hml : 4503599627370496 ≤ m ∧ m < 9007199254740992 := by omega
    have hpos : 0 < m * 2 ^ k := Nat.mul_pos (by omega) hp
    rw [if_neg (by omega), show decide (((m * 2 ^ k : Nat) : Int) < 0) = false from decide_eq_false (by omega), Int.natAbs_natCast]
    have hlog : (m * 2 ^ k).log2 = 52 + k := by
      apply log_eq
      · rw [Nat.pow_add]; exact Nat.mul_le_mul_right _ hml.1
      · rw [show 52 + k + 1 = 53 + k by omega, Nat.pow_add]; exact Nat.mul_lt_mul_of_pos_right hml.2 hp
    unfold Format.nearest
    rw [if_neg (by omega), lstP, infR, bin, frB, hlog]
    have hlast : max ((-1074 : Int) + ((52 + k : Nat) : Int) - ((52 : Nat) : Int)) (-1074) = -1074 + (k : Int) := by omega
    simp only [hlast]
    rw [show ((-1074 : Int) - (-1074 + (k : Int))).toNat = 0 by omega, show ((-1074 : Int) + (k : Int) - -1074).toNat = k by omega, Nat.shiftLeft_zero, cut_even _ (by omega), rne_whole, word_f]
    apply congrArg some
    rw [Nat.min_eq_left (by omega)]
    omega
end Go.Proofs.Ytpdokkhpeoeebaa
