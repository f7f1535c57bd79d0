
/- Floats as rungs: the nearest float of a whole number, as a plain function; twice it, and once; what it is as a whole number again. -/
import Derived.Laws.FloatArith
set_option linter.unusedSimpArgs false
set_option linter.unusedVariables false
set_option maxRecDepth 20000
namespace Go.Proofs.Ytpdokkhpeoeebaa
open Ieee

def rne (n d : Nat) : Nat := n / 2 ^ d + (if 2 ^ d < 2 * (n % 2 ^ d) ∨ (2 ^ d = 2 * (n % 2 ^ d) ∧ n / 2 ^ d % 2 = 1) then 1 else 0)
def sig (n : Nat) : Nat := if n.log2 ≤ 52 then n * 2 ^ (52 - n.log2) else rne n (n.log2 - 52)
def fN (n : Nat) : Nat := if n = 0 then 0 else (n.log2 + 1022) * 4503599627370496 + sig n

theorem log_le {n : Nat} (h : n ≠ 0) : 2 ^ n.log2 ≤ n := Nat.log2_self_le h
theorem log_gt (n : Nat) : n < 2 ^ (n.log2 + 1) := Nat.lt_log2_self
theorem log_eq {n k : Nat} (h1 : 2 ^ k ≤ n) (h2 : n < 2 ^ (k + 1)) : n.log2 = k := by
  have hn : n ≠ 0 := by have := Nat.two_pow_pos k; omega
  have a := (Nat.le_log2 hn).2 h1
  have b := (Nat.log2_lt hn).2 h2
  omega
theorem pw_mono {a b : Nat} (h : a ≤ b) : 2 ^ a ≤ 2 ^ b := Nat.pow_le_pow_right (by decide) h
theorem sig_lim {n : Nat} (h : n ≠ 0) : 4503599627370496 ≤ sig n ∧ sig n ≤ 9007199254740992 := by
  have h1 := log_le h
  have h2 := log_gt n
  unfold sig
  split
  · rename_i hl
    have e : 2 ^ n.log2 * 2 ^ (52 - n.log2) = 4503599627370496 := by rw [← Nat.pow_add, Nat.add_sub_cancel' hl]
    have e2 : 2 ^ (n.log2 + 1) * 2 ^ (52 - n.log2) = 9007199254740992 := by rw [← Nat.pow_add, show n.log2 + 1 + (52 - n.log2) = 53 by omega]
    have a := Nat.mul_le_mul_right (2 ^ (52 - n.log2)) h1
    have b := Nat.mul_le_mul_right (2 ^ (52 - n.log2)) (Nat.le_of_lt h2)
    omega
  · rename_i hl
    have hp := Nat.two_pow_pos (n.log2 - 52)
    have e : 2 ^ n.log2 = 4503599627370496 * 2 ^ (n.log2 - 52) := by rw [show (4503599627370496 : Nat) = 2 ^ 52 by decide, ← Nat.pow_add, show 52 + (n.log2 - 52) = n.log2 by omega]
    have a : 4503599627370496 ≤ n / 2 ^ (n.log2 - 52) := (Nat.le_div_iff_mul_le hp).2 (by omega)
    have b : n / 2 ^ (n.log2 - 52) < 9007199254740992 := (Nat.div_lt_iff_lt_mul hp).2 (by rw [Nat.pow_succ] at h2; omega)
    unfold rne
    split <;> omega
theorem infR : Ieee.double.infRung = 2047 * 4503599627370496 := by decide
theorem sgW : Ieee.double.signWeight = 9223372036854775808 := by decide
theorem bin : Ieee.double.binade = 4503599627370496 := by decide
theorem frB : Ieee.double.fractionBits = 52 := rfl
theorem word_f (r : Nat) : Ieee.double.word false r = r := by unfold Format.word; simp
theorem lstP : Ieee.double.leastPlace = -1074 := by decide
theorem cut_none (s : Bool) (n : Nat) : Toward.even.cut s n 0 = n := by
  simp [Toward.cut, Nat.mod_one]
theorem cut_even (s : Bool) {n d : Nat} (h : d ≤ n.log2 + 2) : Toward.even.cut s n d = rne n d := by
  unfold Toward.cut rne
  simp only [Nat.min_eq_left h, Nat.one_shiftLeft]
  by_cases h1 : 2 ^ d < 2 * (n % 2 ^ d)
  · simp [h1]
  · by_cases h2 : 2 ^ d = 2 * (n % 2 ^ d)
    · by_cases h3 : n / 2 ^ d % 2 = 1
      · rw [if_pos (.inr ⟨h2, h3⟩)]
        simp [h1, h3]
        rw [← h2]
      · rw [if_neg (by simp [h1, h3])]
        simp [h1, h3]
    · rw [if_neg (by simp [h1, h2])]
      simp [h1, h2]
theorem nearest_fN {n : Nat} (h : n.log2 < 1000) : Ieee.double.nearest false n 0 = fN n := by
  unfold Format.nearest fN
  by_cases h0 : n = 0
  · simp [h0, Format.word]
  · rw [if_neg h0, if_neg h0]
    have hL := h
    have hs := sig_lim h0
    rw [lstP, infR, bin, frB]
    have hlast : max ((0 : Int) + (n.log2 : Int) - ((52 : Nat) : Int)) (-1074) = (n.log2 : Int) - 52 := by omega
    simp only [hlast]
    have hk : Toward.even.cut false (n <<< ((0 : Int) - ((n.log2 : Int) - 52)).toNat) (((n.log2 : Int) - 52) - 0).toNat = sig n := by
      unfold sig
      split
      · rename_i hl
        rw [show (((n.log2 : Int) - 52) - 0).toNat = 0 by omega, cut_none, show ((0 : Int) - ((n.log2 : Int) - 52)).toNat = 52 - n.log2 by omega, Nat.shiftLeft_eq]
      · rename_i hl
        rw [show (((n.log2 : Int) - 52) - 0).toNat = n.log2 - 52 by omega, show ((0 : Int) - ((n.log2 : Int) - 52)).toNat = 0 by omega, Nat.shiftLeft_zero, cut_even _ (by omega)]
    rw [hk, show (((n.log2 : Int) - 52) - -1074).toNat = n.log2 + 1022 by omega, word_f]
    exact Nat.min_eq_left (by omega)
theorem fN_lt {n : Nat} (h : n.log2 < 1000) : fN n < 2047 * 4503599627370496 := by
  unfold fN
  split
  · omega
  · rename_i h0
    have hL := h
    have hs := sig_lim h0
    omega
theorem fN_ge {n : Nat} (h : n ≠ 0) : 4503599627370496 ≤ fN n := by
  have hs := sig_lim h
  unfold fN
  rw [if_neg h]
  omega
theorem read_low {r : Nat} (h : r < 4503599627370496) : Ieee.double.read r = .number false r (-1074) := by
  unfold Format.read
  rw [sgW, bin, infR, lstP]
  simp only [Nat.mod_eq_of_lt (show r < 9223372036854775808 by omega), Nat.div_eq_of_lt (show r < 9223372036854775808 by omega)]
  rw [if_pos h]
  rfl
theorem read_normal {r : Nat} (h1 : 4503599627370496 ≤ r) (h2 : r < 2047 * 4503599627370496) : Ieee.double.read r = .number false (4503599627370496 + r % 4503599627370496) (-1074 + ((r / 4503599627370496 - 1 : Nat) : Int)) := by
  unfold Format.read
  rw [sgW, bin, infR, lstP]
  simp only [Nat.mod_eq_of_lt (show r < 9223372036854775808 by omega), Nat.div_eq_of_lt (show r < 9223372036854775808 by omega)]
  rw [if_neg (by omega), if_pos h2]
  rfl
theorem rne_whole (m d : Nat) : rne (m * 2 ^ d) d = m := by
  have hp := Nat.two_pow_pos d
  unfold rne
  rw [Nat.mul_div_cancel _ hp, Nat.mul_mod_left, if_neg (by omega)]
  rfl
theorem mul_pow {r k : Nat} (h1 : 4503599627370496 ≤ r) (hk : k ≤ 1000) (h2 : r + k * 4503599627370496 < 2047 * 4503599627370496) :
    Ieee.double.mul r ((1023 + k) * 4503599627370496) = some (r + k * 4503599627370496) := by
  have hr : r < 2047 * 4503599627370496 := by omega
  have e2 : Ieee.double.read ((1023 + k) * 4503599627370496) = .number false 4503599627370496 ((k : Int) - 52) := by
    rw [read_normal (by omega) (by omega), Nat.mul_mod_left, Nat.mul_div_cancel _ (by decide)]
    congr 1
    omega
  unfold Format.mul
  rw [read_normal h1 hr, e2]
  simp only [Datum.product, Option.map_some, Format.write, Bool.xor_false]
  have hm : r % 4503599627370496 < 4503599627370496 := Nat.mod_lt _ (by decide)
  generalize hM : 4503599627370496 + r % 4503599627370496 = m at *
  have hml : 4503599627370496 ≤ m ∧ m < 9007199254740992 := by omega
  have hlog : (m * 4503599627370496).log2 = 104 := log_eq (by omega) (by omega)
  unfold Format.nearest
  rw [if_neg (by omega), lstP, infR, bin, frB, hlog]
  have hd : r / 4503599627370496 ≥ 1 := (Nat.le_div_iff_mul_le (by decide)).2 (by omega)
  have hdm := Nat.div_add_mod r 4503599627370496
  generalize r / 4503599627370496 = d at *
  have hlast : max ((-1074 : Int) + ((d - 1 : Nat) : Int) + ((k : Int) - 52) + ((104 : Nat) : Int) - ((52 : Nat) : Int)) (-1074) = -1074 + ((d - 1 : Nat) : Int) + k := by omega
  simp only [hlast]
  have hcut : rne (m * 4503599627370496) 52 = m := by
    have h := rne_whole m 52
    rwa [show (2 : Nat) ^ 52 = 4503599627370496 by decide] at h
  rw [show ((-1074 : Int) + ((d - 1 : Nat) : Int) + ((k : Int) - 52) - (-1074 + ((d - 1 : Nat) : Int) + k)).toNat = 0 by omega,
    show ((-1074 : Int) + ((d - 1 : Nat) : Int) + k - (-1074 + ((d - 1 : Nat) : Int) + ((k : Int) - 52))).toNat = 52 by omega,
    Nat.shiftLeft_zero, cut_even _ (by omega), hcut,
    show ((-1074 : Int) + ((d - 1 : Nat) : Int) + k - -1074).toNat = d - 1 + k by omega, word_f]
  apply congrArg some
  rw [Nat.min_eq_left (by omega)]
  omega
theorem product_comm (d e : Datum) : d.product e = e.product d := by
  cases d <;> cases e <;> simp [Datum.product, Bool.xor_comm, Nat.mul_comm, Int.add_comm]
theorem mul_swap (x y : Nat) : Ieee.double.mul x y = Ieee.double.mul y x := by
  unfold Format.mul; rw [product_comm]
theorem toInt_fN {n : Nat} (h : n < 9007199254740992) : (Ieee.double.read (fN n)).toInt .zero = some (n : Int) := by
  by_cases h0 : n = 0
  · subst h0; decide
  have hL : n.log2 < 53 := (Nat.log2_lt h0).2 (by omega)
  have h1 := log_le h0
  have h2 := log_gt n
  have hlt := fN_lt (n := n) (by omega)
  rw [read_normal (fN_ge h0) hlt]
  have hs := sig_lim h0
  have es : sig n = n * 2 ^ (52 - n.log2) := by unfold sig; rw [if_pos (by omega)]
  have hup : sig n < 9007199254740992 := by
    rw [es]
    have e2 : 2 ^ (n.log2 + 1) * 2 ^ (52 - n.log2) = 9007199254740992 := by rw [← Nat.pow_add, show n.log2 + 1 + (52 - n.log2) = 53 by omega]
    rw [← e2]
    exact Nat.mul_lt_mul_of_pos_right h2 (Nat.two_pow_pos _)
  have ef : fN n = (n.log2 + 1022) * 4503599627370496 + sig n := by unfold fN; rw [if_neg h0]
  have em : 4503599627370496 + fN n % 4503599627370496 = sig n := by omega
  have ed : fN n / 4503599627370496 - 1 = n.log2 + 1022 := by omega
  rw [em, ed]
  simp only [Datum.toInt, Datum.integral]
  rw [show ((-1074 : Int) + ((n.log2 + 1022 : Nat) : Int)).toNat = 0 by omega, show (-((-1074 : Int) + ((n.log2 + 1022 : Nat) : Int))).toNat = 52 - n.log2 by omega]
  have hlg : (sig n).log2 = 52 := log_eq (by omega) (by omega)
  have hcut : Toward.zero.cut false (sig n <<< 0) (52 - n.log2) = n := by
    unfold Toward.cut
    simp only [Nat.shiftLeft_zero, hlg, Nat.min_eq_left (show 52 - n.log2 ≤ 52 + 2 by omega), Nat.one_shiftLeft]
    rw [es, Nat.mul_div_cancel _ (Nat.two_pow_pos _)]
    rfl
  simp only [hcut]
  simp [signed]
theorem rne_mono {a b : Nat} (d : Nat) (h : a ≤ b) : rne a d ≤ rne b d := by
  have hp := Nat.two_pow_pos d
  have h1 := Nat.div_le_div_right (c := 2 ^ d) h
  have h2 := Nat.div_add_mod a (2 ^ d)
  have h3 := Nat.div_add_mod b (2 ^ d)
  unfold rne
  rcases Nat.lt_or_ge (a / 2 ^ d) (b / 2 ^ d) with hl | hl
  · split <;> split <;> omega
  · have e : a / 2 ^ d = b / 2 ^ d := Nat.le_antisymm h1 hl
    rw [e] at h2 ⊢
    generalize 2 ^ d * (b / 2 ^ d) = K at *
    generalize b / 2 ^ d = q at *
    generalize 2 ^ d = P at *
    split <;> split <;> omega
theorem fN_mono {a b : Nat} (h : a ≤ b) : fN a ≤ fN b := by
  by_cases ha : a = 0
  · subst ha; unfold fN; rw [if_pos rfl]; omega
  have hb : b ≠ 0 := by omega
  have sa := sig_lim ha
  have sb := sig_lim hb
  have hl : a.log2 ≤ b.log2 := (Nat.le_log2 hb).2 (Nat.le_trans (log_le ha) h)
  unfold fN
  rw [if_neg ha, if_neg hb]
  rcases Nat.lt_or_ge a.log2 b.log2 with hlt | hge
  · omega
  · have e : a.log2 = b.log2 := Nat.le_antisymm hl hge
    have hsg : sig a ≤ sig b := by
      unfold sig
      rw [e]
      split
      · exact Nat.mul_le_mul_right _ h
      · exact rne_mono _ h
    omega
theorem rne_two (n d : Nat) : rne (2 * n) (d + 1) = rne n d := by
  have hp := Nat.two_pow_pos d
  have e1 : 2 * n / 2 ^ (d + 1) = n / 2 ^ d := by rw [Nat.pow_succ, Nat.mul_comm (2 ^ d) 2, Nat.mul_div_mul_left _ _ (by decide)]
  have e2 : 2 * n % 2 ^ (d + 1) = 2 * (n % 2 ^ d) := by rw [Nat.pow_succ, Nat.mul_comm (2 ^ d) 2, Nat.mul_mod_mul_left]
  unfold rne
  rw [e1, e2, Nat.pow_succ]
  generalize n % 2 ^ d = r at *
  generalize n / 2 ^ d = q at *
  generalize 2 ^ d = P at *
  split <;> split <;> omega
theorem log_two {n : Nat} (h : n ≠ 0) : (2 * n).log2 = n.log2 + 1 := by
  have h1 := log_le h
  have h2 := log_gt n
  apply log_eq
  · rw [Nat.pow_succ]; omega
  · rw [Nat.pow_succ]; omega
theorem fN_two {n : Nat} (h : n ≠ 0) : fN (2 * n) = fN n + 4503599627370496 := by
  unfold fN
  rw [if_neg h, if_neg (by omega), log_two h]
  have e : sig (2 * n) = sig n := by
    unfold sig
    rw [log_two h]
    by_cases h1 : n.log2 + 1 ≤ 52
    · rw [if_pos h1, if_pos (by omega), show 52 - n.log2 = 52 - (n.log2 + 1) + 1 by omega, Nat.pow_succ]
      rw [Nat.mul_comm 2 n, Nat.mul_assoc, Nat.mul_comm 2]
    · rw [if_neg h1]
      by_cases h2 : n.log2 ≤ 52
      · rw [if_pos h2, show n.log2 + 1 - 52 = 1 by omega, show 52 - n.log2 = 0 by omega, Nat.mul_comm 2 n]
        exact (rne_whole n 1).trans (by simp)
      · rw [if_neg h2, show n.log2 + 1 - 52 = (n.log2 - 52) + 1 by omega, rne_two]
  rw [e]
  omega
theorem fN_mid {m : Nat} (h1 : 4503599627370496 ≤ m) (h2 : m ≤ 9007199254740992) : fN m = 1074 * 4503599627370496 + m := by
  have h0 : m ≠ 0 := by omega
  unfold fN sig
  rw [if_neg h0]
  rcases Nat.lt_or_ge m 9007199254740992 with h | h
  · have e : m.log2 = 52 := log_eq (by omega) (by omega)
    rw [e, if_pos (by omega)]
    simp
  · have e : m = 9007199254740992 := by omega
    subst e
    decide
/-- The highest 64 bits, with the last one set if anything is below them, round as the whole does. -/
theorem rne_sticky {n k t top : Nat} (ht : t = n / 2 ^ k) (h : top = if n % 2 ^ k = 0 then t else t / 2 * 2 + 1) : rne n (k + 11) = rne top 11 := by
  have hp := Nat.two_pow_pos k
  have e1 : n / 2 ^ (k + 11) = t / 2048 := by rw [Nat.pow_add, ← Nat.div_div_eq_div_mul, ht]
  have e2 : n % 2 ^ (k + 11) = 2 ^ k * (t % 2048) + n % 2 ^ k := by
    rw [Nat.pow_add, Nat.mod_mul, ← ht, show (2 : Nat) ^ 11 = 2048 by decide]; omega
  have he := Nat.mod_lt n hp
  have e3 : top / 2048 = t / 2048 := by rw [h]; split <;> omega
  have e4 : top % 2048 = if n % 2 ^ k = 0 then t % 2048 else t % 2048 / 2 * 2 + 1 := by rw [h]; split <;> omega
  have hu : t % 2048 < 2048 := Nat.mod_lt _ (by decide)
  unfold rne
  rw [e1, e2, show (2 : Nat) ^ 11 = 2048 by decide, e3, e4, Nat.pow_add, show (2 : Nat) ^ 11 = 2048 by decide]
  generalize t / 2048 = q at *
  generalize t % 2048 = u at *
  generalize n % 2 ^ k = e at *
  generalize 2 ^ k = K at *
  congr 1
  have key : (K * 2048 < 2 * (K * u + e) ∨ K * 2048 = 2 * (K * u + e) ∧ q % 2 = 1) ↔ (2048 < 2 * (if e = 0 then u else u / 2 * 2 + 1) ∨ 2048 = 2 * (if e = 0 then u else u / 2 * 2 + 1) ∧ q % 2 = 1) := by
    rcases Nat.lt_trichotomy u 1024 with hlt | heq | hgt
    · have hm : K * u ≤ K * 1023 := Nat.mul_le_mul_left K (by omega)
      split <;> omega
    · subst heq
      split <;> omega
    · have hm : K * 1025 ≤ K * u := Nat.mul_le_mul_left K (by omega)
      split <;> omega
  by_cases hc : (K * 2048 < 2 * (K * u + e) ∨ K * 2048 = 2 * (K * u + e) ∧ q % 2 = 1)
  · rw [if_pos hc, if_pos (key.1 hc)]
  · rw [if_neg hc, if_neg (fun h => hc (key.2 h))]
theorem fN_sticky {n k t top : Nat} (hn : n.log2 = k + 63) (h0 : n ≠ 0) (ht : t = n / 2 ^ k) (h : top = if n % 2 ^ k = 0 then t else t / 2 * 2 + 1) : fN n = fN top + k * 4503599627370496 := by
  have hp := Nat.two_pow_pos k
  have h1 := log_le h0
  have h2 := log_gt n
  rw [hn] at h1 h2
  have t1 : 9223372036854775808 ≤ t := by
    rw [ht]; apply (Nat.le_div_iff_mul_le hp).2
    rw [Nat.pow_add] at h1; omega
  have t2 : t < 18446744073709551616 := by
    rw [ht]; apply (Nat.div_lt_iff_lt_mul hp).2
    rw [show k + 63 + 1 = k + 64 by omega, Nat.pow_add] at h2; omega
  have l1 : 9223372036854775808 ≤ top ∧ top < 18446744073709551616 := by rw [h]; split <;> omega
  have el : top.log2 = 63 := log_eq (by omega) (by omega)
  have e0 : top ≠ 0 := by omega
  unfold fN sig
  rw [if_neg h0, if_neg e0, el, hn, if_neg (by omega), if_neg (by omega), show k + 63 - 52 = k + 11 by omega, rne_sticky ht h, show 63 - 52 = 11 by decide]
  omega
/-- The first 53 bits, the next one, and whether there is more, round as the whole does. -/
theorem rne_bits {n d : Nat} (hd : 0 < d) : rne n d = n / 2 ^ d + (if n / 2 ^ (d - 1) % 2 = 1 ∧ (n % 2 ^ (d - 1) ≠ 0 ∨ n / 2 ^ d % 2 = 1) then 1 else 0) := by
  obtain ⟨k, rfl⟩ := Nat.exists_eq_add_of_lt hd
  rw [show 0 + k + 1 = k + 1 by omega, show k + 1 - 1 = k by omega]
  have hp := Nat.two_pow_pos k
  have e2 : n % 2 ^ (k + 1) = 2 ^ k * (n / 2 ^ k % 2) + n % 2 ^ k := by
    rw [Nat.pow_succ, Nat.mod_mul]; omega
  have he := Nat.mod_lt n hp
  unfold rne
  rw [e2, Nat.pow_succ]
  have hb : n / 2 ^ k % 2 = 0 ∨ n / 2 ^ k % 2 = 1 := by omega
  generalize n / (2 ^ k * 2) = q at *
  generalize n / 2 ^ k % 2 = b at *
  generalize n % 2 ^ k = e at *
  generalize 2 ^ k = K at *
  congr 1
  rcases hb with rfl | rfl <;> split <;> split <;> omega
end Go.Proofs.Ytpdokkhpeoeebaa
