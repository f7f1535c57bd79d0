
/- Bytes of a number, the highest first, and back: plain facts. -/
import Derived.Test.YtgphdioolcfmmaaB2
import Derived.Test.YtgphdioolcfmmaaD2
set_option linter.unusedSimpArgs false
set_option linter.unusedVariables false
set_option maxRecDepth 20000
namespace Go.Proofs.Ytgphdioolcfmmaa
open Go.RowKit

/-- The first j of the 32 bytes, none too many ahead. -/
def byL (n : Int) : Nat → List Int
  | 0 => []
  | j + 1 => stepB (byL n j) (n / 256 ^ (31 - j) % 256)
def rd (p : List Int) : Int := p.foldl (fun a b => a * 256 + b) 0
theorem rd_nil : rd [] = 0 := rfl
theorem rd_snoc (p : List Int) (b : Int) : rd (p ++ [b]) = rd p * 256 + b := by simp [rd]
theorem rd_step (p : List Int) (b : Int) : rd (stepB p b) = rd p * 256 + b := by
  unfold stepB; split
  · rename_i h; rw [h.1, h.2]; rfl
  · exact rd_snoc p b
theorem div_256 (n : Int) (k : Nat) : n / 256 ^ k = n / 256 ^ (k + 1) * 256 + n / 256 ^ k % 256 := by
  have e : n / 256 ^ (k + 1) = n / 256 ^ k / 256 := by
    rw [Int.pow_succ]
    first
      | exact (Int.ediv_ediv_eq_ediv_mul _ (Int.pow_nonneg (by decide))).symm
      | exact (Int.ediv_ediv (Int.pow_nonneg (by decide))).symm
      | exact (Int.ediv_ediv_of_nonneg (Int.pow_nonneg (by decide))).symm
  rw [e]
  generalize n / 256 ^ k = q
  omega
theorem rd_byL {n : Int} (h0 : 0 ≤ n) (h1 : n < 115792089237316195423570985008687907853269984665640564039457584007913129639936) : ∀ j, j ≤ 32 → rd (byL n j) = n / 256 ^ (32 - j)
  | 0, _ => by
    have e : (256 : Int) ^ (32 - 0) = 115792089237316195423570985008687907853269984665640564039457584007913129639936 := by decide
    rw [e, Int.ediv_eq_zero_of_lt h0 h1]; rfl
  | j + 1, h => by
    have ih := rd_byL h0 h1 j (by omega)
    simp only [byL]
    rw [rd_step, ih]
    have e1 : 32 - j = (31 - j) + 1 := by omega
    have e2 : 32 - (j + 1) = 31 - j := by omega
    rw [e1, e2]
    exact (div_256 n (31 - j)).symm
theorem rd_byL32 {n : Int} (h0 : 0 ≤ n) (h1 : n < 115792089237316195423570985008687907853269984665640564039457584007913129639936) : rd (byL n 32) = n := by
  rw [rd_byL h0 h1 32 (by omega)]; simp
theorem byL_len (n : Int) : ∀ j, (byL n j).length ≤ j
  | 0 => by simp [byL]
  | j + 1 => by have := byL_len n j; have := stepB_len (byL n j) (n / 256 ^ (31 - j) % 256); simp only [byL]; omega
/-- Bytes as they are laid: each from 0 to 255, the first one not 0. -/
def Good (p : List Int) : Prop := (∀ b ∈ p, 0 ≤ b ∧ b ≤ 255) ∧ ∀ b, p.head? = some b → 0 < b
theorem good_nil : Good [] := ⟨by simp, by simp⟩
theorem good_step {p : List Int} {b : Int} (h : Good p) (hb : 0 ≤ b ∧ b ≤ 255) : Good (stepB p b) := by
  unfold stepB; split
  · exact h
  · rename_i hn
    refine ⟨fun x hx => ?_, fun x hx => ?_⟩
    · rcases List.mem_append.1 hx with hx | hx
      · exact h.1 x hx
      · rw [List.mem_singleton] at hx; rw [hx]; exact hb
    · cases p with
      | nil => simp at hx hn; omega
      | cons y p => simp at hx; exact h.2 x (by simp [hx])
theorem byL_good (n : Int) : ∀ j, Good (byL n j)
  | 0 => good_nil
  | j + 1 => good_step (byL_good n j) (by omega)
theorem good_snoc {p : List Int} {b : Int} (h : Good (p ++ [b])) : Good p ∧ (0 ≤ b ∧ b ≤ 255) := by
  refine ⟨⟨fun x hx => h.1 x (by simp [hx]), fun x hx => h.2 x ?_⟩, h.1 b (by simp)⟩
  cases p with
  | nil => simp at hx
  | cons y p => simpa using hx
theorem rd_nonneg : ∀ (n : Nat) (p : List Int), p.length = n → (∀ b ∈ p, 0 ≤ b ∧ b ≤ 255) → 0 ≤ rd p ∧ rd p < 256 ^ n
  | 0, p, hl, _ => by
    obtain rfl := List.eq_nil_of_length_eq_zero hl
    simp [rd]
  | n + 1, p, hl, hb => by
    have hne : p ≠ [] := by intro e; rw [e] at hl; simp at hl
    have e := List.dropLast_concat_getLast hne
    have hm := hb (p.getLast hne) (List.getLast_mem hne)
    have ih := rd_nonneg n p.dropLast (by simp [hl]) (fun b h => hb b ((List.dropLast_sublist _).subset h))
    rw [← e, rd_snoc, Int.pow_succ]
    generalize (256 : Int) ^ n = B at *
    omega
theorem rd_pos {p : List Int} (h : Good p) (hne : p ≠ []) : 0 < rd p := by
  induction hl : p.length generalizing p with
  | zero => exact absurd (List.eq_nil_of_length_eq_zero hl) hne
  | succ n ih =>
    have e := List.dropLast_concat_getLast hne
    rw [← e] at h ⊢
    obtain ⟨h1, h2⟩ := good_snoc h
    rw [rd_snoc]
    by_cases hd : p.dropLast = []
    · rw [hd, rd_nil]
      rw [hd] at h
      have := h.2 (p.getLast hne) (by simp)
      omega
    · have := ih h1 hd (by simp [hl])
      omega
theorem rd_inj : ∀ (n : Nat) (p q : List Int), p.length ≤ n → Good p → Good q → rd p = rd q → p = q
  | 0, p, q, hl, hp, hq, he => by
    obtain rfl := List.eq_nil_of_length_eq_zero (show p.length = 0 by omega)
    by_cases h : q = []
    · exact h.symm
    · have := rd_pos hq h; rw [rd_nil] at he; omega
  | n + 1, p, q, hl, hp, hq, he => by
    by_cases h : p = []
    · subst h
      by_cases h : q = []
      · exact h.symm
      · have := rd_pos hq h; rw [rd_nil] at he; omega
    · by_cases h' : q = []
      · subst h'; have := rd_pos hp h; rw [rd_nil] at he; omega
      · have e1 := List.dropLast_concat_getLast h
        have e2 := List.dropLast_concat_getLast h'
        have hl' : p.dropLast.length ≤ n := by simp; omega
        rw [← e1, ← e2]
        rw [← e1] at hp
        rw [← e2] at hq
        rw [← e1, ← e2, rd_snoc, rd_snoc] at he
        obtain ⟨g1, b1⟩ := good_snoc hp
        obtain ⟨g2, b2⟩ := good_snoc hq
        generalize p.getLast h = b at *
        generalize q.getLast h' = c at *
        have hb : b = c := by omega
        have := rd_inj n p.dropLast q.dropLast hl' g1 g2 (by omega)
        rw [this, hb]
theorem byL_rd {p : List Int} (h : Good p) (hl : p.length ≤ 32) : byL (rd p) 32 = p := by
  have e : (256 : Int) ^ 32 = 115792089237316195423570985008687907853269984665640564039457584007913129639936 := by decide
  have h1 := rd_nonneg p.length p rfl h.1
  have h2 : (256 : Int) ^ p.length ≤ 256 ^ 32 := by
    obtain ⟨d, hd⟩ := Nat.exists_eq_add_of_le hl
    rw [hd, Int.pow_add]
    have h1 : (0 : Int) < 256 ^ p.length := Int.pow_pos (by decide)
    have h2 : (0 : Int) < 256 ^ d := Int.pow_pos (by decide)
    have h3 : 256 ^ p.length * 1 ≤ (256 : Int) ^ p.length * 256 ^ d := Int.mul_le_mul_of_nonneg_left (by omega) (by omega)
    omega
  exact rd_inj 32 _ _ (byL_len _ _) (byL_good _ _) h (rd_byL32 h1.1 (by omega))

set_option maxRecDepth 100000 in
theorem bytesB_byL {x0 x1 x2 x3 : Int} (hx : Lim x0 x1 x2 x3) : bytesB (limbsDown hx) = byL (val x0 x1 x2 x3) 32 := by
  have h3 : ∀ p : List Int, ∀ j, j < 8 → x3 / 2 ^ (56 - 8 * j) % 256 = val x0 x1 x2 x3 / 256 ^ (31 - j) % 256 := by
    intro p j hj
    unfold Lim at hx
    rcases (show j = 0 ∨ j = 1 ∨ j = 2 ∨ j = 3 ∨ j = 4 ∨ j = 5 ∨ j = 6 ∨ j = 7 by omega) with rfl | rfl | rfl | rfl | rfl | rfl | rfl | rfl <;>
      (simp only [val, Nat.reduceMul, Nat.reduceSub, Int.reducePow]; omega)
  have h2 : ∀ p : List Int, ∀ j, j < 8 → x2 / 2 ^ (56 - 8 * j) % 256 = val x0 x1 x2 x3 / 256 ^ (31 - (8 + j)) % 256 := by
    intro p j hj
    unfold Lim at hx
    rcases (show j = 0 ∨ j = 1 ∨ j = 2 ∨ j = 3 ∨ j = 4 ∨ j = 5 ∨ j = 6 ∨ j = 7 by omega) with rfl | rfl | rfl | rfl | rfl | rfl | rfl | rfl <;>
      (simp only [val, Nat.reduceMul, Nat.reduceSub, Nat.reduceAdd, Int.reducePow]; omega)
  have h1 : ∀ p : List Int, ∀ j, j < 8 → x1 / 2 ^ (56 - 8 * j) % 256 = val x0 x1 x2 x3 / 256 ^ (31 - (16 + j)) % 256 := by
    intro p j hj
    unfold Lim at hx
    rcases (show j = 0 ∨ j = 1 ∨ j = 2 ∨ j = 3 ∨ j = 4 ∨ j = 5 ∨ j = 6 ∨ j = 7 by omega) with rfl | rfl | rfl | rfl | rfl | rfl | rfl | rfl <;>
      (simp only [val, Nat.reduceMul, Nat.reduceSub, Nat.reduceAdd, Int.reducePow]; omega)
  have h0 : ∀ p : List Int, ∀ j, j < 8 → x0 / 2 ^ (56 - 8 * j) % 256 = val x0 x1 x2 x3 / 256 ^ (31 - (24 + j)) % 256 := by
    intro p j hj
    unfold Lim at hx
    rcases (show j = 0 ∨ j = 1 ∨ j = 2 ∨ j = 3 ∨ j = 4 ∨ j = 5 ∨ j = 6 ∨ j = 7 by omega) with rfl | rfl | rfl | rfl | rfl | rfl | rfl | rfl <;>
      (simp only [val, Nat.reduceMul, Nat.reduceSub, Nat.reduceAdd, Int.reducePow]; omega)
  have key : ∀ (n v : Int) (o : Nat), (∀ j, j < 8 → v / 2 ^ (56 - 8 * j) % 256 = n / 256 ^ (31 - (o + j)) % 256) → ∀ j, j ≤ 8 → partB (byL n o) v j = byL n (o + j) := by
    intro n v o h j
    induction j with
    | zero => intro _; rfl
    | succ j ih => intro hj; show stepB (partB (byL n o) v j) _ = stepB (byL n (o + j)) _; rw [ih (by omega), h j (by omega)]; rfl
  show partB (partB (partB (partB [] x3 8) x2 8) x1 8) x0 8 = _
  have e3 := key (val x0 x1 x2 x3) x3 0 (fun j hj => by rw [Nat.zero_add]; exact h3 [] j hj) 8 (by omega)
  have e2 := key (val x0 x1 x2 x3) x2 8 (h2 []) 8 (by omega)
  have e1 := key (val x0 x1 x2 x3) x1 16 (h1 []) 8 (by omega)
  have e0 := key (val x0 x1 x2 x3) x0 24 (h0 []) 8 (by omega)
  have e3' : partB [] x3 8 = byL (val x0 x1 x2 x3) 8 := e3
  rw [e3', e2, e1, e0]

theorem bytes_can (x0 x1 x2 x3 : Int) (hx : Lim x0 x1 x2 x3) (w : World) :
    Calls Try.prog 70 #[.agg #[.int .u64 x0, .int .u64 x1, .int .u64 x2, .int .u64 x3]] w fun e w' => ∃ v : Value, e = .returned v ∧ IsBytes w' v (byL (val x0 x1 x2 x3) 32) ∧ Below w.heap.size w w' := by
  refine (bytes_any x0 x1 x2 x3 hx w).mono ?_
  rintro e w' ⟨v, rfl, hr, hb⟩
  rw [bytesB_byL hx] at hr
  have := byL_len (val x0 x1 x2 x3) 32
  exact ⟨v, rfl, own_bytes (by omega) hr, hb⟩
end Go.Proofs.Ytgphdioolcfmmaa
