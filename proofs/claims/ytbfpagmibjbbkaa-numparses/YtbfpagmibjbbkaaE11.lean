
/- Texts and numbers: plain facts. -/
import Derived.Test.YtbfpagmibjbbkaaE10
set_option linter.unusedSimpArgs false
set_option linter.unusedVariables false
namespace Go.Proofs.Ytbfpagmibjbbkaa
open Go.RowKit

/-- A number has t + 1 digits. -/
def Dgs (N : Int) (t : Nat) : Prop := N / 10 ^ (t + 1) = 0 ∧ (t = 0 ∨ N / 10 ^ t ≠ 0)
theorem p10 (t : Nat) : (0 : Int) < 10 ^ t := Int.pow_pos (by decide)
theorem dgs_lt {N : Int} (h0 : 0 ≤ N) {t : Nat} (h : N / 10 ^ t = 0) : N < 10 ^ t := by
  have h1 := Int.emod_add_mul_ediv N (10 ^ t)
  have h2 := Int.emod_lt_of_pos N (p10 t)
  rw [h] at h1; omega
theorem dgs_ge {N : Int} (h0 : 0 ≤ N) {t : Nat} (h : N / 10 ^ t ≠ 0) : 10 ^ t ≤ N := by
  apply Int.not_lt.1; intro hh; exact h (Int.ediv_eq_zero_of_lt h0 hh)
theorem p10_le {a b : Nat} (h : a ≤ b) : (10 : Int) ^ a ≤ 10 ^ b := by
  obtain ⟨d, rfl⟩ := Nat.exists_eq_add_of_le h
  rw [Int.pow_add]
  have := Int.mul_le_mul_of_nonneg_left (show (1 : Int) ≤ 10 ^ d by have := p10 d; omega) (Int.le_of_lt (p10 a))
  omega
theorem dgs_one {N : Int} (h0 : 0 ≤ N) {t u : Nat} (h : Dgs N t) (k : Dgs N u) : t = u := by
  have a1 := dgs_lt h0 h.1
  have a2 := dgs_lt h0 k.1
  apply Nat.le_antisymm
  · apply Nat.le_of_not_lt; intro hh
    rcases h.2 with e | e
    · omega
    · have := dgs_ge h0 e; have := p10_le (a := u + 1) (b := t) (by omega); omega
  · apply Nat.le_of_not_lt; intro hh
    rcases k.2 with e | e
    · omega
    · have := dgs_ge h0 e; have := p10_le (a := t + 1) (b := u) (by omega); omega

theorem pv_fold (l : List UInt8) (v : Int) : l.foldl (fun v b => v * 10 + ((b.toNat : Int) - 48)) v = v * 10 ^ l.length + pv l := by
  unfold pv
  induction l generalizing v with
  | nil => simp
  | cons b l ih =>
    simp only [List.foldl_cons, List.length_cons]
    rw [ih, ih (0 * 10 + _), Int.pow_succ]
    generalize List.foldl _ _ _ = Q
    generalize (10 : Int) ^ l.length = T
    generalize ((b.toNat : Int) - 48) = B
    grind
theorem pv_cons (b : UInt8) (l : List UInt8) : pv (b :: l) = ((b.toNat : Int) - 48) * 10 ^ l.length + pv l := by
  have := pv_fold l (0 * 10 + ((b.toNat : Int) - 48))
  rw [Int.zero_mul, Int.zero_add] at this
  rw [← this]; simp [pv]
theorem dig_nat {d : Int} (h0 : 0 ≤ d) (h1 : d ≤ 9) : (((UInt8.ofNat (48 + d).toNat).toNat : Int)) = 48 + d := by
  have : (UInt8.ofNat (48 + d).toNat).toNat = (48 + d).toNat := by
    rw [UInt8.toNat_ofNat']; exact Nat.mod_eq_of_lt (by omega)
  rw [this]; omega
theorem dig_lim (N : Int) (t : Nat) : 0 ≤ N / 10 ^ t % 10 ∧ N / 10 ^ t % 10 ≤ 9 := by omega
theorem mod10 (N : Int) (t : Nat) : N / 10 ^ t % 10 * 10 ^ t + N % 10 ^ t = N % 10 ^ (t + 1) := by
  have hT := p10 t
  have h1 := Int.emod_add_mul_ediv N (10 ^ t)
  have h2 := Int.emod_add_mul_ediv (N / 10 ^ t) 10
  have h3 := Int.emod_lt_of_pos N hT
  have h4 := Int.emod_nonneg N (show (10 : Int) ^ t ≠ 0 by omega)
  have h5 := dig_lim N t
  rw [Int.pow_succ]
  generalize (10 : Int) ^ t = T at *
  generalize N / T = Q at *
  generalize N % T = R at *
  have h6 : N = (Q % 10 * T + R) + T * 10 * (Q / 10) := by rw [← h1]; generalize Q % 10 = A at *; generalize Q / 10 = B at *; subst h2; grind
  have h7 : Q % 10 * T ≤ 9 * T := Int.mul_le_mul_of_nonneg_right h5.2 (by omega)
  have h8 : 0 ≤ Q % 10 * T := Int.mul_nonneg h5.1 (by omega)
  generalize Q % 10 * T = A at *
  rw [h6, Int.add_mul_emod_self_left]
  exact (Int.emod_eq_of_lt (by omega) (by omega)).symm
theorem pv_tl (N : Int) : ∀ t, pv (tl N t) = N % 10 ^ t
  | 0 => by simp [tl, pv]
  | t + 1 => by
    have h := dig_lim N t
    rw [tl, pv_cons, tl_len, pv_tl N t, dig_nat h.1 h.2, ← mod10]
    congr 2; omega
theorem pv_txt {N : Int} {t : Nat} (h0 : 0 ≤ N) (h : Dgs N t) : pv (txt N (t + 1)).data.toList = N := by
  show pv (tl N (t + 1)) = N
  rw [pv_tl]; exact Int.emod_eq_of_lt h0 (dgs_lt h0 h.1)
theorem tl_dig (N : Int) : ∀ t b, b ∈ tl N t → 48 ≤ (b.toNat : Int) ∧ (b.toNat : Int) ≤ 57
  | 0, b, h => by simp [tl] at h
  | t + 1, b, h => by
    simp only [tl, List.mem_cons] at h
    rcases h with rfl | h
    · have h := dig_lim N t
      rw [dig_nat h.1 h.2]; omega
    · exact tl_dig N t b h
theorem txt_dig (N : Int) (t : Nat) : DigS (txt N t) := by
  intro i h
  apply tl_dig N t
  show (txt N t).data.toList[i]'_ ∈ _
  exact List.getElem_mem _
theorem pvl_lim : ∀ (l : List UInt8), (∀ b ∈ l, 48 ≤ (b.toNat : Int) ∧ (b.toNat : Int) ≤ 57) → 0 ≤ pv l ∧ pv l < 10 ^ l.length
  | [], _ => by simp [pv]
  | b :: l, hb => by
    have h1 := hb b (by simp)
    have ih := pvl_lim l (fun c hc => hb c (by simp [hc]))
    rw [pv_cons, List.length_cons, Int.pow_succ]
    have hT := p10 l.length
    generalize (10 : Int) ^ l.length = T at *
    have h2 : ((b.toNat : Int) - 48) * T ≤ 9 * T := Int.mul_le_mul_of_nonneg_right (by omega) (by omega)
    have h3 : 0 ≤ ((b.toNat : Int) - 48) * T := Int.mul_nonneg (by omega) (by omega)
    omega
theorem tl_pv : ∀ (l : List UInt8), (∀ b ∈ l, 48 ≤ (b.toNat : Int) ∧ (b.toNat : Int) ≤ 57) → ∀ N, N % 10 ^ l.length = pv l → tl N l.length = l
  | [], _, _, _ => rfl
  | b :: l, hb, N, h => by
    have h1 := hb b (by simp)
    have h2 := dig_lim N l.length
    have hT := p10 l.length
    have e1 := mod10 N l.length
    rw [show l.length + 1 = (b :: l).length from rfl, h, pv_cons] at e1
    have h3 := Int.emod_lt_of_pos N hT
    have h4 := Int.emod_nonneg N (show (10 : Int) ^ l.length ≠ 0 by omega)
    have h5 : 0 ≤ pv l ∧ pv l < 10 ^ l.length := pvl_lim l (fun c hc => hb c (by simp [hc]))
    have e2 : N / 10 ^ l.length % 10 = (b.toNat : Int) - 48 ∧ N % 10 ^ l.length = pv l := by
      generalize N / 10 ^ l.length % 10 = D at *
      generalize N % 10 ^ l.length = R at *
      generalize (10 : Int) ^ l.length = T at *
      generalize pv l = P at *
      generalize hB : ((b.toNat : Int) - 48) = B at *
      have e3 : (D - B) * T = P - R := by rw [Int.sub_mul]; omega
      have e4 : D - B = 0 := by
        rcases Int.lt_trichotomy (D - B) 0 with e | e | e
        · have := Int.mul_le_mul_of_nonneg_right (show D - B ≤ -1 by omega) (Int.le_of_lt hT); omega
        · exact e
        · have := Int.mul_le_mul_of_nonneg_right (show 1 ≤ D - B by omega) (Int.le_of_lt hT); omega
      rw [e4] at e3; omega
    rw [List.length_cons, tl, tl_pv l (fun c hc => hb c (by simp [hc])) N e2.2, e2.1]
    congr 1
    rw [show 48 + ((b.toNat : Int) - 48) = (b.toNat : Int) by omega, Int.toNat_natCast]
    exact UInt8.ofNat_toNat
theorem dig_list {s : ByteArray} (hd : DigS s) : ∀ b ∈ s.data.toList, 48 ≤ (b.toNat : Int) ∧ (b.toNat : Int) ≤ 57 := by
  intro b hb
  obtain ⟨i, hi, rfl⟩ := List.getElem_of_mem hb
  exact hd i (by simpa using hi)
/-- A text of digits without a nought ahead is its number's text. -/
theorem txt_pv {s : ByteArray} (hd : DigS s) {t : Nat} (ht : s.size = t + 1) (h0 : ((s[0]'(by omega)).toNat : Int) ≠ 48 ∨ s.size = 1) : Dgs (pv s.data.toList) t ∧ txt (pv s.data.toList) (t + 1) = s := by
  have hl : s.data.toList.length = t + 1 := by simpa using ht
  have hlim := pvl_lim _ (dig_list hd)
  rw [hl] at hlim
  constructor
  · refine ⟨Int.ediv_eq_zero_of_lt hlim.1 hlim.2, ?_⟩
    rcases h0 with h | h
    · right
      have e : ∃ b l, s.data.toList = b :: l := by
        match hh : s.data.toList with
        | [] => rw [hh] at hl; simp at hl
        | b :: l => exact ⟨b, l, rfl⟩
      obtain ⟨b, l, e⟩ := e
      have hb0 : s[0]'(by omega) = b := by
        have : s.data.toList[0]'(by omega) = b := by simp [e]
        rw [← this]; rfl
      rw [hb0] at h
      have hll : l.length = t := by rw [e] at hl; simpa using hl
      have hbd := dig_list hd b (by rw [e]; simp)
      have hp := pvl_lim l (fun c hc => dig_list hd c (by rw [e]; simp [hc]))
      rw [e, pv_cons, hll]
      rw [hll] at hp
      have hT := p10 t
      have h2 : 1 * 10 ^ t ≤ ((b.toNat : Int) - 48) * 10 ^ t := Int.mul_le_mul_of_nonneg_right (by omega) (by omega)
      intro hz
      have := dgs_lt (by omega) hz
      omega
    · left; omega
  · apply ByteArray.ext
    apply Array.toList_inj.1
    show tl _ _ = _
    have := tl_pv s.data.toList (dig_list hd) (pv s.data.toList) (by rw [hl]; exact Int.emod_eq_of_lt hlim.1 hlim.2)
    rw [hl] at this
    exact this
/-- A number's text begins with no nought, or is that. -/
theorem txt_head {N : Int} {t : Nat} (h0 : 0 ≤ N) (h : Dgs N t) (hs : 0 < (txt N (t + 1)).size := by rw [txt_size]; omega) : (((txt N (t + 1))[0]'hs).toNat : Int) ≠ 48 ∨ txt N (t + 1) = ⟨#[48]⟩ := by
  have e : (txt N (t + 1))[0]'hs = UInt8.ofNat (48 + N / 10 ^ t % 10).toNat := rfl
  have hl := dig_lim N t
  rw [e, dig_nat hl.1 hl.2]
  rcases h.2 with rfl | hh
  · by_cases hz : N / 10 ^ 0 % 10 = 0
    · right; simp only [txt, tl, hz]; rfl
    · left; omega
  · left
    have h1 := dgs_lt h0 h.1
    have h2 : N / 10 ^ t < 10 := by
      apply Int.ediv_lt_of_lt_mul (p10 t)
      rw [Int.pow_succ, Int.mul_comm] at h1; exact h1
    have h3 : 0 ≤ N / 10 ^ t := Int.ediv_nonneg h0 (Int.le_of_lt (p10 t))
    omega
end Go.Proofs.Ytbfpagmibjbbkaa
