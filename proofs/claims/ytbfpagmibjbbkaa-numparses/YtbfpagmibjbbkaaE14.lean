
/- Texts as they are used: calls whose answer is known. -/
import Derived.Test.YtbfpagmibjbbkaaE13
import Derived.Test.YtbfpagmibjbbkaaF2
set_option linter.unusedSimpArgs false
set_option linter.unusedVariables false
namespace Go.Proofs.Ytbfpagmibjbbkaa
open Go.RowKit

theorem dgs_ex {N : Int} (h0 : 0 ≤ N) : ∀ T : Nat, N < 10 ^ (T + 1) → ∃ t, Dgs N t
  | 0, h => ⟨0, Int.ediv_eq_zero_of_lt h0 h, .inl rfl⟩
  | T + 1, h => by
    by_cases e : N / 10 ^ (T + 1) = 0
    · exact dgs_ex h0 T (dgs_lt h0 e)
    · exact ⟨T + 1, Int.ediv_eq_zero_of_lt h0 h, .inr e⟩
theorem dgs_num {N : Int} (h0 : 0 ≤ N) (h1 : N < 115792089237316195423570985008687907853269984665640564039457584007913129639936) : ∃ t, t < 78 ∧ Dgs N t := by
  have h2 : (10 : Int) ^ 78 = 1000000000000000000000000000000000000000000000000000000000000000000000000000000 := by decide
  obtain ⟨t, ht⟩ := dgs_ex h0 77 (show N < 10 ^ 78 by omega)
  refine ⟨t, ?_, ht⟩
  apply Nat.lt_of_not_le
  intro hh
  rcases ht.2 with e | e
  · omega
  · have := dgs_ge h0 e; have := p10_le hh; omega
theorem says_text {x0 x1 x2 x3 : Int} (hx : Lim x0 x1 x2 x3) {t : Nat} (h : Dgs (val x0 x1 x2 x3) t) : Says 5 #[.agg #[.int .u64 x0, .int .u64 x1, .int .u64 x2, .int .u64 x3]] (.string (txt (val x0 x1 x2 x3) (t + 1))) := by
  intro w
  refine (text_any _ _ _ _ hx w).mono ?_
  rintro e w' ⟨u, rfl, hu, hb⟩
  obtain rfl := dgs_one (val_lo hx) h hu.out
  exact ⟨rfl, hb⟩
theorem says_textR {x0 x1 x2 x3 : Int} (hx : Lim x0 x1 x2 x3) {t : Nat} (h : Dgs (val x0 x1 x2 x3) t) : Says 8 #[.agg #[.int .u64 x0, .int .u64 x1, .int .u64 x2, .int .u64 x3]] (.string (txt (val x0 x1 x2 x3) (t + 1))) := by
  intro w
  refine (textR_any _ _ _ _ hx w).mono ?_
  rintro e w' ⟨u, rfl, hu, hb⟩
  obtain rfl := dgs_one (val_lo hx) h hu.out
  exact ⟨rfl, hb⟩
theorem says_parse {s : ByteArray} (hs : 0 < s.size ∧ s.size ≤ 300) (hd : DigS s) (h0 : ((s[0]'hs.1).toNat : Int) ≠ 48 ∨ s = ⟨#[48]⟩) {x0 x1 x2 x3 : Int} (hx : Lim x0 x1 x2 x3) (hv : pv s.data.toList = val x0 x1 x2 x3) : Says 6 #[.string s] (.tuple #[.agg #[.int .u64 x0, .int .u64 x1, .int .u64 x2, .int .u64 x3], .int .i64 0]) := by
  intro w
  refine (parse_digits s hs hd h0 w).mono ?_
  have := val_hi hx
  rintro e w' ⟨⟨h1, z0, z1, z2, z3, hz, he, rfl⟩ | ⟨h1, rfl⟩, hb⟩
  · obtain ⟨rfl, rfl, rfl, rfl⟩ := val_inj hz hx (he.out.trans hv)
    exact ⟨rfl, hb⟩
  · omega
theorem says_parse_over {s : ByteArray} (hs : 0 < s.size ∧ s.size ≤ 300) (hd : DigS s) (h0 : ((s[0]'hs.1).toNat : Int) ≠ 48 ∨ s = ⟨#[48]⟩) (hv : 115792089237316195423570985008687907853269984665640564039457584007913129639936 ≤ pv s.data.toList) : Says 6 #[.string s] (.tuple #[.agg #[.int .u64 0, .int .u64 0, .int .u64 0, .int .u64 0], .int .i64 2]) := by
  intro w
  refine (parse_digits s hs hd h0 w).mono ?_
  rintro e w' ⟨⟨h1, z0, z1, z2, z3, hz, he, rfl⟩ | ⟨h1, rfl⟩, hb⟩
  · omega
  · exact ⟨rfl, hb⟩
theorem says_parseR {s : ByteArray} (hs : 0 < s.size ∧ s.size ≤ 78) (hd : DigS s) (h0 : (s[0]'hs.1).toNat ≠ 48 ∨ s.size = 1) {x0 x1 x2 x3 : Int} (hx : Lim x0 x1 x2 x3) (hv : pv s.data.toList = val x0 x1 x2 x3) : Says 9 #[.string s] (.tuple #[.agg #[.int .u64 x0, .int .u64 x1, .int .u64 x2, .int .u64 x3], .int .i64 0]) := by
  intro w
  refine (parseR_digits s hs hd h0 w).mono ?_
  have := val_hi hx
  rintro e w' ⟨⟨h1, z0, z1, z2, z3, hz, he, rfl⟩ | ⟨h1, rfl⟩, hb⟩
  · obtain ⟨rfl, rfl, rfl, rfl⟩ := val_inj hz hx (he.out.trans hv)
    exact ⟨rfl, hb⟩
  · omega
theorem says_parseR_over {s : ByteArray} (hs : 0 < s.size ∧ s.size ≤ 78) (hd : DigS s) (h0 : (s[0]'hs.1).toNat ≠ 48 ∨ s.size = 1) (hv : 115792089237316195423570985008687907853269984665640564039457584007913129639936 ≤ pv s.data.toList) : Says 9 #[.string s] (.tuple #[.agg #[.int .u64 0, .int .u64 0, .int .u64 0, .int .u64 0], .int .i64 2]) := by
  intro w
  refine (parseR_digits s hs hd h0 w).mono ?_
  rintro e w' ⟨⟨h1, z0, z1, z2, z3, hz, he, rfl⟩ | ⟨h1, rfl⟩, hb⟩
  · omega
  · exact ⟨rfl, hb⟩
theorem one_nought {s : ByteArray} (h : s.size = 1) (h0 : ((s[0]'(by omega)).toNat : Int) = 48) : s = ⟨#[48]⟩ := by
  have e : s[0]'(by omega) = 48 := by apply UInt8.toNat_inj.1; show _ = 48; omega
  apply ByteArray.ext
  apply Array.ext
  · simpa using h
  · intro i h1 h2
    have : i = 0 := by simp at h2; exact h2
    subst this
    exact e
/-- What both readers answer of any text, and its text if it is one. -/
theorem parses (s : ByteArray) (hs : s.size ≤ 300) : ∃ z0 z1 z2 z3 c : Int, Says 6 #[.string s] (.tuple #[.agg #[.int .u64 z0, .int .u64 z1, .int .u64 z2, .int .u64 z3], .int .i64 c]) ∧ Says 9 #[.string s] (.tuple #[.agg #[.int .u64 z0, .int .u64 z1, .int .u64 z2, .int .u64 z3], .int .i64 c]) ∧ ((c = 0 ∧ Says 5 #[.agg #[.int .u64 z0, .int .u64 z1, .int .u64 z2, .int .u64 z3]] (.string s)) ∨ c = 2 ∨ c = 4) := by
  by_cases h0 : s.size = 0
  · have e : s = ⟨#[]⟩ := by
      apply ByteArray.ext
      apply Array.ext
      · simpa using h0
      · intro i h1 h2; simp at h2
    subst e
    exact ⟨0, 0, 0, 0, 4, fun w => parse_empty _ rfl w, fun w => parseR_empty w, .inr (.inr rfl)⟩
  have hp : 0 < s.size := by omega
  by_cases hn : 1 < s.size ∧ ((s[0]'hp).toNat : Int) = 48
  · exact ⟨0, 0, 0, 0, 4, fun w => parse_nought s hn.1 hn.2 w, fun w => parseR_nought s ⟨hn.1, hs⟩ hn.2 w, .inr (.inr rfl)⟩
  have hh : ((s[0]'hp).toNat : Int) ≠ 48 ∨ s.size = 1 := by
    by_cases e : ((s[0]'hp).toNat : Int) = 48
    · right; apply Classical.byContradiction; intro h1; exact hn ⟨by omega, e⟩
    · exact .inl e
  have hh2 : ((s[0]'hp).toNat : Int) ≠ 48 ∨ s = ⟨#[48]⟩ := by
    by_cases e : ((s[0]'hp).toNat : Int) = 48
    · right; exact one_nought (hh.resolve_left (fun h => h e)) e
    · exact .inl e
  by_cases hd : DigS s
  · obtain ⟨t, ht⟩ : ∃ t, s.size = t + 1 := ⟨s.size - 1, by omega⟩
    obtain ⟨d1, d2⟩ := txt_pv hd ht hh
    have hlo := (pvl_lim _ (dig_list hd)).1
    have h78 : (10 : Int) ^ 78 = 1000000000000000000000000000000000000000000000000000000000000000000000000000000 := by decide
    by_cases ho : pv s.data.toList < 115792089237316195423570985008687907853269984665640564039457584007913129639936
    · have hs78 : s.size ≤ 78 := by
        apply Nat.le_of_not_lt; intro hl
        rcases d1.2 with e | e
        · omega
        · have := dgs_ge hlo e; have := p10_le (a := 78) (b := t) (by omega); omega
      obtain ⟨z0, z1, z2, z3, hz, hv⟩ := limbs_of hlo ho
      refine ⟨z0, z1, z2, z3, 0, says_parse ⟨hp, hs⟩ hd hh2 hz hv.symm, says_parseR ⟨hp, hs78⟩ hd (hh.imp (fun h e => h (by omega)) id) hz hv.symm, .inl ⟨rfl, ?_⟩⟩
      have := says_text hz (t := t) (by rw [hv]; exact d1)
      rwa [hv, d2] at this
    · have ho' : 115792089237316195423570985008687907853269984665640564039457584007913129639936 ≤ pv s.data.toList := by omega
      refine ⟨0, 0, 0, 0, 2, says_parse_over ⟨hp, hs⟩ hd hh2 ho', ?_, .inr (.inl rfl)⟩
      by_cases hl : s.size ≤ 78
      · exact says_parseR_over ⟨hp, hl⟩ hd (hh.imp (fun h e => h (by omega)) id) ho'
      · exact fun w => parseR_long s ⟨by omega, hs⟩ hd (hh.resolve_right (by omega)) w
  · have hb : ∃ i, ∃ h : i < s.size, ¬ (48 ≤ (s[i].toNat : Int) ∧ (s[i].toNat : Int) ≤ 57) := by
      apply Classical.byContradiction
      intro hx
      apply hd
      intro i h
      apply Classical.byContradiction
      intro hy
      exact hx ⟨i, h, hy⟩
    exact ⟨0, 0, 0, 0, 4, fun w => parse_strange s ⟨hp, hs⟩ hh2 hb w, fun w => parseR_strange s ⟨hp, hs⟩ hh hb w, .inr (.inr rfl)⟩
end Go.Proofs.Ytbfpagmibjbbkaa
