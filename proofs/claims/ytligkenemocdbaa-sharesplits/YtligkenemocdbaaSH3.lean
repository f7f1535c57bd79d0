
/- share: worth, new shares, the fewest, a part: as plain numbers; the program's and the reference's answers are those. -/
import Derived.Test.YtligkenemocdbaaSH2
set_option linter.unusedSimpArgs false
set_option linter.unusedVariables false
namespace Go.Proofs.Ytligkenemocdbaa
open Go.RowKit

theorem dm_of (p : Int) {c : Int} (hc : 0 < c) : p = p / c * c + p % c ∧ 0 ≤ p % c ∧ p % c < c := by
  have h := Int.emod_add_mul_ediv p c
  refine ⟨?_, Int.emod_nonneg _ (by omega), Int.emod_lt_of_pos _ hc⟩
  rw [Int.mul_comm (p / c)]; omega
def worthI (t s x : Int) : Int := if s = 0 then 0 else leastI x s * t / s
theorem least_lim {a b : Int} (ha : 0 ≤ a) (hb : 0 ≤ b) : 0 ≤ leastI a b ∧ leastI a b ≤ a ∧ leastI a b ≤ b := by unfold leastI; split <;> omega
theorem least_of_le {a b : Int} (h : a ≤ b) : leastI a b = a := by unfold leastI; split <;> omega
theorem least_of_ge {a b : Int} (h : b ≤ a) : leastI a b = b := by unfold leastI; split <;> omega
theorem worth_lim {t s x : Int} (ht : 0 ≤ t) (hs : 0 ≤ s) (hx : 0 ≤ x) : 0 ≤ worthI t s x ∧ worthI t s x ≤ t := by
  unfold worthI
  split
  · omega
  · have hl := least_lim hx hs
    have hp : 0 < s := by omega
    refine ⟨Int.ediv_nonneg (Int.mul_nonneg hl.1 ht) hs, ?_⟩
    apply Int.ediv_le_of_le_mul hp
    rw [Int.mul_comm t s]
    exact Int.mul_le_mul_of_nonneg_right hl.2.2 ht
theorem worth_all {t s : Int} (hs : 0 < s) : worthI t s s = t := by
  unfold worthI
  rw [if_neg (by omega), least_of_le (Int.le_refl s), Int.mul_comm, Int.mul_ediv_cancel _ (by omega)]
theorem worth_of {t s x : Int} (hs : 0 < s) (h : x ≤ s) : worthI t s x = x * t / s := by unfold worthI; rw [if_neg (by omega), least_of_le h]

theorem says_worthV {t0 t1 t2 t3 s0 s1 s2 s3 x0 x1 x2 x3 r0 r1 r2 r3 : Int} (ht : Lim t0 t1 t2 t3) (hs : Lim s0 s1 s2 s3) (hx : Lim x0 x1 x2 x3) (hr : Lim r0 r1 r2 r3) (he : val r0 r1 r2 r3 = worthI (val t0 t1 t2 t3) (val s0 s1 s2 s3) (val x0 x1 x2 x3)) : Says 11 #[.agg #[.int .u64 t0, .int .u64 t1, .int .u64 t2, .int .u64 t3], .agg #[.int .u64 s0, .int .u64 s1, .int .u64 s2, .int .u64 s3], .agg #[.int .u64 x0, .int .u64 x1, .int .u64 x2, .int .u64 x3]] (.agg #[.int .u64 r0, .int .u64 r1, .int .u64 r2, .int .u64 r3]) := by
  have t0' := val_lo ht
  have s0' := val_lo hs
  have x0' := val_lo hx
  by_cases h0 : val s0 s1 s2 s3 = 0
  · have hr0 : val r0 r1 r2 r3 = 0 := by rw [he, worthI, if_pos h0]
    obtain ⟨rfl, rfl, rfl, rfl⟩ := (val_zero hr).1 hr0
    exact says_worth0 (by rw [eq4_zero hs]; exact decide_eq_true h0)
  · have hl' := least_lim x0' s0'
    have xh := val_hi hx
    obtain ⟨l0, l1, l2, l3, hl, el⟩ := limbs_of hl'.1 (by omega)
    have hd := dm_of (leastI (val x0 x1 x2 x3) (val s0 s1 s2 s3) * val t0 t1 t2 t3) (show 0 < val s0 s1 s2 s3 by omega)
    exact says_worth1 (by rw [eq4_zero hs]; exact decide_eq_false h0) (says_least hx hs hl el) (says_md false hl ht hs hr (by rw [el]; exact hd.1) hd.2 (by rw [he, worthI, if_neg h0]; simp [upI]))
theorem says_worthRV {t0 t1 t2 t3 s0 s1 s2 s3 x0 x1 x2 x3 r0 r1 r2 r3 : Int} (ht : Lim t0 t1 t2 t3) (hs : Lim s0 s1 s2 s3) (hx : Lim x0 x1 x2 x3) (hr : Lim r0 r1 r2 r3) (he : val r0 r1 r2 r3 = worthI (val t0 t1 t2 t3) (val s0 s1 s2 s3) (val x0 x1 x2 x3)) : Says 12 #[.agg #[.int .u64 t0, .int .u64 t1, .int .u64 t2, .int .u64 t3], .agg #[.int .u64 s0, .int .u64 s1, .int .u64 s2, .int .u64 s3], .agg #[.int .u64 x0, .int .u64 x1, .int .u64 x2, .int .u64 x3]] (.agg #[.int .u64 r0, .int .u64 r1, .int .u64 r2, .int .u64 r3]) := by
  have t0' := val_lo ht
  have s0' := val_lo hs
  have x0' := val_lo hx
  by_cases h0 : val s0 s1 s2 s3 = 0
  · have hr0 : val r0 r1 r2 r3 = 0 := by rw [he, worthI, if_pos h0]
    obtain ⟨rfl, rfl, rfl, rfl⟩ := (val_zero hr).1 hr0
    exact says_worthR0 (by rw [eq4_zero hs]; exact decide_eq_true h0)
  · have hq : eq4 s0 s1 s2 s3 0 0 0 0 = false := by rw [eq4_zero hs]; exact decide_eq_false h0
    by_cases h1 : val s0 s1 s2 s3 ≤ val x0 x1 x2 x3
    · have er : val r0 r1 r2 r3 = val t0 t1 t2 t3 := by
        rw [he, worthI, if_neg h0, least_of_ge h1, Int.mul_comm, Int.mul_ediv_cancel _ h0]
      obtain ⟨rfl, rfl, rfl, rfl⟩ := val_inj hr ht er
      exact says_worthR1 hq (cmp_ge h1) (says_cmpR hx hs rfl)
    · have hd := dm_of (val x0 x1 x2 x3 * val t0 t1 t2 t3) (show 0 < val s0 s1 s2 s3 by omega)
      exact says_worthR2 hq (show cmpI (val x0 x1 x2 x3) (val s0 s1 s2 s3) < 0 by unfold cmpI; rw [if_pos (by omega)]; decide) (says_cmpR hx hs rfl) (says_mdR false hx ht hs hr hq hd (by show _ = _; rw [he, worthI, if_neg h0, least_of_le (by omega)]; simp [upI]))
theorem worth_ex {t0 t1 t2 t3 s0 s1 s2 s3 x0 x1 x2 x3 : Int} (ht : Lim t0 t1 t2 t3) (hs : Lim s0 s1 s2 s3) (hx : Lim x0 x1 x2 x3) : ∃ r0 r1 r2 r3 : Int, Lim r0 r1 r2 r3 ∧ val r0 r1 r2 r3 = worthI (val t0 t1 t2 t3) (val s0 s1 s2 s3) (val x0 x1 x2 x3) := by
  have h := worth_lim (val_lo ht) (val_lo hs) (val_lo hx)
  have := val_hi ht
  exact limbs_of h.1 (by omega)
def NewS (t s n z c : Int) : Prop := (s = 0 ∧ z = n ∧ c = 0) ∨ (s ≠ 0 ∧ t = 0 ∧ z = 0 ∧ c = 1) ∨ (s ≠ 0 ∧ t ≠ 0 ∧ n * s / t < 115792089237316195423570985008687907853269984665640564039457584007913129639936 ∧ z = n * s / t ∧ c = 0) ∨ (s ≠ 0 ∧ t ≠ 0 ∧ 115792089237316195423570985008687907853269984665640564039457584007913129639936 ≤ n * s / t ∧ z = 0 ∧ c = 2)
theorem shares_ex {t0 t1 t2 t3 s0 s1 s2 s3 n0 n1 n2 n3 : Int} (ht : Lim t0 t1 t2 t3) (hs : Lim s0 s1 s2 s3) (hn : Lim n0 n1 n2 n3) : ∃ z0 z1 z2 z3 c : Int, Lim z0 z1 z2 z3 ∧ NewS (val t0 t1 t2 t3) (val s0 s1 s2 s3) (val n0 n1 n2 n3) (val z0 z1 z2 z3) c ∧ Says 13 #[.agg #[.int .u64 t0, .int .u64 t1, .int .u64 t2, .int .u64 t3], .agg #[.int .u64 s0, .int .u64 s1, .int .u64 s2, .int .u64 s3], .agg #[.int .u64 n0, .int .u64 n1, .int .u64 n2, .int .u64 n3]] (.tuple #[.agg #[.int .u64 z0, .int .u64 z1, .int .u64 z2, .int .u64 z3], .int .i64 c]) ∧ Says 14 #[.agg #[.int .u64 t0, .int .u64 t1, .int .u64 t2, .int .u64 t3], .agg #[.int .u64 s0, .int .u64 s1, .int .u64 s2, .int .u64 s3], .agg #[.int .u64 n0, .int .u64 n1, .int .u64 n2, .int .u64 n3]] (.tuple #[.agg #[.int .u64 z0, .int .u64 z1, .int .u64 z2, .int .u64 z3], .int .i64 c]) := by
  have t0' := val_lo ht
  have s0' := val_lo hs
  have n0' := val_lo hn
  by_cases h0 : val s0 s1 s2 s3 = 0
  · have hq : eq4 s0 s1 s2 s3 0 0 0 0 = true := by rw [eq4_zero hs]; exact decide_eq_true h0
    exact ⟨_, _, _, _, 0, hn, .inl ⟨h0, rfl, rfl⟩, says_shares0 hq, says_sharesR0 hq⟩
  · have hq : eq4 s0 s1 s2 s3 0 0 0 0 = false := by rw [eq4_zero hs]; exact decide_eq_false h0
    by_cases h1 : val t0 t1 t2 t3 = 0
    · exact ⟨0, 0, 0, 0, 1, lim_zero, .inr (.inl ⟨h0, h1, val0, rfl⟩), says_shares1 hq (says_md_zero false hn hs ht h1), says_sharesR1 hq (says_mdR_zero false (by rw [eq4_zero ht]; exact decide_eq_true h1))⟩
    · have hqt : eq4 t0 t1 t2 t3 0 0 0 0 = false := by rw [eq4_zero ht]; exact decide_eq_false h1
      have hd := dm_of (val n0 n1 n2 n3 * val s0 s1 s2 s3) (show 0 < val t0 t1 t2 t3 by omega)
      have hp : 0 ≤ val n0 n1 n2 n3 * val s0 s1 s2 s3 / val t0 t1 t2 t3 := Int.ediv_nonneg (Int.mul_nonneg n0' s0') t0'
      by_cases ho : val n0 n1 n2 n3 * val s0 s1 s2 s3 / val t0 t1 t2 t3 < 115792089237316195423570985008687907853269984665640564039457584007913129639936
      · obtain ⟨z0, z1, z2, z3, hz, ez⟩ := limbs_of hp ho
        exact ⟨z0, z1, z2, z3, 0, hz, .inr (.inr (.inl ⟨h0, h1, ho, ez, rfl⟩)), says_shares1 hq (says_md false hn hs ht hz hd.1 hd.2 (by rw [ez]; simp [upI])), says_sharesR1 hq (says_mdR false hn hs ht hz hqt hd (by show _ = _; rw [ez]; simp [upI]))⟩
      · refine ⟨0, 0, 0, 0, 2, lim_zero, .inr (.inr (.inr ⟨h0, h1, by omega, val0, rfl⟩)), says_shares1 hq (says_md_over false hn hs ht hd.1 hd.2 (by simp only [upI]; rw [if_neg (by simp)]; omega)), says_sharesR1 hq (says_mdR_over false hn hs ht hqt hd ?_)⟩
        show _ ≤ _
        simp only [upI]; rw [if_neg (by simp)]; omega
/-- The fewest shares that are worth n, as plain numbers. -/
theorem few_facts {t s n q r z : Int} (ht : n ≤ t) (hs : 0 < s) (hn : 0 < n) (h : n * s = q * t + r) (h0 : 0 ≤ r) (h1 : r < t) (hz : z = upI true q r) :
    0 ≤ q ∧ q ≤ s ∧ 1 ≤ z ∧ z ≤ s ∧ n ≤ worthI t s z ∧ worthI t s (z - 1) < n ∧ (r = 0 → z = q ∧ n ≤ worthI t s q) ∧ (r ≠ 0 → z = q + 1 ∧ worthI t s q < n) := by
  have hp : 0 < n * s := Int.mul_pos hn hs
  have hts : n * s ≤ t * s := Int.mul_le_mul_of_nonneg_right ht (by omega)
  have q0 : 0 ≤ q := by
    apply Int.not_lt.1
    intro hq
    have h2 : q * t ≤ -1 * t := Int.mul_le_mul_of_nonneg_right (by omega) (by omega)
    omega
  have qs : q ≤ s := by
    apply Int.not_lt.1
    intro hq
    have h2 : (s + 1) * t ≤ q * t := Int.mul_le_mul_of_nonneg_right (by omega) (by omega)
    rw [Int.add_mul, Int.mul_comm s t] at h2
    omega
  have wq : worthI t s q = q * t / s := worth_of hs qs
  by_cases hr : r = 0
  · have ez : z = q := by rw [hz, upI, if_neg (by simp [hr])]
    subst ez
    have z1 : 1 ≤ z := by
      apply Int.not_lt.1
      intro hq
      have : z = 0 := by omega
      subst this
      omega
    have w1 : n ≤ worthI t s z := by rw [wq]; apply (Int.le_ediv_iff_mul_le hs).2; omega
    refine ⟨q0, qs, z1, qs, w1, ?_, fun _ => ⟨rfl, w1⟩, fun h => absurd hr h⟩
    rw [worth_of hs (by omega)]
    apply (Int.ediv_lt_iff_lt_mul hs).2
    rw [Int.sub_mul]; omega
  · have ez : z = q + 1 := by rw [hz, upI, if_pos ⟨rfl, hr⟩]
    subst ez
    have q1 : q + 1 ≤ s := by
      apply Int.not_lt.1
      intro hq
      have : q = s := by omega
      subst this
      rw [Int.mul_comm q t] at h
      omega
    have w1 : worthI t s q < n := by rw [wq]; apply (Int.ediv_lt_iff_lt_mul hs).2; omega
    refine ⟨q0, qs, by omega, q1, ?_, ?_, fun h => absurd h hr, fun _ => ⟨rfl, w1⟩⟩
    · rw [worth_of hs q1]; apply (Int.le_ediv_iff_mul_le hs).2; rw [Int.add_mul]; omega
    · rw [show q + 1 - 1 = q by omega]; exact w1
def FewS (t s n z c : Int) : Prop := (n = 0 ∧ z = 0 ∧ c = 0) ∨ (n ≠ 0 ∧ (t < n ∨ s = 0) ∧ z = 0 ∧ c = 3) ∨ (n ≠ 0 ∧ n ≤ t ∧ s ≠ 0 ∧ c = 0 ∧ 1 ≤ z ∧ z ≤ s ∧ n ≤ worthI t s z ∧ worthI t s (z - 1) < n)
theorem fewest_ex {t0 t1 t2 t3 s0 s1 s2 s3 n0 n1 n2 n3 : Int} (ht : Lim t0 t1 t2 t3) (hs : Lim s0 s1 s2 s3) (hn : Lim n0 n1 n2 n3) : ∃ z0 z1 z2 z3 c : Int, Lim z0 z1 z2 z3 ∧ FewS (val t0 t1 t2 t3) (val s0 s1 s2 s3) (val n0 n1 n2 n3) (val z0 z1 z2 z3) c ∧ Says 15 #[.agg #[.int .u64 t0, .int .u64 t1, .int .u64 t2, .int .u64 t3], .agg #[.int .u64 s0, .int .u64 s1, .int .u64 s2, .int .u64 s3], .agg #[.int .u64 n0, .int .u64 n1, .int .u64 n2, .int .u64 n3]] (.tuple #[.agg #[.int .u64 z0, .int .u64 z1, .int .u64 z2, .int .u64 z3], .int .i64 c]) ∧ Says 16 #[.agg #[.int .u64 t0, .int .u64 t1, .int .u64 t2, .int .u64 t3], .agg #[.int .u64 s0, .int .u64 s1, .int .u64 s2, .int .u64 s3], .agg #[.int .u64 n0, .int .u64 n1, .int .u64 n2, .int .u64 n3]] (.tuple #[.agg #[.int .u64 z0, .int .u64 z1, .int .u64 z2, .int .u64 z3], .int .i64 c]) := by
  have t0' := val_lo ht
  have s0' := val_lo hs
  have n0' := val_lo hn
  by_cases hn0 : val n0 n1 n2 n3 = 0
  · obtain ⟨rfl, rfl, rfl, rfl⟩ := (val_zero hn).1 hn0
    exact ⟨0, 0, 0, 0, 0, lim_zero, .inl ⟨val0, val0, rfl⟩, says_few0 (eq4_self _ _ _ _), says_fewR0 (eq4_self _ _ _ _)⟩
  have hqn : eq4 n0 n1 n2 n3 0 0 0 0 = false := by rw [eq4_zero hn]; exact decide_eq_false hn0
  by_cases hs0 : val s0 s1 s2 s3 = 0
  · have hqs : eq4 s0 s1 s2 s3 0 0 0 0 = true := by rw [eq4_zero hs]; exact decide_eq_true hs0
    refine ⟨0, 0, 0, 0, 3, lim_zero, .inr (.inl ⟨hn0, .inr hs0, val0, rfl⟩), ?_, says_fewR1 hqn hqs⟩
    by_cases hc : val n0 n1 n2 n3 ≤ val t0 t1 t2 t3
    · exact says_few2 hqn hqs (cmp_le0 hc) (says_cmp hn ht rfl)
    · exact says_few1 hqn (cmp_pos (by omega)) (says_cmp hn ht rfl)
  have hqs : eq4 s0 s1 s2 s3 0 0 0 0 = false := by rw [eq4_zero hs]; exact decide_eq_false hs0
  by_cases hc : val n0 n1 n2 n3 ≤ val t0 t1 t2 t3
  · have hqt : eq4 t0 t1 t2 t3 0 0 0 0 = false := by rw [eq4_zero ht]; exact decide_eq_false (by omega)
    have hd := dm_of (val n0 n1 n2 n3 * val s0 s1 s2 s3) (show 0 < val t0 t1 t2 t3 by omega)
    have hf := few_facts hc (show 0 < val s0 s1 s2 s3 by omega) (show 0 < val n0 n1 n2 n3 by omega) hd.1 hd.2.1 hd.2.2 rfl
    have sh := val_hi hs
    obtain ⟨x0, x1, x2, x3, hx, ex⟩ := limbs_of hf.1 (by omega)
    obtain ⟨z0, z1, z2, z3, hz, ez⟩ := limbs_of (n := upI true (val n0 n1 n2 n3 * val s0 s1 s2 s3 / val t0 t1 t2 t3) (val n0 n1 n2 n3 * val s0 s1 s2 s3 % val t0 t1 t2 t3)) (by omega) (by omega)
    have hX := says_mdR false hn hs ht hx hqt hd (by show _ = _; rw [ex]; simp [upI])
    obtain ⟨y0, y1, y2, y3, hy, ey⟩ := worth_ex ht hs hx
    refine ⟨z0, z1, z2, z3, 0, hz, .inr (.inr ⟨hn0, hc, hs0, rfl, by rw [ez]; exact hf.2.2.1, by rw [ez]; exact hf.2.2.2.1, by rw [ez]; exact hf.2.2.2.2.1, by rw [ez]; exact hf.2.2.2.2.2.1⟩), says_few3 hqn hqs (cmp_le0 hc) (says_cmp hn ht rfl) (says_md true hn hs ht hz hd.1 hd.2 ez), ?_⟩
    by_cases hr : val n0 n1 n2 n3 * val s0 s1 s2 s3 % val t0 t1 t2 t3 = 0
    · obtain ⟨e1, e2⟩ := hf.2.2.2.2.2.2.1 hr
      rw [e1] at ez
      obtain ⟨rfl, rfl, rfl, rfl⟩ := val_inj hz hx (ez.trans ex.symm)
      exact says_fewR3 hqn hqs (cmp_le0 hc) (says_cmpR hn ht rfl) hX (says_worthRV ht hs hx hy ey) (cmp_ge (by rw [ey, ex]; exact e2)) (says_cmpR hy hn rfl)
    · obtain ⟨e1, e2⟩ := hf.2.2.2.2.2.2.2 hr
      rw [e1] at ez
      have l1 : Lim 1 0 0 0 := by unfold Lim; omega
      exact says_fewR4 hqn hqs (cmp_le0 hc) (says_cmpR hn ht rfl) hX (says_worthRV ht hs hx hy ey) (show cmpI (val y0 y1 y2 y3) (val n0 n1 n2 n3) < 0 by rw [ey, ex]; unfold cmpI; rw [if_pos e2]; decide) (says_cmpR hy hn rfl) (says_addR hx l1 hz (by rw [ez, ex, val_of]))
  · exact ⟨0, 0, 0, 0, 3, lim_zero, .inr (.inl ⟨hn0, .inl (by omega), val0, rfl⟩), says_few1 hqn (cmp_pos (by omega)) (says_cmp hn ht rfl), says_fewR2 hqn hqs (cmp_pos (by omega)) (says_cmpR hn ht rfl)⟩
def partI (n p : Int) : Int := n * leastI p 10000 / 10000
theorem part_lim {n p : Int} (hn : 0 ≤ n) (hp : 0 ≤ p) : 0 ≤ partI n p ∧ partI n p ≤ n := by
  unfold partI
  have hl := least_lim hp (show (0 : Int) ≤ 10000 by omega)
  refine ⟨Int.ediv_nonneg (Int.mul_nonneg hn hl.1) (by omega), ?_⟩
  apply Int.ediv_le_of_le_mul (by omega)
  exact Int.mul_le_mul_of_nonneg_left hl.2.2 hn
theorem part_mono {n p o : Int} (hn : 0 ≤ n) (h : p ≤ o) : partI n p ≤ partI n o := by
  unfold partI
  apply Int.ediv_le_ediv (by omega)
  apply Int.mul_le_mul_of_nonneg_left _ hn
  unfold leastI; split <;> split <;> omega
theorem says_partV {n0 n1 n2 n3 r0 r1 r2 r3 p : Int} (hn : Lim n0 n1 n2 n3) (hr : Lim r0 r1 r2 r3) (hp : 0 ≤ p ∧ p < 65536) (he : val r0 r1 r2 r3 = partI (val n0 n1 n2 n3) p) : Says 19 #[.agg #[.int .u64 n0, .int .u64 n1, .int .u64 n2, .int .u64 n3], .int .u16 p] (.agg #[.int .u64 r0, .int .u64 r1, .int .u64 r2, .int .u64 r3]) := by
  have hd := dm_of (val n0 n1 n2 n3 * leastI p 10000) (show (0 : Int) < 10000 by omega)
  have hl := least_lim hp.1 (show (0 : Int) ≤ 10000 by omega)
  have lq : Lim (leastI p 10000) 0 0 0 := by unfold Lim; omega
  have lt : Lim 10000 0 0 0 := by unfold Lim; omega
  refine says_partq (q := leastI p 10000) (by omega) (by unfold leastI; split <;> split <;> omega) (says_md false hn lq lt hr (by rw [val_of, val_of]; exact hd.1) (by rw [val_of]; exact hd.2) (by rw [he, partI]; simp [upI]))
theorem says_partRV {n0 n1 n2 n3 r0 r1 r2 r3 p : Int} (hn : Lim n0 n1 n2 n3) (hr : Lim r0 r1 r2 r3) (hp : 0 ≤ p ∧ p < 65536) (he : val r0 r1 r2 r3 = partI (val n0 n1 n2 n3) p) : Says 20 #[.agg #[.int .u64 n0, .int .u64 n1, .int .u64 n2, .int .u64 n3], .int .u16 p] (.agg #[.int .u64 r0, .int .u64 r1, .int .u64 r2, .int .u64 r3]) := by
  by_cases hc : 10000 ≤ p
  · have er : val r0 r1 r2 r3 = val n0 n1 n2 n3 := by rw [he, partI, least_of_ge hc, Int.mul_ediv_cancel _ (by omega)]
    obtain ⟨rfl, rfl, rfl, rfl⟩ := val_inj hr hn er
    exact says_partR1 hp hc
  · have hd := dm_of (val n0 n1 n2 n3 * p) (show (0 : Int) < 10000 by omega)
    have lq : Lim p 0 0 0 := by unfold Lim; omega
    have lt : Lim 10000 0 0 0 := by unfold Lim; omega
    refine says_partR0 hp (by omega) (says_mdR false hn lq lt hr (by decide) (by rw [val_of, val_of]; exact hd) (by show _ = _; rw [he, partI, least_of_le (by omega)]; simp [upI]))
set_option maxRecDepth 100000 in
set_option maxHeartbeats 4000000 in
theorem says_worths : Says 10 #[] (.bool true) := by
  have l1 : Lim 1 0 0 0 := by unfold Lim; omega
  have l2 : Lim 2 0 0 0 := by unfold Lim; omega
  have l3 : Lim 3 0 0 0 := by unfold Lim; omega
  have l4 : Lim 4 0 0 0 := by unfold Lim; omega
  have l9 : Lim 9 0 0 0 := by unfold Lim; omega
  have h1 : Says 15 #[.agg #[.int .u64 2, .int .u64 0, .int .u64 0, .int .u64 0], .agg #[.int .u64 3, .int .u64 0, .int .u64 0, .int .u64 0], .agg #[.int .u64 1, .int .u64 0, .int .u64 0, .int .u64 0]] (.tuple #[.agg #[.int .u64 2, .int .u64 0, .int .u64 0, .int .u64 0], .int .i64 0]) := by
    refine says_few3 (by decide) (by decide) (show cmpI (val 1 0 0 0) (val 2 0 0 0) ≤ 0 by decide) (says_cmp l1 l2 rfl) (says_md true l1 l3 l2 l2 (q := 1) (r := 1) (by decide) (by decide) (by decide))
  have h2 : Says 11 #[.agg #[.int .u64 2, .int .u64 0, .int .u64 0, .int .u64 0], .agg #[.int .u64 3, .int .u64 0, .int .u64 0, .int .u64 0], .agg #[.int .u64 2, .int .u64 0, .int .u64 0, .int .u64 0]] (.agg #[.int .u64 1, .int .u64 0, .int .u64 0, .int .u64 0]) := says_worthV l2 l3 l2 l1 (by decide)
  have h3 : Says 19 #[.agg #[.int .u64 9, .int .u64 0, .int .u64 0, .int .u64 0], .int .u16 5000] (.agg #[.int .u64 4, .int .u64 0, .int .u64 0, .int .u64 0]) := says_partV l9 l4 (by omega) (by decide)
  have heq := eq_num
  have hpad := pads
  intro w
  go_enter Try.func10, Try.ntmps10
  go_wp2_with (first
    | (go_at_call 15; with_reducible refine (h1.at _).mono ?_; rintro e w' ⟨rfl, hb⟩; obtain ⟨m1, g1, d1, hm1, rfl⟩ := pad_of hb; clear hb; (try simp [pad_size] at hm1); have st1_w : w.heap.size ≤ m1 := (by omega))
    | (go_at_call 11; with_reducible refine (h2.at _).mono ?_; rintro e w' ⟨rfl, hb⟩; obtain ⟨m2, g2, d2, hm2, rfl⟩ := pad_of hb; clear hb; (try simp [pad_size] at hm2); have st2_w : w.heap.size ≤ m2 := (by omega); have st2_1 := sz1 (n := m1) (m := m2) (by omega))
    | (go_at_call 19; with_reducible refine (h3.at _).mono ?_; rintro e w' ⟨rfl, hb⟩; obtain ⟨m3, g3, d3, hm3, rfl⟩ := pad_of hb; clear hb; (try simp [pad_size] at hm3); have st3_w : w.heap.size ≤ m3 := (by omega); have st3_1 := sz1 (n := m1) (m := m3) (by omega)))
  all_goals go_ret
  all_goals exact ⟨rfl, by (repeat (first | (with_reducible exact Below.refl _ _) | (with_reducible assumption) | (with_reducible apply bd) | (with_reducible apply ba) | (with_reducible refine bp ?_ (by first | omega | (simp [pad_size]; done) | (simp [pad_size]; omega)) _ _) | (with_reducible refine bs ?_ (by first | omega | (simp [pad_size]; done) | (simp [pad_size]; omega)) _) | (with_reducible refine bt ?_ (by assumption))))⟩
end Go.Proofs.Ytligkenemocdbaa
