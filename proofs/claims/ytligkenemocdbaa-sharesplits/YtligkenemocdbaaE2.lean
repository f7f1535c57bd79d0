
/- The reference's By: digits by a number, bit by bit. -/
import Derived.Test.YtligkenemocdbaaE1
set_option linter.unusedSimpArgs false
set_option linter.unusedVariables false
namespace Go.Proofs.Ytligkenemocdbaa
open Go.RowKit

def db17 (u0 u1 u2 u3 : Int) : Nat → Int := fun k => if k < 16 then dg u0 u1 u2 u3 k else 0
theorem db17_lim {u0 u1 u2 u3 : Int} (k : Nat) : 0 ≤ db17 u0 u1 u2 u3 k ∧ db17 u0 u1 u2 u3 k < 65536 := by
  unfold db17; split
  · exact dg_lim k
  · omega
theorem db17_sm {u0 u1 u2 u3 : Int} (hu : Lim u0 u1 u2 u3) : sm (db17 u0 u1 u2 u3) 17 = val u0 u1 u2 u3 := by
  rw [sm_succ, sm_congr (b := dg u0 u1 u2 u3) 16 (fun i hi => by unfold db17; rw [if_pos hi]), sm_dg hu]
  simp [db17]
/-- What the bits from a place on make: a quotient and what is left. -/
def ByS (P C qv R : Int) (k : Nat) : Prop := P / 2 ^ k = qv * C + R ∧ 0 ≤ R ∧ R < C
theorem byS_less {P C qv R : Int} {k : Nat} (h : ByS P C qv R (k + 1)) (hl : 2 * R + P / 2 ^ k % 2 < C) : ByS P C (2 * qv) (2 * R + P / 2 ^ k % 2) k := by
  obtain ⟨h1, h2, h3⟩ := h
  refine ⟨?_, by omega, hl⟩
  have e := ediv_half P k
  rw [h1] at e
  have e2 : 2 * qv * C = 2 * (qv * C) := Int.mul_assoc _ _ _
  rw [e2]
  generalize qv * C = t at *
  generalize P / 2 ^ k % 2 = b at *
  omega
theorem byS_more {P C qv R : Int} {k : Nat} (h : ByS P C qv R (k + 1)) (hl : ¬ 2 * R + P / 2 ^ k % 2 < C) : ByS P C (2 * qv + 1) (2 * R + P / 2 ^ k % 2 - C) k := by
  obtain ⟨h1, h2, h3⟩ := h
  refine ⟨?_, by omega, by omega⟩
  have e := ediv_half P k
  rw [h1] at e
  have e2 : (2 * qv + 1) * C = 2 * (qv * C) + C := by rw [Int.add_mul, Int.mul_assoc, Int.one_mul]
  rw [e2]
  generalize qv * C = t at *
  generalize P / 2 ^ k % 2 = b at *
  omega
theorem q_digit {dq : Nat → Int} {qv : Int} {j s : Nat} (hj : j < 32) (hl : ∀ i, i < 32 → 0 ≤ dq i ∧ dq i < 65536) (h : sm dq 32 = qv * 2 ^ (16 * j + s + 1)) : dq j = qv * 2 ^ (s + 1) % 65536 := by
  rw [← sm_dig hj hl, h, show 16 * j + s + 1 = 16 * j + (s + 1) by omega, pow_16]
  have hp : (0 : Int) < 65536 ^ j := Int.pow_pos (by decide)
  rw [show qv * (65536 ^ j * 2 ^ (s + 1)) = (qv * 2 ^ (s + 1)) * 65536 ^ j by grind, Int.mul_ediv_cancel _ (by omega)]
theorem sm_put {dq : Nat → Int} {j : Nat} (u : Int) : ∀ n, j < n → sm (upd dq j u) n = sm dq n + (u - dq j) * 65536 ^ j
  | 0, h => by omega
  | n + 1, h => by
    rw [sm_succ, sm_succ]
    by_cases e : j = n
    · subst e
      rw [sm_upd_above (Nat.le_refl _), upd_at, Int.sub_mul]; omega
    · rw [sm_put u n (by omega), upd_ne (by omega)]; omega

theorem row_other {W : World} {base b o g n cap : Nat} {e : TypeId} {u : Value} {xs : List Value} (h : W.ownsRow base e 1 (.slice (some ⟨g, 0, none⟩) n cap) n xs) (hne : g ≠ b) : (W.setCell ⟨b, o, none⟩ u).ownsRow base e 1 (.slice (some ⟨g, 0, none⟩) n cap) n xs := by
  obtain ⟨h1, h2⟩ := h
  refine ⟨h1, ?_⟩
  rcases h2 with h2 | ⟨g', cap', cur, hv, hg, hh, r⟩
  · exact .inl h2
  · cases hv
    exact .inr ⟨g, cap, cur, rfl, hg, (Below.heap_setCell W ⟨b, o, none⟩ u g hne).trans hh, r⟩
theorem row_drew {W : World} {base n : Nat} {e : TypeId} {size : Nat} {v : Value} {xs : List Value} (h : W.ownsRow base e size v n xs) : W.drew.ownsRow base e size v n xs := h
theorem tm2 {y : Int} (h : 0 ≤ y) : y.tmod 2 = y % 2 := Int.tmod_eq_emod_of_nonneg h
theorem tm2' {y : Int} (h : 0 ≤ y) {d : Int} (hd : 0 ≤ d := by decide) : (y / d).tmod 2 = y / d % 2 := Int.tmod_eq_emod_of_nonneg (Int.ediv_nonneg h hd)
theorem ret_tup {v : Value} {a b : Bool} (h : a = b) : Ending.returned (.tuple #[v, .bool a]) = .returned (.tuple #[v, .bool b]) := by rw [h]

set_option maxRecDepth 100000 in
set_option maxHeartbeats 16000000 in
theorem by_any (dp : Nat → Int) (gp cp : Nat) (u0 u1 u2 u3 : Int) (hu : Lim u0 u1 u2 u3) (hu0 : 0 < val u0 u1 u2 u3) (hdp : ∀ i, i < 32 → 0 ≤ dp i ∧ dp i < 65536) (w : World) (hgp : gp < w.heap.size) (hcp : ∀ k, k < 32 → w.cell? ⟨gp, k, none⟩ = some (.int .u64 (dp k))) :
    Calls Try.prog 35 #[.slice (some ⟨gp, 0, none⟩) 32 cp, .agg #[.int .u64 u0, .int .u64 u1, .int .u64 u2, .int .u64 u3]] w fun e w' =>
      ∃ (dq : Nat → Int) (gq cq : Nat) (qv R : Int), e = .returned (.tuple #[.slice (some ⟨gq, 0, none⟩) 32 cq, .bool (decide (0 < R))]) ∧ w'.ownsRow w.heap.size 22 1 (.slice (some ⟨gq, 0, none⟩) 32 cq) 32 (encU (fl dq 32)) ∧ (∀ i, i < 32 → 0 ≤ dq i ∧ dq i < 65536) ∧ Hid (sm dp 32 = qv * val u0 u1 u2 u3 + R ∧ 0 ≤ R ∧ R < val u0 u1 u2 u3 ∧ sm dq 32 = qv) ∧ Below w.heap.size w w' := by
  obtain ⟨i0, hi, hz0, hz1, hz2⟩ := info_parts u64_info
  have hmk := make32
  have hmk' := make17
  go_enter Try.func35, Try.ntmps35
  go_wp2_with (first
    | (go_at_call 28; refine (digits_o _ _ _ _ hu _).mono ?_; rintro e w1 ⟨g1, cap1, rfl, ho1, hl1, hg1, hb1⟩; have hs1 := hb1.size; simp at hs1 hl1)
    | (at_builtin; refine wpList_append_own _ rfl _ _ 42 rfl (w.heap.size + 1 + 1) 22 i0 _ 1 8 Try.underlying42 hi hz0 hz1 hz2 rfl (by decide) _ _ _ rfl ((row_base ho1 (by simp)).alloc _) ⟨w1.heap.size, 0, none⟩ 1 1 [_] rfl rfl (cell_one_new _ _ _) (by simp [Value.oneCell']) (by unfold maxLen; omega) (by omega) (by simp; omega) ?_; intro v' w' hown' hgrow _))
  obtain ⟨gb, cb, rfl, hgb, hgbl, hcb, -⟩ := row_words (n := 16) (l := fl (db17 u0 u1 u2 u3) 17) (by
    rw [fl_snoc, encU_snoc, fl_congr (b := dg u0 u1 u2 u3) 16 (fun i hi => by unfold db17; rw [if_pos hi])]
    simpa [db17] using hown') (fl_len _ _)
  have hBw' : Below (w.heap.size + 1 + 1) ((w.alloc (.cells #[.int .u64 u0, .int .u64 u1, .int .u64 u2, .int .u64 u3] 24)).alloc (.cells Z32 22)) w' := by
    have hB1 : Below (w.heap.size + 1 + 1) ((w.alloc (.cells #[.int .u64 u0, .int .u64 u1, .int .u64 u2, .int .u64 u3] 24)).alloc (.cells Z32 22)) w1 := by simpa using hb1
    refine (hB1.alloc (by omega) _).grown hgrow (by simp; omega) (fun k' e => ?_)
    cases e; omega
  have hsw' : w.heap.size + 1 + 1 ≤ w'.heap.size := by have := hBw'.size; simpa using this
  have hB0 : Below w.heap.size w w' := (ba (ba (Below.refl _ _) _) _).trans (hBw'.mono (by omega))
  have hQ : w'.ownsRow w.heap.size 22 1 (.slice (some ⟨w.heap.size + 1, 0, none⟩) 32 32) 32 (encU (fl (fun _ => 0) 32)) := by
    have h := row32 (w.alloc (.cells #[.int .u64 u0, .int .u64 u1, .int .u64 u2, .int .u64 u3] 24))
    have e : (w.alloc (.cells #[.int .u64 u0, .int .u64 u1, .int .u64 u2, .int .u64 u3] 24)).heap.size = w.heap.size + 1 := by simp
    rw [e] at h
    exact row_base (row_below h (by simpa using hBw')) (by omega)
  have hcb' : ∀ k, k < 17 → w'.cell? ⟨gb, k, none⟩ = some (.int .u64 (db17 u0 u1 u2 u3 k)) := fun k hk => by rw [hcb k hk]; simp [fl]
  have hP0 : sm dp 32 / 2 ^ 512 = 0 := by
    have h := sm_lim 32 hdp
    have e : (65536 : Int) ^ 32 = 2 ^ 512 := by rw [show (65536 : Int) = 2 ^ 16 by decide, ← Int.pow_mul]
    rw [e] at h
    exact Int.ediv_eq_zero_of_lt h.1 h.2
  clear hcb hown' hgrow ho1 hb1 hl1 hs1 hmk hmk' hBw'
  obtain ⟨P, hPe⟩ : ∃ P, Hid (sm dp 32 = P) := ⟨_, rfl⟩
  obtain ⟨C, hCe⟩ : ∃ C, Hid (val u0 u1 u2 u3 = C) := ⟨_, rfl⟩
  have hC0 : 0 < C := by rw [← hCe.out]; exact hu0
  have hC1 : Hid (C < 115792089237316195423570985008687907853269984665640564039457584007913129639936) := by unfold Hid; rw [← hCe.out]; exact val_hi hu
  go_loopw [9] (fun i wr => ∃ (k : Nat) (dq dr : Nat → Int) (qv R : Int), k ≤ 512 ∧ i = .int .i64 ((k : Int) - 1) ∧ wr.ownsRow w.heap.size 22 1 (.slice (some ⟨w.heap.size + 1, 0, none⟩) 32 32) 32 (encU (fl dq 32)) ∧ wr.ownsRow w'.heap.size 22 1 (.slice (some ⟨w'.heap.size, 0, none⟩) 17 17) 17 (encU (fl dr 17)) ∧ (∀ j, j < 17 → wr.cell? ⟨gb, j, none⟩ = some (.int .u64 (db17 u0 u1 u2 u3 j))) ∧ (∀ j, j < 32 → 0 ≤ dq j ∧ dq j < 65536) ∧ (∀ j, j < 17 → 0 ≤ dr j ∧ dr j < 65536) ∧ Hid (ByS P C qv R k ∧ sm dr 17 = R ∧ sm dq 32 = qv * 2 ^ k) ∧ Below w.heap.size w wr) (fun i _ => (intOf i + 1).toNat)
  case atStart =>
    refine ⟨512, fun _ => 0, fun _ => 0, 0, 0, by omega, rfl, hQ.alloc _, row17 w', fun j hj => ?_, fun j _ => (by show (0 : Int) ≤ 0 ∧ (0 : Int) < 65536; omega), fun j _ => (by show (0 : Int) ≤ 0 ∧ (0 : Int) < 65536; omega), ⟨⟨?_, by omega, hC0⟩, sm_zero 17, by rw [sm_zero]; omega⟩, ba hB0 _⟩
    · exact (((Below.refl w'.heap.size w').alloc (Nat.le_refl _) _).cell (p := ⟨gb, j, none⟩) hgbl).trans (hcb' j hj)
    · rw [← hPe.out, hP0]; omega
  case round =>
    have hdim : gb ≠ w.heap.size + 1 := by omega
    have hdim2 : gb ≠ w'.heap.size := by omega
    have hdim3 : w'.heap.size ≠ w.heap.size + 1 := by omega
    clear hQ hcb' hP0 hB0
    obtain ⟨k, dq, dr, qv, R, hk, rfl, hq, hr, hcb, hlq, hlr, hby, hB⟩ := hrel
    have hsw := hB.size
    cases k with
    | zero =>
      obtain ⟨hbs, hsr, hsq⟩ := hby.out
      obtain ⟨hrl, hcr⟩ := row_cells (n := 16) hr
      have hfin : Hid (sm dp 32 = qv * val u0 u1 u2 u3 + R ∧ 0 ≤ R ∧ R < val u0 u1 u2 u3 ∧ sm dq 32 = qv) := by
        obtain ⟨h1, h2, h3⟩ := hbs
        unfold Hid
        rw [hPe.out, hCe.out]
        refine ⟨?_, h2, h3, ?_⟩
        · have e : P / 2 ^ 0 = P := by simp
          rw [← e]; exact h1
        · rw [hsq]; simp
      clear hbs hsq hby
      go_wp2
      go_loopw [16] (fun i wz => ∃ kk : Nat, kk ≤ 17 ∧ i = .int .i64 kk ∧ (∀ j, j < kk → Hid (dr j = 0)) ∧ wz = wr) (fun i _ => 17 - (intOf i).toNat)
      case atStart => exact ⟨0, by omega, rfl, fun j h => by omega, rfl⟩
      case round =>
        obtain ⟨kk, hkk, rfl, hzz, rfl⟩ := hrel
        by_cases hlt : kk < 17
        · have ck := hcr kk hlt
          have bk := hlr kk hlt
          by_cases hp : 0 < dr kk
          · have hR : 0 < R := by
              have h := sm_ge 17 (fun i hi => (hlr i hi).1) hlt hp
              have : (0 : Int) < 65536 ^ kk := Int.pow_pos (by decide)
              omega
            have hdR : decide (0 < R) = true := by simpa using hR
            clear hcr
            go_wp2
            go_ret2
            exact ⟨dq, w.heap.size + 1, 32, qv, R, ret_tup (a := true) hdR.symm, hq, hlq, hfin, hB⟩
          · have hd0 : dr kk = 0 := by omega
            have Hd0 : Hid _ := hd0
            rw [hd0] at ck
            clear hcr hd0 hp bk
            go_wp2
            go_roundw
            case rel =>
              refine ⟨kk + 1, by omega, by go_num, fun j hj => ?_, by first | rfl | trivial⟩
              by_cases e : j = kk
              · rw [e]; exact Hd0
              · exact hzz j (by omega)
            case measure => (simp [intOf] <;> omega)
        · have hk' : kk = 17 := by omega
          subst hk'
          have hR : R = 0 := by rw [← hsr, sm_congr (b := fun _ => 0) 17 (fun i hi => (hzz i hi).out), sm_zero]
          have hdR : decide (0 < R) = false := by rw [hR]; rfl
          clear hcr
          go_wp2
          go_ret2
          exact ⟨dq, w.heap.size + 1, 32, qv, R, ret_tup (a := false) hdR.symm, hq, hlq, hfin, hB⟩
    | succ k =>
      have e : (((k + 1 : Nat) : Int) - 1) = (k : Int) := by omega
      rw [e]
      clear e
      obtain ⟨hbs, hsr, hsq⟩ := hby.out
      obtain ⟨j, s, hs, hj, hkj⟩ : ∃ j s : Nat, s < 16 ∧ j < 32 ∧ k = 16 * j + s := ⟨k / 16, k % 16, by omega, by omega, by omega⟩
      have hkq : (k : Int).tdiv 16 = (j : Int) := by rw [Int.tdiv_eq_ediv_of_nonneg (by omega)]; omega
      have hkm : (k : Int).tmod 16 = (s : Int) := by rw [Int.tmod_eq_emod_of_nonneg (by omega)]; omega
      have hkq2 : (k : Int) / 16 = (j : Int) := by omega
      have hkm2 : (k : Int) % 16 = (s : Int) := by omega
      have hkq3 : k / 16 = j := by omega
      have hkm3 : k % 16 = s := by omega
      have cpj : wr.cell? ⟨gp, j, none⟩ = some (.int .u64 (dp j)) := (hB.cell (p := ⟨gp, j, none⟩) hgp).trans (hcp j hj)
      have bpj := hdp j hj
      obtain ⟨bit, hbit⟩ : ∃ b, Hid (b = P / 2 ^ k % 2) := ⟨_, rfl⟩
      have hb01 : 0 ≤ bit ∧ bit ≤ 1 := by have := hbit.out; omega
      have hbd : Hid (dp j / 2 ^ s % 2 = bit) := by
        unfold Hid
        rw [hbit.out, hkj, ediv_pow, ← hPe.out]
        have h1 := sm_dig hj hdp
        generalize sm dp 32 / 65536 ^ j = Z at *
        rw [← h1]
        rcases (show s = 0 ∨ s = 1 ∨ s = 2 ∨ s = 3 ∨ s = 4 ∨ s = 5 ∨ s = 6 ∨ s = 7 ∨ s = 8 ∨ s = 9 ∨ s = 10 ∨ s = 11 ∨ s = 12 ∨ s = 13 ∨ s = 14 ∨ s = 15 by omega) with rfl | rfl | rfl | rfl | rfl | rfl | rfl | rfl | rfl | rfl | rfl | rfl | rfl | rfl | rfl | rfl <;> (simp only [Int.reducePow]; omega)
      have hkk0 : (0 : Int) ≤ (k : Int) := by omega
      have HKJ : Hid (k = 16 * j + s) := hkj
      clear hkj
      clear hcp hby
      go_upto_region 7 with fail
      go_cut [10] from 29 to 96 (fun s10 wx => s10 = .int .u64 bit ∧ wx = wr)
      case first =>
        clear hq hr hcb hlq hlr hbs hsr hsq
        rcases (show s = 0 ∨ s = 1 ∨ s = 2 ∨ s = 3 ∨ s = 4 ∨ s = 5 ∨ s = 6 ∨ s = 7 ∨ s = 8 ∨ s = 9 ∨ s = 10 ∨ s = 11 ∨ s = 12 ∨ s = 13 ∨ s = 14 ∨ s = 15 by omega) with rfl | rfl | rfl | rfl | rfl | rfl | rfl | rfl | rfl | rfl | rfl | rfl | rfl | rfl | rfl | rfl
        all_goals
          have hbs' := hbd.out
          simp only [Int.reducePow, Int.ediv_one] at hbs'
          clear hs
          go_wp2
          go_meet
          exact ⟨by first | rfl | (rw [← hbs']; done) | (simp [tm2 bpj.1, tm2' bpj.1, hbs']; done), by first | rfl | trivial⟩
      case rest =>
        obtain ⟨rfl, rfl⟩ := hcut
        clear hbd cpj bpj
        go_wp2
        go_loopw [10, 11] (fun o kk wz => ∃ (m : Nat) (c : Int) (de : Nat → Int), m ≤ 17 ∧ o = .int .u64 c ∧ kk = .int .i64 m ∧ (0 ≤ c ∧ c ≤ 1) ∧ wz.ownsRow w.heap.size 22 1 (.slice (some ⟨w.heap.size + 1, 0, none⟩) 32 32) 32 (encU (fl dq 32)) ∧ wz.ownsRow w'.heap.size 22 1 (.slice (some ⟨w'.heap.size, 0, none⟩) 17 17) 17 (encU (fl de 17)) ∧ (∀ i, i < 17 → wz.cell? ⟨gb, i, none⟩ = some (.int .u64 (db17 u0 u1 u2 u3 i))) ∧ (∀ i, i < 17 → 0 ≤ de i ∧ de i < 65536) ∧ (∀ i, m ≤ i → de i = dr i) ∧ Hid (sm de m + c * 65536 ^ m = 2 * sm dr m + bit) ∧ Below w.heap.size w wz) (fun _ kk _ => 17 - (intOf kk).toNat)
        case atStart => exact ⟨0, bit, dr, by omega, rfl, rfl, hb01, hq, hr, hcb, hlr, fun _ _ => rfl, by unfold Hid; simp [sm], hB⟩
        case round =>
          clear hq hr hcb hB hsw
          obtain ⟨m, c, de, hm, rfl, rfl, hc, hq, hr, hcb, hle, hde, hsm, hB⟩ := hrel
          have hsw := hB.size
          obtain ⟨gr, cr, hv, hgr, hgrl, hcr, hfr⟩ := row_words (n := 16) hr (fl_len _ _)
          cases hv
          by_cases hlt : m < 17
          · have ck : wr.cell? ⟨w'.heap.size, m, none⟩ = some (.int .u64 (dr m)) := by rw [hcr m hlt]; simp [fl, hde m (Nat.le_refl _)]
            have fk := hfr m
            have bk := hlr m hlt
            obtain ⟨d, hd⟩ : ∃ d, Hid (dr m = d) := ⟨_, rfl⟩
            rw [hd.out] at ck bk
            obtain ⟨t1, ht1⟩ : ∃ t, Hid (t = d * 2) := ⟨_, rfl⟩
            obtain ⟨t, hte⟩ : ∃ t, Hid (t = d * 2 + c) := ⟨_, rfl⟩
            have hw1 : IntKind.u64.wrap (d * 2) = t1 := by rw [IntKind.wrap_u64]; have := ht1.out; omega
            have hw2 : IntKind.u64.wrap (t1 + c) = t := by rw [IntKind.wrap_u64]; have := ht1.out; have := hte.out; omega
            have htb : 0 ≤ t ∧ t ≤ 131071 := by have := hte.out; omega
            have hr1 : t.tmod 65536 = t % 65536 := Int.tmod_eq_emod_of_nonneg htb.1
            have hr2 : t.tdiv 65536 = t / 65536 := Int.tdiv_eq_ediv_of_nonneg htb.1
            have hnz : ¬ (65536 : Int) = 0 := by omega
            clear hcr hfr
            go_wp2
            all_goals try go_region
            all_goals go_wp2
            all_goals go_roundw
            case rel =>
              refine ⟨m + 1, t / 65536, upd de m (t % 65536), by omega, rfl, by go_num, by omega, ?_, ?_, ?_, ?_, ?_, ?_, ?_⟩
              · exact row_other hq hdim3.symm
              · rw [← fl_set]; exact row_set _ hr hlt
              · intro i hi; exact (cell_other hdim2).trans (hcb i hi)
              · intro i hi; unfold upd; split
                · omega
                · exact hle i hi
              · intro i hi; rw [upd_ne (by omega)]; exact hde i (by omega)
              · have h := hsm.out
                show _ = _
                rw [sm_succ, sm_succ, sm_upd_above (Nat.le_refl _), upd_at, Int.pow_succ, hd.out]
                have h2 : t % 65536 + t / 65536 * 65536 = d * 2 + c := by have := hte.out; omega
                generalize (65536 : Int) ^ m = B at *
                have h3 : (t % 65536 + t / 65536 * 65536) * B = (d * 2 + c) * B := by rw [h2]
                grind
              · exact hB.setCell (p := ⟨w'.heap.size, m, none⟩) (by show w.heap.size ≤ w'.heap.size; omega) _
            case measure => (simp [intOf] <;> omega)
          · have hm' : m = 17 := by omega
            subst hm'
            have e17 : (65536 : Int) ^ 17 = 7588550360256754183279148073529370729071901715047420004889892225542594864082845696 := by decide
            have hsde : sm de 17 = 2 * R + bit := by
              have h1 := hsm.out
              have h2 := sm_lim 17 hle
              have h3 := hC1.out
              have h4 := hbs.2
              rw [hsr, e17] at h1
              rw [e17] at h2
              omega
            have hsdb : sm (db17 u0 u1 u2 u3) 17 = C := by rw [db17_sm hu, hCe.out]
            have hcd : ∀ i, i < 17 → wr.cell? ⟨w'.heap.size, i, none⟩ = some (.int .u64 (de i)) := fun i hi => by rw [hcr i hi]; simp [fl]
            have hgbr : gb < wr.heap.size := lt_of_cell (hcb 0 (by omega))
            have hsq2 : Hid (sm dq 32 = 2 * qv * 2 ^ k) := by unfold Hid; rw [hsq, Int.pow_succ]; grind
            clear hcr hfr hsm
            by_cases hless : 2 * R + bit < C
            · have hdec : decide (sm de 17 < sm (db17 u0 u1 u2 u3) 17) = true := by rw [hsde, hsdb]; simpa using hless
              have hnew : Hid (ByS P C (2 * qv) (2 * R + bit) k) := by
                have := hbit.out; unfold Hid; rw [this]; exact byS_less hbs (by rw [← this]; exact hless)
              clear hsdb
              go_wp2_with (go_at_call 45; refine (less_any de (db17 u0 u1 u2 u3) 17 w'.heap.size 17 gb cb (by omega) _ hgrl hgbr hcd hcb hle (fun i _ => db17_lim i)).mono ?_; rintro e w3 ⟨rfl, hb3⟩; rw [hdec])
              go_roundw
              case rel =>
                (repeat apply Exists.intro)
                refine And.intro ?_ rfl
                exact ⟨k, dq, de, 2 * qv, 2 * R + bit, by omega, by go_num, row_below hq hb3, row_below hr hb3, fun i hi => (hb3.cell (p := ⟨gb, i, none⟩) hgbr).trans (hcb i hi), hlq, hle, ⟨hnew.out, hsde, hsq2.out⟩, bt' hB hb3 hsw⟩
              case measure => (simp [intOf] <;> omega)
            · have hdec : decide (sm de 17 < sm (db17 u0 u1 u2 u3) 17) = false := by rw [hsde, hsdb]; simpa using hless
              have hnew : Hid (ByS P C (2 * qv + 1) (2 * R + bit - C) k) := by
                have := hbit.out; unfold Hid; rw [this]; exact byS_more hbs (by rw [← this]; exact hless)
              have Hless : Hid (C ≤ 2 * R + bit) := show _ ≤ _ by omega
              have HsC : Hid _ := hsdb
              have Hsde : Hid _ := hsde
              clear hless hsdb hsde
              go_wp2_with (go_at_call 45; refine (less_any de (db17 u0 u1 u2 u3) 17 w'.heap.size 17 gb cb (by omega) _ hgrl hgbr hcd hcb hle (fun i _ => db17_lim i)).mono ?_; rintro e w3 ⟨rfl, hb3⟩; rw [hdec])
              have hq3 := row_below hq hb3
              have hr3 := row_below hr hb3
              have hcb3 : ∀ i, i < 17 → w3.cell? ⟨gb, i, none⟩ = some (.int .u64 (db17 u0 u1 u2 u3 i)) := fun i hi => (hb3.cell (p := ⟨gb, i, none⟩) hgbr).trans (hcb i hi)
              have hB3 := bt' hB hb3 hsw
              clear hq hr hcb hB hsw hcd hgbr hgrl hb3 hdec
              go_loopw [13, 14] (fun o kk wz => ∃ (m : Nat) (b : Int) (dt : Nat → Int), m ≤ 17 ∧ o = .int .u64 b ∧ kk = .int .i64 m ∧ (0 ≤ b ∧ b ≤ 1) ∧ wz.ownsRow w.heap.size 22 1 (.slice (some ⟨w.heap.size + 1, 0, none⟩) 32 32) 32 (encU (fl dq 32)) ∧ wz.ownsRow w'.heap.size 22 1 (.slice (some ⟨w'.heap.size, 0, none⟩) 17 17) 17 (encU (fl dt 17)) ∧ (∀ i, i < 17 → wz.cell? ⟨gb, i, none⟩ = some (.int .u64 (db17 u0 u1 u2 u3 i))) ∧ (∀ i, i < 17 → 0 ≤ dt i ∧ dt i < 65536) ∧ (∀ i, m ≤ i → dt i = de i) ∧ Hid (sm dt m = sm de m - sm (db17 u0 u1 u2 u3) m + b * 65536 ^ m) ∧ Below w.heap.size w wz) (fun _ kk _ => 17 - (intOf kk).toNat)
              case atStart => exact ⟨0, 0, de, by omega, rfl, rfl, by omega, hq3, hr3, hcb3, hle, fun _ _ => rfl, by unfold Hid; simp [sm], hB3⟩
              case round =>
                clear hq3 hr3 hcb3 hB3
                obtain ⟨m, b, dt, hm, rfl, rfl, hb, hq, hr, hcb, hlt', hdt, hsm, hB⟩ := hrel
                have hsw := hB.size
                obtain ⟨gr, cr, hv, hgr, hgrl, hcr, hfr⟩ := row_words (n := 16) hr (fl_len _ _)
                cases hv
                by_cases hlt : m < 17
                · have ck : wr.cell? ⟨w'.heap.size, m, none⟩ = some (.int .u64 (de m)) := by rw [hcr m hlt]; simp [fl, hdt m (Nat.le_refl _)]
                  have fk := hfr m
                  have c2k := hcb m hlt
                  have p1 := hle m hlt
                  have p2 := @db17_lim u0 u1 u2 u3 m
                  obtain ⟨p, hpe⟩ : ∃ p, Hid (de m = p) := ⟨_, rfl⟩
                  rw [hpe.out] at ck p1
                  obtain ⟨t1, ht1⟩ : ∃ t, Hid (t = p + 65536) := ⟨_, rfl⟩
                  obtain ⟨t2, ht2⟩ : ∃ t, Hid (t = p + 65536 - db17 u0 u1 u2 u3 m) := ⟨_, rfl⟩
                  obtain ⟨t, hte⟩ : ∃ t, Hid (t = p + 65536 - db17 u0 u1 u2 u3 m - b) := ⟨_, rfl⟩
                  have hw1 : IntKind.u64.wrap (p + 65536) = t1 := by rw [IntKind.wrap_u64]; have := ht1.out; omega
                  have hw2 : IntKind.u64.wrap (t1 - db17 u0 u1 u2 u3 m) = t2 := by rw [IntKind.wrap_u64]; have := ht1.out; have := ht2.out; omega
                  have hw3 : IntKind.u64.wrap (t2 - b) = t := by rw [IntKind.wrap_u64]; have := hte.out; have := ht2.out; omega
                  have htb : 0 ≤ t ∧ t ≤ 131071 := by have := hte.out; omega
                  have hr1 : t.tmod 65536 = t % 65536 := Int.tmod_eq_emod_of_nonneg htb.1
                  have hr2 : t.tdiv 65536 = t / 65536 := Int.tdiv_eq_ediv_of_nonneg htb.1
                  have hnz : ¬ (65536 : Int) = 0 := by omega
                  obtain ⟨b', hbe⟩ : ∃ t', Hid (t' = 1 - t / 65536) := ⟨_, rfl⟩
                  have hw4 : IntKind.u64.wrap (1 - t / 65536) = b' := by rw [IntKind.wrap_u64]; have := hbe.out; omega
                  clear hcr hfr
                  go_wp2
                  go_region
                  all_goals go_wp2
                  all_goals go_roundw
                  case rel =>
                    refine ⟨m + 1, b', upd dt m (t % 65536), by omega, rfl, by go_num, by have := hbe.out; omega, ?_, ?_, ?_, ?_, ?_, ?_, ?_⟩
                    · exact row_drew (row_other hq hdim3.symm)
                    · rw [← fl_set]; exact row_drew (row_set _ hr hlt)
                    · intro i hi; exact (cell_other hdim2).trans (hcb i hi)
                    · intro i hi; unfold upd; split
                      · omega
                      · exact hlt' i hi
                    · intro i hi; rw [upd_ne (by omega)]; exact hdt i (by omega)
                    · have h := hsm.out
                      show _ = _
                      rw [sm_succ, sm_succ, sm_succ, sm_upd_above (Nat.le_refl _), upd_at, Int.pow_succ, h, hpe.out]
                      have h2 : t % 65536 = p - db17 u0 u1 u2 u3 m - b + b' * 65536 := by have := hte.out; have := hbe.out; omega
                      rw [h2]
                      generalize (65536 : Int) ^ m = B at *
                      grind
                    · first | exact (hB.setCell (p := ⟨w'.heap.size, m, none⟩) (by show w.heap.size ≤ w'.heap.size; omega) _).drew | exact (hB.drew).setCell (p := ⟨w'.heap.size, m, none⟩) (by show w.heap.size ≤ w'.heap.size; omega) _
                  case measure => (simp [intOf] <;> omega)
                · have hm' : m = 17 := by omega
                  subst hm'
                  have hsdt : Hid (sm dt 17 = 2 * R + bit - C) := by
                    have h1 := hsm.out
                    have h2 := sm_lim 17 hlt'
                    have h3 := Hless.out
                    rw [Hsde.out, HsC.out, e17] at h1
                    rw [e17] at h2
                    have h4 := hC1.out
                    have h5 := hbs.2
                    unfold Hid
                    omega
                  obtain ⟨gq, cq, hv, hgq, hgql, hcq, hfq⟩ := row_words (n := 31) hq (fl_len _ _)
                  cases hv
                  have cqj : wr.cell? ⟨w.heap.size + 1, j, none⟩ = some (.int .u64 (dq j)) := by rw [hcq j hj]; simp [fl]
                  have fqj := hfq j
                  have bqj := hlq j hj
                  have hdg : Hid (dq j = qv * 2 ^ (s + 1) % 65536) := q_digit hj hlq (by rw [hsq, HKJ.out])
                  obtain ⟨x, hxe⟩ : ∃ x, Hid (dq j = x) := ⟨_, rfl⟩
                  rw [hxe.out] at cqj bqj
                  obtain ⟨t, hte⟩ : ∃ t, Hid (t = x + 2 ^ s) := ⟨_, rfl⟩
                  have htl : 0 ≤ t ∧ t < 65536 := by
                    have h1 := hdg.out
                    rw [hxe.out] at h1
                    have h2 := hte.out
                    rcases (show s = 0 ∨ s = 1 ∨ s = 2 ∨ s = 3 ∨ s = 4 ∨ s = 5 ∨ s = 6 ∨ s = 7 ∨ s = 8 ∨ s = 9 ∨ s = 10 ∨ s = 11 ∨ s = 12 ∨ s = 13 ∨ s = 14 ∨ s = 15 by omega) with rfl | rfl | rfl | rfl | rfl | rfl | rfl | rfl | rfl | rfl | rfl | rfl | rfl | rfl | rfl | rfl <;> (simp only [Nat.reduceAdd, Int.reducePow] at h1 h2; omega)
                  have hw : Hid (IntKind.u64.wrap (x + 2 ^ s) = t) := by unfold Hid; rw [← hte.out, IntKind.wrap_u64]; omega
                  have hsum : Hid (sm (upd dq j t) 32 = (2 * qv + 1) * 2 ^ k) := by
                    unfold Hid
                    rw [sm_put t 32 hj, hsq2.out, hxe.out, hte.out, HKJ.out, pow_16]
                    generalize (65536 : Int) ^ j = B
                    generalize (2 : Int) ^ s = D
                    grind
                  have hupd : ∀ i, i < 32 → 0 ≤ upd dq j t i ∧ upd dq j t i < 65536 := fun i hi => by
                    unfold upd; split
                    · exact htl
                    · exact hlq i hi
                  have hgbr : gb < wr.heap.size := lt_of_cell (hcb 0 (by omega))
                  clear hcq hfq hcr hfr hdg hsm
                  rcases (show s = 0 ∨ s = 1 ∨ s = 2 ∨ s = 3 ∨ s = 4 ∨ s = 5 ∨ s = 6 ∨ s = 7 ∨ s = 8 ∨ s = 9 ∨ s = 10 ∨ s = 11 ∨ s = 12 ∨ s = 13 ∨ s = 14 ∨ s = 15 by omega) with rfl | rfl | rfl | rfl | rfl | rfl | rfl | rfl | rfl | rfl | rfl | rfl | rfl | rfl | rfl | rfl
                  all_goals
                    have hw' := hw.out
                    simp only [Int.reducePow] at hw'
                    clear hs
                    go_wp2
                    go_region
                    all_goals go_wp2
                    all_goals go_roundw
                    case rel =>
                      (repeat apply Exists.intro)
                      refine And.intro ?_ rfl
                      refine ⟨k, upd dq j t, dt, 2 * qv + 1, 2 * R + bit - C, by omega, by go_num, ?_, ?_, ?_, hupd, hlt', ⟨hnew.out, hsdt.out, hsum.out⟩, ?_⟩
                      · rw [← fl_set]; exact row_drew (row_set _ hq hj)
                      · exact row_drew (row_other hr hdim3)
                      · intro i hi; exact (cell_other hdim).trans (hcb i hi)
                      · first | exact (hB.setCell (p := ⟨w.heap.size + 1, j, none⟩) (by show w.heap.size ≤ w.heap.size + 1; omega) _).drew | exact (hB.drew).setCell (p := ⟨w.heap.size + 1, j, none⟩) (by show w.heap.size ≤ w.heap.size + 1; omega) _
                    case measure => (simp [intOf] <;> omega)
end Go.Proofs.Ytligkenemocdbaa
