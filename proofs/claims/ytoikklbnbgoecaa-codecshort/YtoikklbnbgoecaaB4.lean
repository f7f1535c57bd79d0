
/- The reference's Bytes. -/
import Derived.Test.YtoikklbnbgoecaaM1
set_option linter.unusedSimpArgs false
set_option linter.unusedVariables false
namespace Go.Proofs.Ytoikklbnbgoecaa
open Go.RowKit

theorem byte_0 {x0 x1 x2 x3 : Int} (hx : Lim x0 x1 x2 x3) {j : Nat} (hj : j < 16) : dg x0 x1 x2 x3 j % 256 = val x0 x1 x2 x3 / 256 ^ (2 * j) % 256 := by
  rw [dg_val hx hj, Int.pow_mul]
  show _ = val x0 x1 x2 x3 / 65536 ^ j % 256
  omega
theorem byte_1 {x0 x1 x2 x3 : Int} (hx : Lim x0 x1 x2 x3) {j : Nat} (hj : j < 16) : dg x0 x1 x2 x3 j / 256 % 256 = val x0 x1 x2 x3 / 256 ^ (2 * j + 1) % 256 := by
  have e : val x0 x1 x2 x3 / 256 ^ (2 * j + 1) = val x0 x1 x2 x3 / 65536 ^ j / 256 := by
    rw [Int.pow_succ, Int.pow_mul]
    show _ / ((65536 : Int) ^ j * 256) = _
    first
      | exact (Int.ediv_ediv_eq_ediv_mul _ (Int.pow_nonneg (by decide))).symm
      | exact (Int.ediv_ediv (Int.pow_nonneg (by decide))).symm
      | exact (Int.ediv_ediv_of_nonneg (Int.pow_nonneg (by decide))).symm
  rw [dg_val hx hj, e]
  generalize val x0 x1 x2 x3 / 65536 ^ j = q
  omega

theorem dg_lim' {x0 x1 x2 x3 : Int} (k : Nat) : 0 ≤ dg x0 x1 x2 x3 k ∧ dg x0 x1 x2 x3 k < 65536 := by unfold dg; omega

set_option maxRecDepth 100000 in
set_option maxHeartbeats 8000000 in
theorem bytesR_any (x0 x1 x2 x3 : Int) (hx : Lim x0 x1 x2 x3) (w : World) :
    Calls Try.prog 54 #[.agg #[.int .u64 x0, .int .u64 x1, .int .u64 x2, .int .u64 x3]] w fun e w' => ∃ v : Value, e = .returned v ∧ w'.ownsRow w.heap.size 5 1 v (byL (val x0 x1 x2 x3) 32).length (encB (byL (val x0 x1 x2 x3) 32)) ∧ Below w.heap.size w w' := by
  have hpad := pads
  obtain ⟨i0, hi, hz0, hz1, hz2⟩ := info_parts u8_info
  go_enter Try.func54, Try.ntmps54
  go_wp2_with (go_at_call 59; refine (digits_w _ _ _ _ hx _).mono ?_; rintro e w1 ⟨g1, cap1, rfl, hg1, hc1, hb1⟩)
  have hs1 : w.heap.size ≤ w1.heap.size := by have := hb1.size; simp at this; omega
  have hB0 : Below w.heap.size w w1 := bt (ba (Below.refl _ _) _) hb1
  go_loopw [4, 5] (fun v i wr => ∃ k : Nat, k ≤ 32 ∧ i = .int .i64 (31 - (k : Int)) ∧ wr.ownsRow w1.heap.size 5 1 v (byL (val x0 x1 x2 x3) k).length (encB (byL (val x0 x1 x2 x3) k)) ∧ Below w1.heap.size w1 wr) (fun _ i _ => (intOf i + 1).toNat)
  case atStart => exact ⟨0, by omega, rfl, ⟨rfl, .inl ⟨rfl, rfl⟩⟩, Below.refl _ _⟩
  case round =>
    obtain ⟨k, hk, rfl, hown, hB⟩ := hrel
    by_cases hlt : k < 32
    · obtain ⟨n, hn⟩ : ∃ n : Nat, Hid (n = (byL (val x0 x1 x2 x3) k).length) := ⟨_, rfl⟩
      rw [← hn.out] at hown
      obtain ⟨a, cap, rfl⟩ := row_slice hown
      have hnl : n ≤ 32 := by have := byL_len (val x0 x1 x2 x3) k; have := hn.out; omega
      have hsz := hB.size
      obtain ⟨j, r, hr, hj, hkj⟩ : ∃ j r : Nat, (r = 0 ∨ r = 1) ∧ j < 16 ∧ 31 - k = 2 * j + r := ⟨(31 - k) / 2, (31 - k) % 2, by omega, by omega, by omega⟩
      have hq : (31 - (k : Int)).tdiv 2 = (j : Int) := by rw [Int.tdiv_eq_ediv_of_nonneg (by omega)]; omega
      have hm : (31 - (k : Int)).tmod 2 = (r : Int) := by rw [Int.tmod_eq_emod_of_nonneg (by omega)]; omega
      have hcj : wr.cell? ⟨g1, j, none⟩ = some (.int .u64 (dg x0 x1 x2 x3 j)) := (hB.cell (p := ⟨g1, j, none⟩) hg1).trans (hc1 j hj)
      have hd := @dg_lim' x0 x1 x2 x3 j
      obtain ⟨b, hbe⟩ : ∃ b, Hid (b = val x0 x1 x2 x3 / 256 ^ (31 - k) % 256) := ⟨_, rfl⟩
      have hb0 : 0 ≤ b ∧ b ≤ 255 := by have := hbe.out; omega
      have hstep : Hid (byL (val x0 x1 x2 x3) (k + 1) = stepB (byL (val x0 x1 x2 x3) k) b) := by unfold Hid; rw [hbe.out]; rfl
      have hin : (0 : Int) ≤ 31 - (k : Int) := by omega
      have hge : decide ((0 : Int) ≤ 31 - (k : Int)) = true := by simpa using hin
      have hskip : n = 0 → b = 0 → byL (val x0 x1 x2 x3) (k + 1) = byL (val x0 x1 x2 x3) k := fun h1 h2 => by
        rw [hstep.out]; exact step_miss ⟨List.eq_nil_of_length_eq_zero (by rw [← hn.out]; exact h1), h2⟩
      have hadd : ¬ (n = 0 ∧ b = 0) → byL (val x0 x1 x2 x3) (k + 1) = byL (val x0 x1 x2 x3) k ++ [b] := fun h => by
        rw [hstep.out]; exact step_hit (fun hh => h ⟨by rw [hn.out, hh.1]; rfl, hh.2⟩)
      have HS : Hid (n = 0 → b = 0 → byL (val x0 x1 x2 x3) (k + 1) = byL (val x0 x1 x2 x3) k) := hskip
      have HA : Hid (¬ (n = 0 ∧ b = 0) → byL (val x0 x1 x2 x3) (k + 1) = byL (val x0 x1 x2 x3) k ++ [b]) := hadd
      clear hskip hadd
      have hwr : Hid ((r = 0 → IntKind.u8.wrap (dg x0 x1 x2 x3 j) = b) ∧ (r = 1 → IntKind.u8.wrap (dg x0 x1 x2 x3 j / 256) = b)) := by
        refine ⟨fun h => ?_, fun h => ?_⟩
        · have e : 31 - k = 2 * j := by omega
          rw [hbe.out, e, ← byte_0 hx hj, IntKind.wrap_u8]
        · have e : 31 - k = 2 * j + 1 := by omega
          rw [hbe.out, e, ← byte_1 hx hj, IntKind.wrap_u8]
      obtain ⟨kk, hkk⟩ : ∃ kk : Nat, Hid (kk = k + 1) := ⟨_, rfl⟩
      rcases hr with rfl | rfl
      all_goals
        first | have hw := hwr.out.1 rfl | have hw := hwr.out.2 rfl
        clear hwr hc1
        by_cases hbz : 0 < b
        · have hdb : decide (0 < b) = true := by simpa using hbz
          go_wp2_with (at_builtin; refine wpList_append_own _ rfl _ _ 26 rfl w1.heap.size 5 i0 _ 1 1 Try.underlying26 hi hz0 hz1 hz2 rfl (by decide) _ _ _ rfl (hown.alloc _) ⟨wr.heap.size, 0, none⟩ 1 1 [_] rfl rfl (cell_one_new _ _ _) (by simp [Value.oneCell']) (by unfold maxLen; omega) (by omega) (by simp; omega) ?_; intro v' w' hown' hgrow _)
          go_roundw
          case rel =>
            have e := hkk.out
            refine ⟨kk, by omega, by rw [e]; go_num, ?_, ?_⟩
            · rw [e, HA.out (by omega), encB_snoc]
              simpa [← hn.out] using hown'
            · refine (hB.alloc hsz _).grown hgrow (by simp; omega) (fun k' e => ?_)
              obtain ⟨_, h2⟩ := hown
              rcases h2 with ⟨h2, _⟩ | ⟨g', cap', cur, h2, hg', _⟩
              · cases h2; cases e
              · cases h2; cases e; exact hg'
          case measure => (simp [intOf] <;> omega)
        · have hdb : decide (0 < b) = false := by simpa using hbz
          have hb00 : b = 0 := by omega
          by_cases hn0 : n = 0
          · have hdn : decide ((0 : Int) < (n : Int)) = false := by simp [hn0]
            go_wp2
            go_roundw
            case rel =>
              have e := hkk.out
              refine ⟨kk, by omega, by rw [e]; go_num, ?_, hB⟩
              rw [e, HS.out hn0 hb00, ← hn.out]
              exact hown
            case measure => (simp [intOf] <;> omega)
          · have hdn : decide ((0 : Int) < (n : Int)) = true := by simp; omega
            have hdn' : (0 : Int) < (n : Int) := by omega
            go_wp2_with (at_builtin; refine wpList_append_own _ rfl _ _ 26 rfl w1.heap.size 5 i0 _ 1 1 Try.underlying26 hi hz0 hz1 hz2 rfl (by decide) _ _ _ rfl (hown.alloc _) ⟨wr.heap.size, 0, none⟩ 1 1 [_] rfl rfl (cell_one_new _ _ _) (by simp [Value.oneCell']) (by unfold maxLen; omega) (by omega) (by simp; omega) ?_; intro v' w' hown' hgrow _)
            go_roundw
            case rel =>
              have e := hkk.out
              refine ⟨kk, by omega, by rw [e]; go_num, ?_, ?_⟩
              · rw [e, HA.out (by omega), encB_snoc]
                simpa [← hn.out, hb00] using hown'
              · refine (hB.alloc hsz _).grown hgrow (by simp; omega) (fun k' e => ?_)
                obtain ⟨_, h2⟩ := hown
                rcases h2 with ⟨h2, _⟩ | ⟨g', cap', cur, h2, hg', _⟩
                · cases h2; cases e
                · cases h2; cases e; exact hg'
            case measure => (simp [intOf] <;> omega)
    · have hk' : k = 32 := by omega
      subst hk'
      go_wp2
      go_ret
      exact ⟨_, rfl, row_base hown hs1, hB0.trans (hB.mono hs1)⟩
end Go.Proofs.Ytoikklbnbgoecaa
