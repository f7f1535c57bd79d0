
/- The reference's Float: the walk. -/
import Derived.Test.YtpdokkhpeoeebaaGI
set_option linter.unusedSimpArgs false
set_option linter.unusedVariables false
set_option maxRecDepth 20000
namespace Go.Proofs.Ytpdokkhpeoeebaa
open Go.RowKit

theorem tm2n {y : Int} (h : 0 ≤ y) : y.tmod 2 = y % 2 := Int.tmod_eq_emod_of_nonneg h
theorem cells_words {W : World} {base g cap : Nat} {x0 x1 x2 x3 : Int} (h : W.ownsRow base 22 1 (.slice (some ⟨g, 0, none⟩) 16 cap) 16 (encU (fl (dg x0 x1 x2 x3) 16))) : g < W.heap.size ∧ ∀ k, k < 16 → W.cell? ⟨g, k, none⟩ = some (.int .u64 (dg x0 x1 x2 x3 k)) := row_cells (n := 15) h
/-- Which of the three a bit is for. -/
theorem half_of (b : Int) (h : 0 ≤ b ∧ b ≤ 1) : (b = 0 ∨ b = 1) := by omega

set_option maxRecDepth 100000 in
set_option maxHeartbeats 8000000 in
theorem floatR_any {x0 x1 x2 x3 : Int} (hx : Lim x0 x1 x2 x3) (w : World) : Calls Try.prog 13 #[.agg #[.int .u64 x0, .int .u64 x1, .int .u64 x2, .int .u64 x3]] w fun e w' => e = .returned (.float .f64 (fI (val x0 x1 x2 x3))) ∧ Below w.heap.size w w' := by
  have v0 := val_lo hx
  have v1 := val_hi hx
  obtain ⟨M, hM⟩ : ∃ M : Nat, Hid (val x0 x1 x2 x3 = (M : Int)) := ⟨(val x0 x1 x2 x3).toNat, show _ = _ by omega⟩
  have hfin : fI (val x0 x1 x2 x3) = fN M := by unfold fI; rw [hM.out, Int.toNat_natCast]
  have hML : M.log2 < 256 := log_256 (by have := hM.out; omega)
  rw [hfin]
  clear hfin v0 v1
  obtain ⟨n, hn⟩ : ∃ n, Hid (n = if M = 0 then 0 else M.log2 + 1) := ⟨_, rfl⟩
  have hn256 : n ≤ 256 := by rw [hn.out]; split <;> omega
  have hMn : Hid (M < 2 ^ n) := by
    show M < 2 ^ n
    rw [hn.out]; split
    · omega
    · exact log_gt M
  have htop : ∀ k, n < k → M / 2 ^ (k - 1) % 2 = 0 := by
    intro k hk
    rw [Nat.div_eq_of_lt (Nat.lt_of_lt_of_le hMn.out (pw_mono (by omega)))]
  have hone : 0 < n → M / 2 ^ (n - 1) % 2 = 1 := by
    intro h0
    have hM0 : M ≠ 0 := by intro h; have := hn.out; rw [if_pos h] at this; omega
    have e := hn.out; rw [if_neg hM0] at e
    have h1 := log_le hM0
    have h2 := log_gt M
    rw [show n - 1 = M.log2 by omega]
    have hp := Nat.two_pow_pos M.log2
    have a : 1 ≤ M / 2 ^ M.log2 := (Nat.le_div_iff_mul_le hp).2 (by omega)
    have b : M / 2 ^ M.log2 < 2 := (Nat.div_lt_iff_lt_mul hp).2 (by rw [Nat.pow_succ] at h2; omega)
    omega
  have hbitv : ∀ j s : Nat, j < 16 → s < 16 → dg x0 x1 x2 x3 j / 2 ^ s % 2 = ((M / 2 ^ (16 * j + s) % 2 : Nat) : Int) := fun j s hj hs => dg_bit hx hM.out hj hs
  go_enter Try.func13, Try.ntmps13
  go_wp2_with (go_at_call 30; refine (digits_o _ _ _ _ hx _).mono ?_; rintro e w1 ⟨g1, cap1, rfl, ho1, hl1, hg1, hb1⟩)
  have hcw := (cells_words ho1).2
  have hB1 : Below w.heap.size w w1 := by
    have h : Below (w.heap.size + 1) (w.alloc (.cells #[.int .u64 x0, .int .u64 x1, .int .u64 x2, .int .u64 x3] 24)) w1 := by simpa using hb1
    exact (ba (Below.refl _ _) _).trans (h.mono (by omega))
  clear ho1 hl1 hg1 hb1
  go_loopw [4] (fun i wr => ∃ k : Nat, n ≤ k ∧ k ≤ 256 ∧ i = .int .i64 (k : Int) ∧ wr = w1) (fun i _ => (intOf i).toNat)
  case atStart => exact ⟨256, hn256, by omega, rfl, rfl⟩
  case round =>
    obtain ⟨k0, hk1, hk2, rfl, rfl⟩ := hrel
    go_upto_region 3 with fail
    go_cut [29] from 14 to 29 (fun s29 wx => s29 = .bool (decide (n < k0)) ∧ wx = wr)
    case first =>
      cases k0 with
      | zero =>
        go_wp2
        go_meet
        exact ⟨by simp, by first | rfl | trivial⟩
      | succ k =>
        have hbz : M / 2 ^ k % 2 = if n < k + 1 then 0 else 1 := by
          split
          · exact htop (k + 1) (by omega)
          · have : n = k + 1 := by omega
            have h := hone (by omega)
            rwa [this] at h
        obtain ⟨j, s, hs, hj, hkj⟩ : ∃ j s : Nat, s < 16 ∧ j < 16 ∧ k = 16 * j + s := ⟨k / 16, k % 16, by omega, by omega, by omega⟩
        have hkq : (k : Int).tdiv 16 = (j : Int) := by rw [Int.tdiv_eq_ediv_of_nonneg (by omega)]; omega
        have hkm : (k : Int).tmod 16 = (s : Int) := by rw [Int.tmod_eq_emod_of_nonneg (by omega)]; omega
        have hkq2 : (k : Int) / 16 = (j : Int) := by omega
        have hkm2 : (k : Int) % 16 = (s : Int) := by omega
        have hkq3 : k / 16 = j := by omega
        have hkm3 : k % 16 = s := by omega
        have cpj := hcw j hj
        have bpj := dg_lim (x0 := x0) (x1 := x1) (x2 := x2) (x3 := x3) j
        have hbd := hbitv j s hj hs
        rw [← hkj] at hbd
        have HKJ : Hid (k = 16 * j + s) := hkj
        clear hkj
        generalize dg x0 x1 x2 x3 j = dj at *
        have hkk0 : (0 : Int) ≤ (k : Int) := by omega
        have hw1 : IntKind.i64.wrap ((k : Int) + 1 - 1) = (k : Int) := by rw [IntKind.wrap_i64]; omega
        have hw2 : IntKind.i64.wrap (k : Int) = (k : Int) := by rw [IntKind.wrap_i64]; omega
        rw [hbz] at hbd
        clear hcw hbitv htop hone hbz
        by_cases hlt : n < k + 1
        all_goals
          first | rw [if_pos hlt] at hbd | rw [if_neg hlt] at hbd
          rcases (show s = 0 ∨ s = 1 ∨ s = 2 ∨ s = 3 ∨ s = 4 ∨ s = 5 ∨ s = 6 ∨ s = 7 ∨ s = 8 ∨ s = 9 ∨ s = 10 ∨ s = 11 ∨ s = 12 ∨ s = 13 ∨ s = 14 ∨ s = 15 by omega) with rfl | rfl | rfl | rfl | rfl | rfl | rfl | rfl | rfl | rfl | rfl | rfl | rfl | rfl | rfl | rfl
        all_goals
          simp only [Int.reducePow, Int.ediv_one] at hbd
          have htm := tm2n bpj.1
          have htd : ∀ d : Int, 0 ≤ d → (dj / d).tmod 2 = dj / d % 2 := fun d hd => tm2n (Int.ediv_nonneg bpj.1 hd)
          clear hs
          go_wp2
          go_meet
          exact ⟨by first | rfl | (simp [htm, htd, hbd, hlt]; done), by first | rfl | trivial⟩
    case rest =>
      obtain ⟨rfl, rfl⟩ := hcut
      by_cases hlt : n < k0
      · have hdl : decide (n < k0) = true := by simpa using hlt
        have hw1 : IntKind.i64.wrap ((k0 : Int) - 1) = (k0 : Int) - 1 := by rw [IntKind.wrap_i64]; omega
        go_wp2
        go_roundw
        case rel => exact ⟨k0 - 1, by omega, by omega, by go_num, by first | rfl | trivial⟩
        case measure => (simp [intOf] <;> omega)
      · have hk : n = k0 := by omega
        subst hk
        have hdl : decide (n < n) = false := by simp
        have hw1 : IntKind.i64.wrap ((n : Int) - 1) = (n : Int) - 1 := by rw [IntKind.wrap_i64]; omega
        rw [hdl]
        go_wp2
        clear htop hone hw1 hdl hlt
        go_loopw [5, 6, 7, 8] (fun s5 s6 s7 s8 wz => ∃ (m : Nat) (tv bv : Int) (sv : Bool), m ≤ n ∧ s5 = .int .u64 tv ∧ s6 = .int .u64 bv ∧ s7 = .bool sv ∧ s8 = .int .i64 ((m : Int) - 1) ∧ Hid (BitS M n m tv bv sv) ∧ wz = wc) (fun _ _ _ s8 _ => (intOf s8 + 1).toNat)
        case atStart => exact ⟨n, 0, 0, false, Nat.le_refl _, rfl, rfl, rfl, rfl, .inl ⟨by omega, by rw [Nat.div_eq_of_lt hMn.out]; rfl, rfl, rfl⟩, rfl⟩
        case round =>
          obtain ⟨m, tv, bv, sv, hm, rfl, rfl, rfl, rfl, hS, rfl⟩ := hrel
          cases m with
          | succ k =>
            have e : (((k + 1 : Nat) : Int) - 1) = (k : Int) := by omega
            rw [e]
            clear e
            obtain ⟨j, s, hs, hj, hkj⟩ : ∃ j s : Nat, s < 16 ∧ j < 16 ∧ k = 16 * j + s := ⟨k / 16, k % 16, by omega, by omega, by omega⟩
            have hkq : (k : Int).tdiv 16 = (j : Int) := by rw [Int.tdiv_eq_ediv_of_nonneg (by omega)]; omega
            have hkm : (k : Int).tmod 16 = (s : Int) := by rw [Int.tmod_eq_emod_of_nonneg (by omega)]; omega
            have hkq2 : (k : Int) / 16 = (j : Int) := by omega
            have hkm2 : (k : Int) % 16 = (s : Int) := by omega
            have hkq3 : k / 16 = j := by omega
            have hkm3 : k % 16 = s := by omega
            have cpj := hcw j hj
            have bpj := dg_lim (x0 := x0) (x1 := x1) (x2 := x2) (x3 := x3) j
            have hbd := hbitv j s hj hs
            rw [← hkj] at hbd
            have HKJ : Hid (k = 16 * j + s) := hkj
            clear hkj
            generalize dg x0 x1 x2 x3 j = dj at *
            have hkk0 : (0 : Int) ≤ (k : Int) := by omega
            obtain ⟨b, hb⟩ : ∃ b : Int, Hid (b = ((M / 2 ^ k % 2 : Nat) : Int)) := ⟨_, rfl⟩
            rw [← hb.out] at hbd
            have hb01 : 0 ≤ b ∧ b ≤ 1 := by have h := hb.out; have := Nat.mod_lt (M / 2 ^ k) (show 0 < 2 by decide); omega
            go_upto_region 11 with fail
            go_cut [9] from 34 to 66 (fun s9 wx => s9 = .int .u64 b ∧ wx = wr)
            case first =>
              clear hcw hbitv hS
              rcases (show s = 0 ∨ s = 1 ∨ s = 2 ∨ s = 3 ∨ s = 4 ∨ s = 5 ∨ s = 6 ∨ s = 7 ∨ s = 8 ∨ s = 9 ∨ s = 10 ∨ s = 11 ∨ s = 12 ∨ s = 13 ∨ s = 14 ∨ s = 15 by omega) with rfl | rfl | rfl | rfl | rfl | rfl | rfl | rfl | rfl | rfl | rfl | rfl | rfl | rfl | rfl | rfl
              all_goals
                simp only [Int.reducePow, Int.ediv_one] at hbd
                have htm := tm2n bpj.1
                have htd : ∀ d : Int, 0 ≤ d → (dj / d).tmod 2 = dj / d % 2 := fun d hd => tm2n (Int.ediv_nonneg bpj.1 hd)
                clear hs
                go_wp2
                go_meet
                exact ⟨by first | rfl | (rw [← hbd]; done) | (simp [htm, htd, hbd]; done), by first | rfl | trivial⟩
            case rest =>
              obtain ⟨rfl, rfl⟩ := hcut
              clear hbd cpj bpj hcw
              have hwk : IntKind.i64.wrap ((n : Int) - (k : Int)) = (n : Int) - (k : Int) := by rw [IntKind.wrap_i64]; omega
              have hwk1 : IntKind.i64.wrap ((k : Int) - 1) = (k : Int) - 1 := by rw [IntKind.wrap_i64]; omega
              by_cases c1 : n - k ≤ 53
              · have d1 : decide ((n : Int) - (k : Int) ≤ 53) = true := by simp; omega
                have htl : 0 ≤ tv ∧ tv < 9007199254740992 := by
                  rcases hS.out with ⟨h1, h2, -, -⟩ | ⟨h1, -⟩
                  · have hq := bit_lim hMn.out hm h1
                    rw [h2]
                    generalize M / 2 ^ (k + 1) = q at *
                    omega
                  · omega
                obtain ⟨t2, ht2⟩ : ∃ t2, Hid (t2 = 2 * tv) := ⟨_, rfl⟩
                have hw3 : IntKind.u64.wrap (2 * tv) = t2 := by rw [IntKind.wrap_u64, ht2.out]; omega
                obtain ⟨t3, ht3⟩ : ∃ t3, Hid (t3 = 2 * tv + b) := ⟨_, rfl⟩
                have hw4 : IntKind.u64.wrap (t2 + b) = t3 := by rw [IntKind.wrap_u64, ht3.out, ht2.out]; omega
                have hN := bitS_top hS.out hb.out c1 (by omega)
                rw [← ht3.out] at hN
                clear hS
                have hS : Hid _ := hN
                clear hN
                go_wp2
                go_roundw
                case rel => exact ⟨k, t3, bv, sv, by omega, rfl, rfl, rfl, by go_num, hS, by first | rfl | trivial⟩
                case measure => (simp [intOf] <;> omega)
              · have d1 : decide ((n : Int) - (k : Int) ≤ 53) = false := by simp; omega
                by_cases c2 : n - k = 54
                · have d2 : ((n : Int) - (k : Int) == 54) = true := by simp; omega
                  have hN := bitS_half hS.out hb.out c2
                  clear hS
                  have hS : Hid _ := hN
                  clear hN
                  go_wp2
                  go_roundw
                  case rel => exact ⟨k, tv, b, sv, by omega, rfl, rfl, rfl, by go_num, hS, by first | rfl | trivial⟩
                  case measure => (simp [intOf] <;> omega)
                · have d2 : ((n : Int) - (k : Int) == 54) = false := by simp; omega
                  have hN := bitS_more hS.out hb.out (by omega)
                  clear hS
                  cases sv
                  all_goals
                    simp only [Bool.false_or, Bool.true_or] at hN
                    have hS : Hid _ := hN
                    clear hN
                    go_wp2
                    go_roundw
                    case rel => exact ⟨k, tv, bv, _, by omega, rfl, rfl, rfl, by go_num, hS, by first | rfl | trivial⟩
                    case measure => (simp [intOf] <;> omega)
          | zero =>
            obtain ⟨tw, htw⟩ : ∃ tw, Hid (tw = if bv = 1 ∧ (sv = true ∨ tv % 2 = 1) then tv + 1 else tv) := ⟨_, rfl⟩
            obtain ⟨T, hT1, hT2, hT3, hT4⟩ := bitS_end hS.out hMn.out hn.out tw htw.out
            have htv : 0 ≤ tv ∧ tv ≤ 9007199254740992 := by
              have := htw.out
              split at this
              · rename_i hc
                have hh : 0 ≤ tv := by
                  rcases hS.out with ⟨-, h2, -⟩ | ⟨-, h2, -⟩ <;> (rw [h2]; exact Int.natCast_nonneg _)
                omega
              · omega
            have hbv : bv = 0 ∨ bv = 1 := by
              rcases hS.out with ⟨-, -, h2, -⟩ | ⟨-, -, h2, -⟩
              · exact .inl h2
              · have := Nat.mod_lt (M / 2 ^ (n - 54)) (show 0 < 2 by decide)
                generalize M / 2 ^ (n - 54) % 2 = q at *
                omega
            have htm := tm2n htv.1
            clear hS hcw hbitv
            have hMX : fN M < 2047 * 4503599627370496 := fN_lt (by omega)
            have e0 : (((0 : Nat) : Int) - 1) = -1 := rfl
            rw [e0]
            go_upto_region 17 with fail
            obtain ⟨cb, hcb⟩ : ∃ cb, Hid (cb = decide (bv = 1 ∧ (sv = true ∨ tv % 2 = 1))) := ⟨_, rfl⟩
            go_cut [76] from 67 to 76 (fun s76 wx => s76 = .bool cb ∧ wx = wr)
            case first =>
              rcases hbv with rfl | rfl
              · go_wp2
                go_meet
                exact ⟨by rw [hcb.out]; simp, by first | rfl | trivial⟩
              · cases sv
                · go_wp2
                  go_meet
                  exact ⟨by rw [hcb.out]; first | rfl | (simp [htm]; done) | (simp [htm]; rfl), by first | rfl | trivial⟩
                · go_wp2
                  go_meet
                  exact ⟨by rw [hcb.out]; first | rfl | (simp; done), by first | rfl | trivial⟩
            case rest =>
              obtain ⟨rfl, rfl⟩ := hcut
              have htop : cb = true ∧ IntKind.u64.wrap (tv + 1) = (T : Int) ∨ cb = false ∧ tv = (T : Int) := by
                have h := htw.out
                have k := hcb.out
                by_cases c : bv = 1 ∧ (sv = true ∨ tv % 2 = 1)
                · rw [if_pos c] at h; exact .inl ⟨by rw [k]; exact decide_eq_true c, by rw [IntKind.wrap_u64]; omega⟩
                · rw [if_neg c] at h; exact .inr ⟨by rw [k]; exact decide_eq_false c, by omega⟩
              have hcv := conv_fN (n := T) (by have := log_64 (n := T) (by omega); omega)
              have hm2 : ∀ (X Y : Nat), floatBits .mul .f64 X 4611686018427387904 = some Y → ∀ w : World, (binOp .mul 26 (.float .f64 X) (.float .f64 4611686018427387904)).run Try.prog w = .ok (.float .f64 Y) w := fun X Y h w => run_float_arith w _ _ _ _ _ _ h
              clear htw hT1 hbv hcb
              obtain ⟨X0, hX0⟩ : ∃ X0, Hid (X0 = fN T) := ⟨_, rfl⟩
              rw [← hX0.out] at hcv
              rcases htop with ⟨rfl, hw⟩ | ⟨rfl, rfl⟩
              all_goals
                go_wp2
                go_loopw [10, 11] (fun s10 s11 wz => ∃ q X : Nat, 53 ≤ q ∧ (q ≤ n ∨ q = 53) ∧ s10 = .float .f64 X ∧ s11 = .int .i64 (q : Int) ∧ Hid (X = fN T + (q - 53) * 4503599627370496) ∧ wz = wc) (fun _ s11 _ => n - (intOf s11).toNat)
                case atStart => exact ⟨53, X0, by omega, .inr rfl, rfl, rfl, by show _ = _; rw [hX0.out]; simp, rfl⟩
                case round =>
                  obtain ⟨q, X, hq1, hq2, rfl, rfl, hX, rfl⟩ := hrel
                  by_cases hlt : q < n
                  · have hdl : decide ((q : Int) < (n : Int)) = true := by simpa using hlt
                    obtain ⟨hT5, hT6⟩ := hT4 (by omega)
                    obtain ⟨Y, hY⟩ : ∃ Y, Hid (Y = X + 4503599627370496) := ⟨_, rfl⟩
                    have hfb : floatBits .mul .f64 X 4611686018427387904 = some Y := by
                      show Ieee.double.mul X 4611686018427387904 = some Y
                      have hTg := fN_ge (n := T) (by omega)
                      have hx := hX.out
                      have e : (4611686018427387904 : Nat) = (1023 + 1) * 4503599627370496 := by decide
                      rw [e, mul_pow (r := X) (k := 1) (by omega) (by omega) (by omega), hY.out, Nat.one_mul]
                    have hmm := hm2 X Y hfb
                    have hw5 : IntKind.i64.wrap ((q : Int) + 1) = (q : Int) + 1 := by rw [IntKind.wrap_i64]; omega
                    clear hfb hT5 hT6
                    go_wp2
                    go_roundw
                    case rel => exact ⟨q + 1, Y, by omega, by omega, rfl, by go_num, by show _ = _; rw [hY.out, hX.out]; omega, by first | rfl | trivial⟩
                    case measure => (simp [intOf] <;> omega)
                  · have hdl : decide ((q : Int) < (n : Int)) = false := by simpa using hlt
                    have hXM : X = fN M := by
                      rw [hX.out]
                      rcases Nat.lt_or_ge 53 n with h | h
                      · obtain ⟨-, h6⟩ := hT4 h
                        rw [show q = n by omega]; exact h6
                      · rw [show q = 53 by omega, ← hT3 h]; simp
                    subst hXM
                    go_wp2
                    go_ret
                    exact ⟨rfl, hB1⟩
end Go.Proofs.Ytpdokkhpeoeebaa
