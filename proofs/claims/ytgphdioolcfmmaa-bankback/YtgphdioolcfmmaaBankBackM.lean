
/- For all deeds jointurelaw09.BankBack returns true and writes nothing that was there: behind any deeds what is sent and sent back is as it was, and to oneself it is nothing. No condition. -/
import Derived.Test.YtgphdioolcfmmaaBM5
set_option linter.unusedSimpArgs false
set_option linter.unusedVariables false
set_option maxRecDepth 20000
namespace Go.Proofs.Ytgphdioolcfmmaa
open Go.ChangeShapes Go.WideShapes Go.ChangeAt Go.RowKit

set_option maxRecDepth 10000 in
set_option maxHeartbeats 8000000 in
theorem bankBack_any {w : World} (a : Option Addr) (len cap : Nat) (l : List Ac) (y : Ac) (hm : len ≤ 9223372036854775807) (h : AcsIn w a len l) (hy : AcIn w y) :
    Calls Try.prog 6 #[.slice a len cap, .agg #[.int .u8 y.d, .int .u8 y.f, .int .u8 y.t, .slice y.a y.n y.cap, .bool y.o]] w fun e w' => e = .returned (.bool true) ∧ Below w.heap.size w w' := by
  have hC0 := fun (hn : y.n ≤ 12) (W : World) (hW : Below w.heap.size w W) => fun Z hZ => coins9_any (hy.below hW) hn Z hZ
  have hC0 : Hid _ := hC0
  have hyf := hy.f
  have hyt := hy.t
  have hyn := hy.n
  obtain ⟨d, f, t, ya, yn, yc, yo, yL⟩ := y
  simp only at hC0 hyf hyt hyn ⊢
  clear hy
  obtain ⟨f, rfl⟩ := Int.eq_ofNat_of_zero_le hyf.1
  obtain ⟨t, rfl⟩ := Int.eq_ofNat_of_zero_le hyt.1
  have hf255 : f ≤ 255 := by omega
  have ht255 : t ≤ 255 := by omega
  clear hyf hyt
  have hw0 : Below w.heap.size w (w.alloc (.cells #[.int .u8 d, .int .u8 f, .int .u8 t, .slice ya yn yc, .bool yo] 40)) := ba (Below.refl _ _) _
  have hKp : Hid (∀ Z, Below (w.alloc (.cells #[.int .u8 d, .int .u8 f, .int .u8 t, .slice ya yn yc, .bool yo] 40)).heap.size (w.alloc (.cells #[.int .u8 d, .int .u8 f, .int .u8 t, .slice ya yn yc, .bool yo] 40)) Z → Z.cell? ⟨w.heap.size, 0, none⟩ = some (.int .u8 d) ∧ Z.cell? ⟨w.heap.size, 1, none⟩ = some (.int .u8 f) ∧ Z.cell? ⟨w.heap.size, 2, none⟩ = some (.int .u8 t) ∧ Z.cell? ⟨w.heap.size, 3, none⟩ = some (.slice ya yn yc) ∧ Z.cell? ⟨w.heap.size, 4, none⟩ = some (.bool yo)) := fun Z hZ => by
    have q1 := (cells_of_block ((hZ.block w.heap.size (by simp)).trans (al_at rfl))).1
    exact ⟨q1 0, q1 1, q1 2, q1 3, q1 4⟩
  have hF0 : ∀ W, Below w.heap.size w W → Calls Try.prog 10 #[.slice a len cap] W fun e w' => e = .returned (.bool (fewA l)) ∧ Below W.heap.size W w' := fun W hW => few9_any hm h W hW
  have h0 := h.below hw0
  have hC := fun (hn : yn ≤ 12) => hC0.out hn _ hw0
  generalize hwz : w.alloc (.cells #[.int .u8 d, .int .u8 f, .int .u8 t, .slice ya yn yc, .bool yo] 40) = w0 at hw0 hKp h0 hC
  replace hC : Hid _ := hC
  cases hf : fewA l
  · rw [hf] at hF0
    replace hF0 : Hid _ := hF0
    clear hf
    go_enter Try.func6, Try.ntmps6
    go_upto_region 2 with (first
      | (go_at_call 9; refine (sends_any _).mono ?_; rintro e w1 ⟨rfl, hb1⟩; have hb01 := bt hw0 hb1)
      | (go_at_call 10; refine (hF0.out _ hb01).mono ?_; rintro e w2 ⟨rfl, hb2⟩))
    go_wp2_with (go_at_call 9; refine (sends_any _).mono ?_; rintro e w3 ⟨rfl, hb3⟩)
    go_ret
    exact ⟨rfl, bt (bt hb01 hb2) hb3⟩
  · rw [hf] at hF0
    replace hF0 : Hid _ := hF0
    obtain ⟨hl30, hn12⟩ := fewA_t hf
    have hln := h.num
    clear hf
    by_cases hy12 : 12 < yn
    · have hy12' : (12 : Int) < (yn : Int) := by omega
      go_enter Try.func6, Try.ntmps6
      go_upto_region 2 with (first
        | (go_at_call 9; refine (sends_any _).mono ?_; rintro e w1 ⟨rfl, hb1⟩; have hb01 := bt hw0 hb1)
        | (go_at_call 10; refine (hF0.out _ hb01).mono ?_; rintro e w2 ⟨rfl, hb2⟩; have hk2 := (hKp.out _ (bt hb1 hb2)).2.2.2.1))
      go_wp2_with (go_at_call 9; refine (sends_any _).mono ?_; rintro e w3 ⟨rfl, hb3⟩)
      go_ret
      exact ⟨rfl, bt (bt hb01 hb2) hb3⟩
    · have hy12' : ¬ (12 : Int) < (yn : Int) := by omega
      go_enter Try.func6, Try.ntmps6
      go_wp2_with (first
        | (go_at_call 9; refine (sends_any _).mono ?_; rintro e w1 ⟨rfl, hb1⟩; have hb01 := bt hw0 hb1)
        | (go_at_call 10; refine (hF0.out _ hb01).mono ?_; rintro e w2 ⟨rfl, hb2⟩; have hk2 := (hKp.out _ (bt hb1 hb2)).2.2.2.1; have hb12 := bt hb1 hb2; clear hb1 hb2 hF0 hb01)
        | (go_at_call 11; refine (stdNew _).mono ?_; rintro e w3 ⟨rfl, h3, hb3⟩; have hP := bp_new hb12 h3 hb3; clear h3 hb3))
      go_loopw [7] (fun i X => ∃ (j : Nat) (b : Nat → Nat → Cn), j ≤ len ∧ i = .int .i64 (j : Int) ∧ BP w0 X w2.heap.size w3.heap.size b (16 * j)) (fun i _ => len - (intOf i).toNat)
      case atStart => exact ⟨0, _, by omega, rfl, hP⟩
      case round =>
        obtain ⟨j, b, hj, rfl, hB⟩ := hrel
        by_cases hlt : j < len
        · have hkl : j < l.length := by omega
          obtain ⟨blk, off, rfl, hb, c0, c1, c2, c3, c4⟩ := ac_at h0 hB.out hkl
          have hy := h0.ok l[j] (List.getElem_mem hkl)
          have hz12 := hn12 l[j] (List.getElem_mem hkl)
          have hD := does9_any hB (by omega) hy hz12
          generalize l[j] = y at *
          obtain ⟨zd, zf, zt, za, zn, zc, zo, zL⟩ := y
          simp only at c0 c1 c2 c3 c4 hD hz12
          have hlt' : (j : Int) < (len : Int) := by omega
          clear hy hP h h0 hB
          go_wp2_with (go_at_call 12; refine hD.mono ?_; clear hD; rintro e w4 ⟨rfl, b', hB4⟩)
          all_goals go_roundw
          case rel => exact ⟨j + 1, b', by omega, by go_num, hB4.up (by omega)⟩
          case measure => (simp [intOf] <;> omega)
        · have hjn : j = len := by omega
          subst hjn
          have hBo := hB.out
          have kr := hKp.out _ hBo
          have hCr : Hid (∀ Z, Below wr.heap.size wr Z → Calls Try.prog 23 #[.agg #[.int .u8 d, .int .u8 f, .int .u8 t, .slice ya yn yc, .bool yo]] Z fun e w' => ∃ v l, e = .returned v ∧ IsCoins w' v l ∧ (∀ x ∈ l, CnWf x) ∧ Arg w0 wr v l ∧ Below Z.heap.size Z w') := fun Z hZ => by
            refine (hC.out (by omega) Z (bt hBo hZ)).mono ?_
            rintro e w' ⟨v, l, rfl, q1, q2, q3, q4⟩
            exact ⟨v, l, rfl, q1, q2, q3.imp id (fun g q hq => (g q hq).imp id (fun h => Nat.le_trans hZ.size h)), q4⟩
          clear hC hP h h0 hC0
          go_upto_region 8 with fail
          go_region_held2 (fun Z => Z.cell? ⟨w.heap.size, 0, none⟩ = some (.int .u8 d) ∧ Z.cell? ⟨w.heap.size, 1, none⟩ = some (.int .u8 f) ∧ Z.cell? ⟨w.heap.size, 2, none⟩ = some (.int .u8 t) ∧ Z.cell? ⟨w.heap.size, 3, none⟩ = some (.slice ya yn yc) ∧ Z.cell? ⟨w.heap.size, 4, none⟩ = some (.bool yo)) (first | (with_reducible assumption) | exact hKp.out _ (bt hBo (by (repeat (first | (with_reducible exact Below.refl _ _) | (with_reducible assumption) | (with_reducible apply bd) | (with_reducible apply ba) | (with_reducible refine bp ?_ (by first | omega | (simp [pad_size]; done) | (simp [pad_size]; omega)) _ _) | (with_reducible refine bs ?_ (by first | omega | (simp [pad_size]; done) | (simp [pad_size]; omega)) _) | (with_reducible refine bt ?_ (by assumption))))))) (first
            | (go_at_call 22; with_reducible refine (addr9_any f hf255 _).mono ?_; rintro e w4 ⟨p, hp, rfl, hb4⟩)
            | (go_at_call 22; with_reducible refine (addr9_any t ht255 _).mono ?_; rintro e w5 ⟨q, hq, rfl, hb5⟩)
            | (go_at_call 23; with_reducible refine (hCr.out _ (by (repeat (first | (with_reducible exact Below.refl _ _) | (with_reducible assumption) | (with_reducible apply bd) | (with_reducible apply ba) | (with_reducible refine bp ?_ (by first | omega | (simp [pad_size]; done) | (simp [pad_size]; omega)) _ _) | (with_reducible refine bs ?_ (by first | omega | (simp [pad_size]; done) | (simp [pad_size]; omega)) _) | (with_reducible refine bt ?_ (by assumption)))))).mono ?_; rintro e w6 ⟨v, c, rfl, hv, hwf, hArg, hb6⟩))
          have hB6 : Below wr.heap.size wr w6 := (by first | exact bt (bt hb4 hb5) hb6 | exact bt (bt (bt (bd (Below.refl _ _)) hb4) hb5) hb6)
          clear hb4 hb5 hb6 kr
          have hh : 16 * j ≤ 480 := by omega
          have hBP6 := hB.below hB6
          by_cases hg : (p < 205 ∧ rightFrom 0 c = true ∧ q < 205) ∧ Has b p (fun d => amt c d)
          · obtain ⟨P, hS, hself, hback⟩ := back_ok hB hB6 (by omega) hv hwf hArg hg.1.1 hg.1.2.1 hg.1.2.2 hg.2
            clear hB hBo hv hwf hArg hg hBP6 hCr hKp
            by_cases hpq : p = q
            · subst hpq
              go_wp2_with (first
                | (go_at_call 24; refine hS.mono ?_; clear hS; rintro e w7 ⟨rfl, hPY⟩; have hBY := hself rfl _ hPY; clear hself hback hPY)
                | (go_at_call 13; refine (same9_any hBY (by omega)).mono ?_; rintro e w8 ⟨rfl, hb8⟩))
              go_ret
              exact ⟨rfl, bt (bt hw0 hBY.out) hb8⟩
            · have hne : ¬ (p : Int) = (q : Int) := by omega
              have hbk := hback hpq
              clear hback hself hpq
              go_wp2_with (first
                | (go_at_call 24; refine hS.mono ?_; clear hS; rintro e w7 ⟨rfl, hPY⟩)
                | (go_at_call 24; refine (hbk _ hPY).mono ?_; clear hPY; rintro e w8 ⟨rfl, hBY⟩)
                | (go_at_call 13; refine (same9_any hBY (by omega)).mono ?_; rintro e w9 ⟨rfl, hb9⟩))
              go_ret
              exact ⟨rfl, bt (bt hw0 hBY.out) hb9⟩
          · obtain ⟨A, L, base, B, base', vs, vb, M, hD, hBk, -⟩ := hB
            obtain ⟨cc, hcc, hS⟩ := back_no (hD.below hB6) hBk (by omega) hp hq hv hwf hg
            clear hD hBk hv hwf hg hArg hCr hKp hBo
            rcases hcc with rfl | rfl
            · go_wp2_with (first
                | (go_at_call 24; refine hS.mono ?_; clear hS; rintro e w7 ⟨rfl, hb7⟩)
                | (go_at_call 13; refine (same9_any (hBP6.below hb7) (by omega)).mono ?_; rintro e w8 ⟨rfl, hb8⟩))
              go_ret
              exact ⟨rfl, bt (bt hw0 (hBP6.below hb7).out) hb8⟩
            · go_wp2_with (first
                | (go_at_call 24; refine hS.mono ?_; clear hS; rintro e w7 ⟨rfl, hb7⟩)
                | (go_at_call 13; refine (same9_any (hBP6.below hb7) (by omega)).mono ?_; rintro e w8 ⟨rfl, hb8⟩))
              go_ret
              exact ⟨rfl, bt (bt hw0 (hBP6.below hb7).out) hb8⟩

theorem bankBack_own : ownKnob Try.prog.godebug = none := by kernel_rfl
theorem bankBack_laid : laidOutB Try.prog = true := by kernel_rfl

set_option maxRecDepth 100000 in
theorem bankBack_lifted (os : Os) (started : os.Started) (H : Type) (enc : TypeId × Value → H) :
    ReturnsInHanded {} Try.checked os 6 .any (Rows.bankBackSpec.pre6 enc Try.prog Try.f6 Rows.bankBackRow.domain false) (Rows.bankBackSpec.post enc Try.prog Try.f6 false true false false) := by
  refine returnsInHanded_of_change (C := Try.checked) bankBack_own started (by kernel_rfl) Try.func6
    (ChangeSpec.witness6 (enc := enc) (C := Try.checked) false ⟨#[], #[.slice none 0 0, .agg #[.int .u8 0, .int .u8 0, .int .u8 0, .slice none 0 0, .bool false]], []⟩ 8 (by kernel_rfl) (by kernel_rfl) (by kernel_rfl) (by kernel_rfl)) ?_
  intro W base args ds gs before hval0 hW hcnd _
  have hval : ∀ (j : Nat) t v, Try.f6.params[j]? = some t → args[j]? = some v → Value.okWide Try.prog W .any base t v := hval0
  have hW' := hW
  obtain ⟨p, q, hA0, hV, rfl, hfz, hnd⟩ := hW
  have hA : DataW.TrodAll enc Try.prog W 0 (fun _ => true) true Try.f6.params.toList args.toList ds p := hA0
  rw [Try.params6] at hA hval
  obtain ⟨v0, vs0, d0, ds0, p0, q0, hargs0, rfl, rfl, h0, r0⟩ := trodAll_cons hA
  obtain ⟨v1, vs1, d1, ds1, p1, q1, hargs1, rfl, rfl, h1, r1⟩ := trodAll_cons r0
  obtain ⟨rfl, rfl, rfl⟩ := trodAll_nil r1
  obtain rfl : args = #[v0, v1] := by cases args; simp_all
  obtain ⟨rfl, rfl⟩ := trodVars_none hV
  have k0 := h0
  have lt0 : ∀ x ∈ p0, x.block < W.heap.size := by obtain ⟨m, hm⟩ := k0; exact DataW.trod_lt m _ _ _ hm
  have k1 := h1
  have lt1 : ∀ x ∈ p1, x.block < W.heap.size := by obtain ⟨m, hm⟩ := k1; exact DataW.trod_lt m _ _ _ hm
  obtain ⟨a0, len0, cap0, rfl⟩ := okWide_slice Try.underlying22 (hval 0 22 v0 rfl rfl)
  obtain ⟨fuel0, hf0⟩ := h0
  simp only [Value.cells] at hf0
  obtain ⟨l0, hl0⟩ := acts9_open hf0
  obtain ⟨y1, rfl, hl1⟩ := act9_in (hval 1 40 v1 rfl rfl) h1
  clear hA0 hval0
  have walk : Calls Try.prog 6 _ W fun e w' => e = .returned (.bool true) ∧ Below W.heap.size W w' := bankBack_any a0 len0 cap0 l0 y1 (slice_len Try.underlying22 hf0) hl0 hl1
  refine walk.mono fun e W' ⟨he, bel⟩ => ?_
  subst he
  exact ⟨_, rfl, _, _, _, [], _, [], hW', trodAll_mk1 (shut_bool Try.underlying4 _), trodAll_cons_mk (Below.trod bankBack_laid (by kernel_rfl) (of_decide_eq_true (by kernel_rfl)) k0 bel lt0) (trodAll_cons_mk (Below.trod bankBack_laid (by kernel_rfl) (of_decide_eq_true (by kernel_rfl)) k1 bel lt1) (trodAll_mk0)), rfl, bel.frame _, fun h => by cases h⟩

theorem bankBack_holds : Rows.BankBackSaid :=
  OpenClaim.holds_of_wide 6 Try.f6 rfl rfl rfl rfl rfl rfl rfl ⟨rfl, rfl, rfl, rfl, rfl⟩ rfl rfl rfl rfl rfl (by kernel_rfl) Try.func6 (by kernel_rfl)
    (of_decide_eq_true (by kernel_rfl)) (by unfold Func.isWrapper; first | (rw [if_pos (by decide +kernel)]; kernel_rfl) | (rw [if_neg (by decide +kernel)]; exact ⟨rfl, rfl⟩))
    (fun os started H enc _ => bankBack_lifted os started H enc)
#print axioms bankBack_holds
end Go.Proofs.Ytgphdioolcfmmaa
