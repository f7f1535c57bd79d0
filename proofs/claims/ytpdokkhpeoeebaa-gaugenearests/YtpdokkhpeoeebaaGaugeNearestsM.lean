
/- For every list of pairs of numbers and every pair jointurelaw03.GaugeNearests returns true and writes nothing that was there: the place of the first of the points that are nearest, as the document says. No condition. -/
import Derived.Test.YtpdokkhpeoeebaaGM9x1
set_option linter.unusedSimpArgs false
set_option linter.unusedVariables false
set_option maxRecDepth 20000
namespace Go.Proofs.Ytpdokkhpeoeebaa
open Go.ChangeShapes Go.WideShapes Go.ChangeAt Go.RowKit

set_option maxRecDepth 100000 in
set_option maxHeartbeats 8000000 in
theorem gaugeNearests_any {W : World} (a : Option Addr) (len cap : Nat) (l : List Tw8) (x0 x1 x2 x3 y0 y1 y2 y3 : Int) (hlen : len ≤ 9223372036854775807) (h : TwosIn W a len l) (hx : Lim x0 x1 x2 x3) (hy : Lim y0 y1 y2 y3) :
    Calls Try.prog 10 #[.slice a len cap, .agg #[.int .u64 x0, .int .u64 x1, .int .u64 x2, .int .u64 x3, .int .u64 y0, .int .u64 y1, .int .u64 y2, .int .u64 y3]] W fun e w' => e = .returned (.bool true) ∧ Below W.heap.size W w' := by
  have hpad := pads
  have hln := h.ln
  by_cases h50 : 50 < len
  · have h' : (50 : Int) < (len : Int) := by omega
    go_enter Try.func10, Try.ntmps10
    go_wp2_with (go_at_call 11; refine (says_turns _).mono ?_; rintro e w1 ⟨rfl, hb⟩)
    go_ret
    exact ⟨rfl, bt (by (repeat (first | (with_reducible exact Below.refl _ _) | (with_reducible assumption) | (with_reducible apply bd) | (with_reducible apply ba) | (with_reducible refine bp ?_ (by first | omega | (simp [pad_size]; done) | (simp [pad_size]; omega)) _ _) | (with_reducible refine bs ?_ (by first | omega | (simp [pad_size]; done) | (simp [pad_size]; omega)) _) | (with_reducible refine bt ?_ (by assumption))))) hb⟩
  · have h' : ¬ (50 : Int) < (len : Int) := by omega
    have hc := (fI_ps hx).2
    have hd := (fI_ps hy).2
    have hPt := point_any hx hy
    have hfx : ∀ i, ∃ r, ∀ h : i < (l.map ptO).length, Ps r ∧ Ap (l.map ptO)[i].1 (l.map ptO)[i].2 (fI (val x0 x1 x2 x3)) (fI (val y0 y1 y2 y3)) r := by
      intro i
      by_cases hi : i < (l.map ptO).length
      · have hil : i < l.length := by simpa using hi
        have hok := h.ok l[i] (List.getElem_mem hil)
        obtain ⟨r, q1, q2, -⟩ := ap_all (fI_ps hok.1).2 (fI_ps hok.2).2 hc hd
        refine ⟨r, fun _ => ⟨q1, ?_⟩⟩
        simpa [ptO] using q2
      · exact ⟨0, fun h => absurd h hi⟩
    obtain ⟨r, hr⟩ := Classical.axiomOfChoice hfx
    have hW0 : Below W.heap.size W (W.alloc (.cells #[.int .u64 x0, .int .u64 x1, .int .u64 x2, .int .u64 x3, .int .u64 y0, .int .u64 y1, .int .u64 y2, .int .u64 y3] 48)) := ba (Below.refl _ _) _
    have hLl : (l.map ptO).length ≤ 100 := by simp; omega
    have hT0 : TwosIn (W.alloc (.cells #[.int .u64 x0, .int .u64 x1, .int .u64 x2, .int .u64 x3, .int .u64 y0, .int .u64 y1, .int .u64 y2, .int .u64 y3] 48)) a len l := by
      refine ⟨h.ln, h.ok, ?_⟩
      rcases h.cell with h0 | ⟨blk, off, e, hlt, hc⟩
      · exact .inl h0
      · exact .inr ⟨blk, off, e, Nat.lt_of_lt_of_le hlt hW0.size, fun i y hi j v hj => (hW0.cell (p := ⟨blk, off + i * 8 + j, none⟩) hlt).trans (hc i y hi j v hj)⟩
    have hPts := points_any (cap := cap) hT0 (by omega)
    have hK : Hid (∀ X, Below (W.alloc (.cells #[.int .u64 x0, .int .u64 x1, .int .u64 x2, .int .u64 x3, .int .u64 y0, .int .u64 y1, .int .u64 y2, .int .u64 y3] 48)).heap.size (W.alloc (.cells #[.int .u64 x0, .int .u64 x1, .int .u64 x2, .int .u64 x3, .int .u64 y0, .int .u64 y1, .int .u64 y2, .int .u64 y3] 48)) X → X.cell? ⟨W.heap.size, 0, none⟩ = some (.int .u64 x0) ∧ X.cell? ⟨W.heap.size, 1, none⟩ = some (.int .u64 x1) ∧ X.cell? ⟨W.heap.size, 2, none⟩ = some (.int .u64 x2) ∧ X.cell? ⟨W.heap.size, 3, none⟩ = some (.int .u64 x3) ∧ X.cell? ⟨W.heap.size, 4, none⟩ = some (.int .u64 y0) ∧ X.cell? ⟨W.heap.size, 5, none⟩ = some (.int .u64 y1) ∧ X.cell? ⟨W.heap.size, 6, none⟩ = some (.int .u64 y2) ∧ X.cell? ⟨W.heap.size, 7, none⟩ = some (.int .u64 y3)) := fun X hX => by
      have q := (cells_of_block ((hX.block W.heap.size (by simp)).trans (al_at rfl))).1
      exact ⟨q 0, q 1, q 2, q 3, q 4, q 5, q 6, q 7⟩
    generalize fI (val x0 x1 x2 x3) = c at *
    generalize fI (val y0 y1 y2 y3) = d at *
    generalize hM : l.map ptO = M at *
    clear hM hfx hT0 h hc hd hx hy hln
    generalize hwz : W.alloc (.cells #[.int .u64 x0, .int .u64 x1, .int .u64 x2, .int .u64 x3, .int .u64 y0, .int .u64 y1, .int .u64 y2, .int .u64 y3] 48) = W0 at hW0 hPts hK
    go_enter Try.func10, Try.ntmps10
    go_wp2_with (first
      | (go_at_call 18; refine hPts.mono ?_; clear hPts; rintro e w1 ⟨p, q, rfl, hJ⟩; have kk := hK.out _ hJ.below; have hrp := hJ.rp; have hrq := hJ.rq; have hb1 := hJ.below; clear hJ; obtain ⟨pa, pc, rfl⟩ := row_slice hrp)
      | (go_at_call 17; refine (hPt _).mono ?_; rintro e w2 ⟨rfl, hb2⟩; have hrp2 := none_row hrp (grown_none hb2))
      | (go_at_call 26; refine (nearest_any hrp2 hLl hr).mono ?_; rintro e w3 ⟨k, rfl, hN, hb3⟩)
      | (go_at_call 23; refine (of_point c d _).mono ?_; rintro e w4 ⟨rfl, hb4⟩; have hrq4 := none_row hrq (grown_none (bt (bt hb2 hb3) hb4)))
      | (go_at_call 27; refine (nearR_any hrq4 hLl hr).mono ?_; rintro e w5 ⟨k', rfl, hN', hb5⟩; obtain rfl := hN.one hN'; clear hN'))
    have hW5 : Below w1.heap.size w1 w5 := (by first | (with_reducible exact bt (bt (bt hb2 hb3) hb4) hb5) | (with_reducible exact bt (bt (bt hb2 (bt (bd (Below.refl _ _)) hb3)) hb4) hb5))
    clear hb2 hb3 hb4 hb5 hrp2 hrq4 hrq kk hK hPt
    go_loopw [9] (fun iv X => ∃ j : Nat, j ≤ M.length ∧ iv = .int .i64 (j : Int) ∧ Below w5.heap.size w5 X) (fun iv _ => M.length - (intOf iv).toNat)
    case atStart => exact ⟨0, by omega, rfl, Below.refl _ _⟩
    case round =>
      obtain ⟨j, hj, rfl, hX⟩ := hrel
      have hX1 : Below w1.heap.size w1 wr := bt hW5 hX
      by_cases hlt : j < M.length
      · obtain ⟨i, rfl, hi, hmin, hfirst⟩ := hN.at (by omega)
        obtain ⟨g, cap', ev, hg, c0⟩ := cx_at hrp hlt
        simp at ev
        obtain ⟨rfl, rfl⟩ := ev
        obtain ⟨g2, cap', ev, -, d0⟩ := cx_at hrp hi
        simp at ev
        obtain ⟨rfl, rfl⟩ := ev
        have c1 := (hX1.cell (p := ⟨g, j, none⟩) hg).trans c0
        have d1 := (hX1.cell (p := ⟨g, i, none⟩) hg).trans d0
        obtain ⟨hps, hap⟩ := hr j hlt
        obtain ⟨hps2, hap2⟩ := hr i hi
        have hA : Hid (∀ Y, Calls Try.prog 24 #[.complex .f64 M[j].1 M[j].2, .complex .f64 c d] Y fun e w' => e = .returned (.float .f64 (r j)) ∧ w' = Y) := fun Y => apart_any hap Y
        have hA2 : Hid (∀ Y, Calls Try.prog 24 #[.complex .f64 M[i].1 M[i].2, .complex .f64 c d] Y fun e w' => e = .returned (.float .f64 (r i)) ∧ w' = Y) := fun Y => apart_any hap2 Y
        have ho1 := ps_lt hps hps2
        rw [decide_eq_false (show ¬ key (r j) < key (r i) by have := hmin j hlt; omega)] at ho1
        have ho2 := ps_eqk hps hps2
        have g1 : decide ((i : Int) < 0) = false := decide_eq_false (by omega)
        have g2 : decide ((M.length : Int) ≤ (i : Int)) = false := decide_eq_false (by omega)
        have g2' : decide (M.length ≤ i) = false := decide_eq_false (by omega)
        have j0 : (0 : Int) ≤ (j : Int) := by omega
        have j1 : (j : Int) < (M.length : Int) := by omega
        have i0 : (0 : Int) ≤ (i : Int) := by omega
        have i1 : (i : Int) < (M.length : Int) := by omega
        by_cases hji : j < i
        · rw [decide_eq_false (show ¬ key (r j) = key (r i) by have := hfirst j hji; omega)] at ho2
          have g3 : decide ((j : Int) < (i : Int)) = true := decide_eq_true (by omega)
          have g3' : decide (j < i) = true := decide_eq_true hji
          clear hr hN hrp hmin hfirst hps hps2 hap hap2 c0 d0 hji
          generalize M[j] = x at *
          generalize M[i] = y at *
          obtain ⟨xa, xb⟩ := x
          obtain ⟨ya, yb⟩ := y
          simp only at c1 d1 hA hA2
          go_upto_region 11 with fail
          go_quiet (first
            | (go_at_call 24; with_reducible exact Calls.quiet_of_same (hA.out _))
            | (go_at_call 24; with_reducible exact Calls.quiet_of_same (hA2.out _)))
          go_wp2
          all_goals go_roundw
          case rel => exact ⟨j + 1, by omega, by go_num, bt hX (by first | exact below_drewN (Below.refl _ _) _ | exact below_drewN _)⟩
          case measure => (simp [intOf] <;> omega)
        · have g3 : decide ((j : Int) < (i : Int)) = false := decide_eq_false (by omega)
          have g3' : decide (j < i) = false := decide_eq_false hji
          clear hr hN hrp hmin hfirst hps hps2 hap hap2 c0 d0 hji ho2
          generalize M[j] = x at *
          generalize M[i] = y at *
          obtain ⟨xa, xb⟩ := x
          obtain ⟨ya, yb⟩ := y
          simp only at c1 d1 hA hA2
          go_upto_region 11 with fail
          go_quiet (first
            | (go_at_call 24; with_reducible exact Calls.quiet_of_same (hA.out _))
            | (go_at_call 24; with_reducible exact Calls.quiet_of_same (hA2.out _)))
          go_wp2
          all_goals go_roundw
          case rel => exact ⟨j + 1, by omega, by go_num, bt hX (by first | exact below_drewN (Below.refl _ _) _ | exact below_drewN _)⟩
          case measure => (simp [intOf] <;> omega)
      · have hjn : j = M.length := by omega
        subst hjn
        go_wp2_with (go_at_call 11; refine (says_turns _).mono ?_; rintro e w6 ⟨rfl, hb6⟩)
        go_ret
        exact ⟨rfl, bt (bt hW0 (bt hb1 hX1)) hb6⟩

theorem gaugeNearests_own : ownKnob Try.prog.godebug = none := by kernel_rfl
theorem gaugeNearests_laid : laidOutB Try.prog = true := by kernel_rfl

set_option maxRecDepth 100000 in
theorem gaugeNearests_lifted (os : Os) (started : os.Started) (H : Type) (enc : TypeId × Value → H) :
    ReturnsInHanded {} Try.checked os 10 .any (Rows.gaugeNearestsSpec.pre6 enc Try.prog Try.f10 Rows.gaugeNearestsRow.domain false) (Rows.gaugeNearestsSpec.post enc Try.prog Try.f10 false true false false) := by
  refine returnsInHanded_of_change (C := Try.checked) gaugeNearests_own started (by kernel_rfl) Try.func10
    (ChangeSpec.witness6 (enc := enc) (C := Try.checked) false ⟨#[], #[.slice none 0 0, .agg #[.int .u64 0, .int .u64 0, .int .u64 0, .int .u64 0, .int .u64 0, .int .u64 0, .int .u64 0, .int .u64 0]], []⟩ 8 (by kernel_rfl) (by kernel_rfl) (by kernel_rfl) (by kernel_rfl)) ?_
  intro W base args ds gs before hval0 hW hcnd _
  have hval : ∀ (j : Nat) t v, Try.f10.params[j]? = some t → args[j]? = some v → Value.okWide Try.prog W .any base t v := hval0
  have hW' := hW
  obtain ⟨p, q, hA0, hV, rfl, hfz, hnd⟩ := hW
  have hA : DataW.TrodAll enc Try.prog W 0 (fun _ => true) true Try.f10.params.toList args.toList ds p := hA0
  rw [Try.params10] at hA hval
  obtain ⟨v0, vs0, d0, ds0, p0, q0, hargs0, rfl, rfl, h0, r0⟩ := trodAll_cons hA
  obtain ⟨v1, vs1, d1, ds1, p1, q1, hargs1, rfl, rfl, h1, r1⟩ := trodAll_cons r0
  obtain ⟨rfl, rfl, rfl⟩ := trodAll_nil r1
  obtain rfl : args = #[v0, v1] := by cases args; simp_all
  obtain ⟨rfl, rfl⟩ := trodVars_none hV
  have k0 := h0
  have lt0 : ∀ x ∈ p0, x.block < W.heap.size := by obtain ⟨m, hm⟩ := k0; exact DataW.trod_lt m _ _ _ hm
  have k1 := h1
  have lt1 : ∀ x ∈ p1, x.block < W.heap.size := by obtain ⟨m, hm⟩ := k1; exact DataW.trod_lt m _ _ _ hm
  obtain ⟨a0, len0, cap0, rfl⟩ := okWide_slice Try.underlying39 (hval 0 39 v0 rfl rfl)
  obtain ⟨fuel0, hf0⟩ := h0
  simp only [Value.cells] at hf0
  obtain ⟨l0, hl0⟩ := twos_open hf0
  obtain ⟨x0, x1, x2, x3, y0, y1, y2, y3, rfl, hx, hy⟩ := two_in (hval 1 48 v1 rfl rfl) h1
  clear hA0 hval0
  have walk : Calls Try.prog 10 _ W fun e w' => e = .returned (.bool true) ∧ Below W.heap.size W w' := gaugeNearests_any a0 len0 cap0 l0 x0 x1 x2 x3 y0 y1 y2 y3 (slice_len Try.underlying39 hf0) hl0 hx hy
  refine walk.mono fun e W' ⟨he, bel⟩ => ?_
  subst he
  exact ⟨_, rfl, _, _, _, [], _, [], hW', trodAll_mk1 (shut_bool Try.underlying4 _), trodAll_cons_mk (Below.trod gaugeNearests_laid (by kernel_rfl) (of_decide_eq_true (by kernel_rfl)) k0 bel lt0) (trodAll_cons_mk (Below.trod gaugeNearests_laid (by kernel_rfl) (of_decide_eq_true (by kernel_rfl)) k1 bel lt1) (trodAll_mk0)), rfl, bel.frame _, fun h => by cases h⟩

theorem gaugeNearests_holds : Rows.GaugeNearestsSaid :=
  OpenClaim.holds_of_wide 10 Try.f10 rfl rfl rfl rfl rfl rfl rfl ⟨rfl, rfl, rfl, rfl, rfl⟩ rfl rfl rfl rfl rfl (by kernel_rfl) Try.func10 (by kernel_rfl)
    (of_decide_eq_true (by kernel_rfl)) (by unfold Func.isWrapper; first | (rw [if_pos (by decide +kernel)]; kernel_rfl) | (rw [if_neg (by decide +kernel)]; exact ⟨rfl, rfl⟩))
    (fun os started H enc _ => gaugeNearests_lifted os started H enc)
#print axioms gaugeNearests_holds
end Go.Proofs.Ytpdokkhpeoeebaa
