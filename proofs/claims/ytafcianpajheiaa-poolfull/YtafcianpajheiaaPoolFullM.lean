
/- For all bytes, and every rate, jointurelaw11.PoolFull returns true and writes nothing that was there: so many validators there may be, and no more. No condition. -/
import Derived.Test.YtafcianpajheiaaPQ7
import Derived.Test.YtafcianpajheiaaV6
set_option linter.unusedSimpArgs false
set_option linter.unusedVariables false
set_option maxRecDepth 20000
namespace Go.Proofs.Ytafcianpajheiaa
open Go.ChangeShapes Go.WideShapes Go.ChangeAt Go.RowKit

set_option maxHeartbeats 8000000 in
theorem poolFull_any (n0 n1 : Int) (h0 : 0 ≤ n0 ∧ n0 ≤ 255) (h1 : 0 ≤ n1 ∧ n1 < 65536) (w : World) :
    Calls Try.prog 6 #[.int .u8 n0, .int .u16 n1] w fun e w' => e = .returned (.bool true) ∧ Below w.heap.size w w' := by
  go_enter Try.func6, Try.ntmps6
  go_wp2_with (first
    | (go_at_call 8; refine (adds_any _).mono ?_; rintro e w1 ⟨rfl, hb1⟩)
    | (go_at_call 10; refine (pl_new _).mono ?_; rintro e w2 ⟨rfl, h2⟩))
  go_loopw [6, 7, 8] (fun v6 v7 v8 X => ∃ (j : Nat) (V : List Vd), j ≤ 16 ∧ v6 = .int .i64 (j : Int) ∧ V.length = j ∧ Pl w1 X w1.heap.size V [] j) (fun v6 _ _ _ => 16 - (intOf v6).toNat)
  case atStart => exact ⟨0, [], by omega, rfl, rfl, h2⟩
  case round =>
    obtain ⟨j, V, hj, rfl, hV, hX⟩ := hrel
    by_cases hj16 : j < 16
    · have hj' : (j : Int) < 16 := by omega
      have hA := hX.add (ow := 1) (rt := 0) (by omega) (by omega) (by omega) (by decide) (by omega)
      rw [hV] at hA
      have hw : IntKind.i64.wrap (j : Int) = (j : Int) := by rw [IntKind.wrap_i64]; omega
      go_wp2_with (go_at_call 15; refine (Calls.mono hA ?_); rintro e w3 ⟨rfl, h3⟩)
      all_goals go_roundw
      case rel => exact ⟨j + 1, _, by omega, by go_num, by simp [hV], h3⟩
      case measure => (simp [intOf] <;> omega)
    · obtain rfl : j = 16 := by omega
      cases hm : mayB n0 n1 [] []
      · obtain ⟨A, L, base, q1, q2, q3, q4⟩ := hX
        have hA := add_bad (W := wr) hm (some ⟨w1.heap.size, 0, none⟩)
        by_cases hn : 200 ≤ n0
        · go_wp2_with (go_at_call 15; refine (Calls.mono hA ?_); rintro e w3 ⟨rfl, h3⟩)
          go_ret
          exact ⟨rfl, bt hb1 (bt q4 h3)⟩
        · have hr : 10000 < n1 := by
            simp only [mayB, rightFrom, Bool.and_true, Bool.and_eq_false_iff, decide_eq_false_iff_not] at hm
            omega
          go_wp2_with (go_at_call 15; refine (Calls.mono hA ?_); rintro e w3 ⟨rfl, h3⟩)
          go_ret
          exact ⟨rfl, bt hb1 (bt q4 h3)⟩
      · have hA := hX.full (by omega) h0.1 h1.1 hm hV
        have hn : ¬ 200 ≤ n0 ∧ ¬ 10000 < n1 := by
          simp only [mayB, rightFrom, Bool.and_true, Bool.and_eq_true, decide_eq_true_eq] at hm
          omega
        obtain ⟨hn1, hn2⟩ := hn
        go_wp2_with (first
          | (go_at_call 15; refine (Calls.mono hA ?_); rintro e w3 ⟨rfl, h3⟩; obtain ⟨A, L, base, q1, q2, q3, q4⟩ := h3; have hVs := vals_any q1 q2 (by omega))
          | (go_at_call 22; refine (Calls.mono hVs ?_); rintro e w4 ⟨v, M, rfl, hM, hb4⟩; obtain ⟨a5, c5, rfl⟩ := row_slice hM.row; have hMl : M.length = 16 := hM.len.trans hV; rw [hMl]))
        go_ret
        exact ⟨rfl, bt hb1 (bt q4 hb4)⟩

theorem poolFull_own : ownKnob Try.prog.godebug = none := by kernel_rfl
theorem poolFull_laid : laidOutB Try.prog = true := by kernel_rfl

set_option maxRecDepth 100000 in
theorem poolFull_lifted (os : Os) (started : os.Started) (H : Type) (enc : TypeId × Value → H) :
    ReturnsInHanded {} Try.checked os 6 .any (Rows.poolFullSpec.pre6 enc Try.prog Try.f6 Rows.poolFullRow.domain false) (Rows.poolFullSpec.post enc Try.prog Try.f6 false true false false) := by
  refine returnsInHanded_of_change (C := Try.checked) poolFull_own started (by kernel_rfl) Try.func6
    (ChangeSpec.witness6 (enc := enc) (C := Try.checked) false ⟨#[], #[.int .u8 0, .int .u16 0], []⟩ 8 (by kernel_rfl) (by kernel_rfl) (by kernel_rfl) (by kernel_rfl)) ?_
  intro W base args ds gs before hval0 hW hcnd _
  have hval : ∀ (j : Nat) t v, Try.f6.params[j]? = some t → args[j]? = some v → Value.okWide Try.prog W .any base t v := hval0
  have hW' := hW
  obtain ⟨p, q, hA0, hV, rfl, hfz, hnd⟩ := hW
  have hA : DataW.TrodAll enc Try.prog W 0 (fun _ => true) true Try.f6.params.toList args.toList ds p := hA0
  rw [Try.params6] at hA hval
  obtain ⟨v0, vs0, d0, ds0, p0, q0, hargs0, rfl, rfl, h0, r0⟩ := trodAll_cons hA
  obtain ⟨v1, vs1, d1, ds1, p1, q1, hargs1, rfl, rfl, h1, r1⟩ := trodAll_cons r0
  obtain ⟨rfl, rfl, rfl⟩ := trodAll_nil r1
  obtain rfl : args = #[v0, v1] := by cases args; simp_all
  obtain ⟨rfl, rfl⟩ := trodVars_none hV
  have k0 := h0
  have lt0 : ∀ x ∈ p0, x.block < W.heap.size := by obtain ⟨m, hm⟩ := k0; exact DataW.trod_lt m _ _ _ hm
  have k1 := h1
  have lt1 : ∀ x ∈ p1, x.block < W.heap.size := by obtain ⟨m, hm⟩ := k1; exact DataW.trod_lt m _ _ _ hm
  obtain ⟨n0, rfl⟩ := okWide_int Try.underlying5 (hval 0 5 v0 rfl rfl)
  obtain ⟨fuel0, hf0⟩ := h0
  simp only [Value.cells] at hf0
  obtain ⟨n1, rfl⟩ := okWide_int Try.underlying39 (hval 1 39 v1 rfl rfl)
  obtain ⟨fuel1, hf1⟩ := h1
  simp only [Value.cells] at hf1
  clear hA0 hval0
  have walk : Calls Try.prog 6 _ W fun e w' => e = .returned (.bool true) ∧ Below W.heap.size W w' := poolFull_any n0 n1 (u8_in hf0) (u16_in hf1) W
  refine walk.mono fun e W' ⟨he, bel⟩ => ?_
  subst he
  exact ⟨_, rfl, _, _, _, [], _, [], hW', trodAll_mk1 (shut_bool Try.underlying4 _), trodAll_cons_mk (Below.trod poolFull_laid (by kernel_rfl) (of_decide_eq_true (by kernel_rfl)) k0 bel lt0) (trodAll_cons_mk (Below.trod poolFull_laid (by kernel_rfl) (of_decide_eq_true (by kernel_rfl)) k1 bel lt1) (trodAll_mk0)), rfl, bel.frame _, fun h => by cases h⟩

theorem poolFull_holds : Rows.PoolFullSaid :=
  OpenClaim.holds_of_wide 6 Try.f6 rfl rfl rfl rfl rfl rfl rfl ⟨rfl, rfl, rfl, rfl, rfl⟩ rfl rfl rfl rfl rfl (by kernel_rfl) Try.func6 (by kernel_rfl)
    (of_decide_eq_true (by kernel_rfl)) (by unfold Func.isWrapper; first | (rw [if_pos (by decide +kernel)]; kernel_rfl) | (rw [if_neg (by decide +kernel)]; exact ⟨rfl, rfl⟩))
    (fun os started H enc _ => poolFull_lifted os started H enc)
#print axioms poolFull_holds
end Go.Proofs.Ytafcianpajheiaa
