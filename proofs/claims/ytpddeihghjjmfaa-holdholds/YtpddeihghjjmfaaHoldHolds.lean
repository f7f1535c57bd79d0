
/- For every hold and three numbers jointurelaw07.HoldHolds returns true and writes nothing that was there: who has what is locked and is not kept has it still. No condition. -/
import Derived.Test.YtpddeihghjjmfaaT9
set_option linter.unusedSimpArgs false
set_option linter.unusedVariables false
namespace Go.Proofs.Ytpddeihghjjmfaa
open Go.ChangeShapes Go.WideShapes Go.ChangeAt Go.RowKit

theorem holdHolds_any (k0 k1 k2 k3 f0 f1 f2 f3 b0 b1 b2 b3 l0 l1 l2 l3 n0 n1 n2 n3 : Int) (hk : Lim k0 k1 k2 k3) (hf : Lim f0 f1 f2 f3) (hb : Lim b0 b1 b2 b3) (hl : Lim l0 l1 l2 l3) (hn : Lim n0 n1 n2 n3) (w : World) :
    Calls Try.prog 7 #[.agg #[.int .u64 k0, .int .u64 k1, .int .u64 k2, .int .u64 k3, .int .u64 f0, .int .u64 f1, .int .u64 f2, .int .u64 f3], .agg #[.int .u64 b0, .int .u64 b1, .int .u64 b2, .int .u64 b3], .agg #[.int .u64 l0, .int .u64 l1, .int .u64 l2, .int .u64 l3], .agg #[.int .u64 n0, .int .u64 n1, .int .u64 n2, .int .u64 n3]] w fun e w' => e = .returned (.bool true) ∧ Below w.heap.size w w' := by
  have k0' := val_lo hk
  have f0' := val_lo hf
  have b0' := val_lo hb
  have n0' := val_lo hn
  have l0' := val_lo hl
  have k1' := val_hi hk
  have b1' := val_hi hb
  have l1' := val_hi hl
  have f1' := val_hi hf
  have n1' := val_hi hn
  obtain ⟨o0, o1, o2, o3, ho, eo⟩ := rest_ex hl hk
  have ho0 := val_lo ho
  have ho1 := val_hi ho
  by_cases hbo : val b0 b1 b2 b3 < val o0 o1 o2 o3
  · exact holdHolds_less (cmp_negd hbo) (says_restR hl hk ho eo) (says_cmpR hb ho rfl) w
  have eo' : val o0 o1 o2 o3 = restI (val l0 l1 l2 l3) (val k0 k1 k2 k3) := eo
  rw [restI_eq] at eo'
  -- what may be spent
  obtain ⟨s0, s1, s2, s3, hs, es⟩ := rest_ex hb ho
  have es' : val s0 s1 s2 s3 = val b0 b1 b2 b3 - val o0 o1 o2 o3 := by rw [es, restI_of_le (by omega)]
  have hs0 := val_lo hs
  have hs1 := val_hi hs
  have he2 : 0 ≤ leastI (val n0 n1 n2 n3) (val s0 s1 s2 s3) ∧ leastI (val n0 n1 n2 n3) (val s0 s1 s2 s3) ≤ val s0 s1 s2 s3 := by unfold leastI; split <;> omega
  obtain ⟨e0, e1, e2, e3, he, ee⟩ := limbs_of (n := leastI (val n0 n1 n2 n3) (val s0 s1 s2 s3)) he2.1 (by omega)
  rw [← ee] at he2
  obtain ⟨y0, y1, y2, y3, hy, ey⟩ := rest_ex hb he
  have ey' : val y0 y1 y2 y3 = val b0 b1 b2 b3 - val e0 e1 e2 e3 := by rw [ey, restI_of_le (by omega)]
  -- what is delegated
  have H4 : decide (cmpI (val n0 n1 n2 n3) (val b0 b1 b2 b3) ≤ 0) = false ∨ (decide (cmpI (val n0 n1 n2 n3) (val b0 b1 b2 b3) ≤ 0) = true ∧ ((∃ t0 t1 t2 t3 u0 u1 u2 u3 p0 p1 p2 p3 v0 v1 v2 v3 c3 : Int, decide (c3 < 0) = false ∧ Says 8 #[.agg #[.int .u64 k0, .int .u64 k1, .int .u64 k2, .int .u64 k3, .int .u64 f0, .int .u64 f1, .int .u64 f2, .int .u64 f3], .agg #[.int .u64 l0, .int .u64 l1, .int .u64 l2, .int .u64 l3], .agg #[.int .u64 n0, .int .u64 n1, .int .u64 n2, .int .u64 n3]] (.tuple #[.agg #[.int .u64 t0, .int .u64 t1, .int .u64 t2, .int .u64 t3, .int .u64 u0, .int .u64 u1, .int .u64 u2, .int .u64 u3], .int .i64 0]) ∧ Says 18 #[.agg #[.int .u64 b0, .int .u64 b1, .int .u64 b2, .int .u64 b3], .agg #[.int .u64 n0, .int .u64 n1, .int .u64 n2, .int .u64 n3]] (.agg #[.int .u64 p0, .int .u64 p1, .int .u64 p2, .int .u64 p3]) ∧ Says 18 #[.agg #[.int .u64 l0, .int .u64 l1, .int .u64 l2, .int .u64 l3], .agg #[.int .u64 t0, .int .u64 t1, .int .u64 t2, .int .u64 t3]] (.agg #[.int .u64 v0, .int .u64 v1, .int .u64 v2, .int .u64 v3]) ∧ Says 17 #[.agg #[.int .u64 p0, .int .u64 p1, .int .u64 p2, .int .u64 p3], .agg #[.int .u64 v0, .int .u64 v1, .int .u64 v2, .int .u64 v3]] (.int .i64 c3)) ∨ Says 8 #[.agg #[.int .u64 k0, .int .u64 k1, .int .u64 k2, .int .u64 k3, .int .u64 f0, .int .u64 f1, .int .u64 f2, .int .u64 f3], .agg #[.int .u64 l0, .int .u64 l1, .int .u64 l2, .int .u64 l3], .agg #[.int .u64 n0, .int .u64 n1, .int .u64 n2, .int .u64 n3]] (.tuple #[.agg #[.int .u64 0, .int .u64 0, .int .u64 0, .int .u64 0, .int .u64 0, .int .u64 0, .int .u64 0, .int .u64 0], .int .i64 2]))) := by
    by_cases h : val n0 n1 n2 n3 ≤ val b0 b1 b2 b3
    · refine .inr ⟨by simpa using cmp_le0 h, ?_⟩
      have hc2 : 0 ≤ leastI (val n0 n1 n2 n3) (val o0 o1 o2 o3) ∧ leastI (val n0 n1 n2 n3) (val o0 o1 o2 o3) ≤ val n0 n1 n2 n3 ∧ leastI (val n0 n1 n2 n3) (val o0 o1 o2 o3) ≤ val o0 o1 o2 o3 ∧ (leastI (val n0 n1 n2 n3) (val o0 o1 o2 o3) = val n0 n1 n2 n3 ∨ leastI (val n0 n1 n2 n3) (val o0 o1 o2 o3) = val o0 o1 o2 o3) := by unfold leastI; split <;> omega
      obtain ⟨c0, c1, c2, c3, hc, ec⟩ := limbs_of (n := leastI (val n0 n1 n2 n3) (val o0 o1 o2 o3)) hc2.1 (by omega)
      obtain ⟨d0, d1, d2, d3, hd, ed⟩ := rest_ex hn hc
      have hd0 := val_lo hd
      rw [← ec] at hc2
      have hkc : val k0 k1 k2 k3 + val c0 c1 c2 c3 < 115792089237316195423570985008687907853269984665640564039457584007913129639936 := by split at eo' <;> omega
      obtain ⟨t0, t1, t2, t3, ht, et⟩ := limbs_of (n := val k0 k1 k2 k3 + val c0 c1 c2 c3) (by omega) hkc
      by_cases h2 : val f0 f1 f2 f3 + val d0 d1 d2 d3 < 115792089237316195423570985008687907853269984665640564039457584007913129639936
      · obtain ⟨u0, u1, u2, u3, hu, eu⟩ := limbs_of (n := val f0 f1 f2 f3 + val d0 d1 d2 d3) (by omega) h2
        obtain ⟨p0, p1, p2, p3, hp, ep⟩ := rest_ex hb hn
        obtain ⟨q0, q1, q2, q3, hq, eq⟩ := rest_ex hl ht
        refine .inl ⟨t0, t1, t2, t3, u0, u1, u2, u3, p0, p1, p2, p3, q0, q1, q2, q3, _, cmp_nneg ?_, says_track (says_rest hl hk ho eo) (says_least hn ho hc ec) (says_rest hn hc hd ed) (says_add hf hd hu eu) (says_add hk hc ht et), says_restR hb hn hp ep, says_restR hl ht hq eq, says_cmpR hp hq rfl⟩
        rw [ep, eq, restI_of_le h, restI_eq, et]
        split <;> split at eo' <;> omega
      · exact .inr (says_track_over (says_rest hl hk ho eo) (says_least hn ho hc ec) (says_rest hn hc hd ed) (says_add_over hf hd (by omega)))
    · exact .inl (by simpa using cmp_pos (show val b0 b1 b2 b3 < val n0 n1 n2 n3 by omega))
  by_cases hA : val b0 b1 b2 b3 + val n0 n1 n2 n3 < 115792089237316195423570985008687907853269984665640564039457584007913129639936
  · obtain ⟨m0, m1, m2, m3, hm, em⟩ := limbs_of (n := val b0 b1 b2 b3 + val n0 n1 n2 n3) (by omega) hA
    obtain ⟨x0, x1, x2, x3, hx, ex⟩ := rest_ex hn hf
    obtain ⟨a0, a1, a2, a3, ha, ea⟩ := rest_ex hk hx
    obtain ⟨g0, g1, g2, g3, hg, eg⟩ := rest_ex hf hn
    obtain ⟨r0, r1, r2, r3, hr, er⟩ := rest_ex hl ha
    refine holdHolds_main (cmp_nneg (by omega)) (cmp_ged (by omega)) (by simpa using cmp_le0 (show val s0 s1 s2 s3 ≤ val b0 b1 b2 b3 by omega)) (says_restR hl hk ho eo) (says_cmpR hb ho rfl) (says_cmpR hn hb rfl) H4 (says_addR hb hn hm em) (.inr ⟨rfl, a0, a1, a2, a3, g0, g1, g2, g3, r0, r1, r2, r3, _, cmp_nneg ?_, says_back (says_rest hn hf hx ex) (says_rest hk hx ha ea) (says_rest hf hn hg eg), says_restR hl ha hr er, says_cmpR hm hr rfl⟩) (says_spend (says_rest hl hk ho eo) (says_rest hb ho hs es)) (says_leastR hn hs he ee) (says_restR hb he hy ey) (says_cmpR hy ho rfl) (says_cmpR hs hb rfl) w
    have hxn : val x0 x1 x2 x3 ≤ val n0 n1 n2 n3 := by rw [ex]; exact (rest_le n0' f0').2
    have hak : val k0 k1 k2 k3 - val n0 n1 n2 n3 ≤ val a0 a1 a2 a3 := by rw [ea, restI_eq]; split <;> omega
    have ha0 := val_lo ha
    rw [er, em, restI_eq]
    split <;> split at eo' <;> omega
  · exact holdHolds_main (cmp_nneg (by omega)) (cmp_ged (by omega)) (by simpa using cmp_le0 (show val s0 s1 s2 s3 ≤ val b0 b1 b2 b3 by omega)) (says_restR hl hk ho eo) (says_cmpR hb ho rfl) (says_cmpR hn hb rfl) H4 (says_addR_over hb hn (by omega)) (.inl rfl) (says_spend (says_rest hl hk ho eo) (says_rest hb ho hs es)) (says_leastR hn hs he ee) (says_restR hb he hy ey) (says_cmpR hy ho rfl) (says_cmpR hs hb rfl) w

theorem holdHolds_own : ownKnob Try.prog.godebug = none := by kernel_rfl
theorem holdHolds_laid : laidOutB Try.prog = true := by kernel_rfl

set_option maxRecDepth 100000 in
theorem holdHolds_lifted (os : Os) (started : os.Started) (H : Type) (enc : TypeId × Value → H) :
    ReturnsInHanded {} Try.checked os 7 .any (Rows.holdHoldsSpec.pre6 enc Try.prog Try.f7 Rows.holdHoldsRow.domain false) (Rows.holdHoldsSpec.post enc Try.prog Try.f7 false true false false) := by
  refine returnsInHanded_of_change (C := Try.checked) holdHolds_own started (by kernel_rfl) Try.func7
    (ChangeSpec.witness6 (enc := enc) (C := Try.checked) false ⟨#[], #[.agg #[.int .u64 0, .int .u64 0, .int .u64 0, .int .u64 0, .int .u64 0, .int .u64 0, .int .u64 0, .int .u64 0], .agg #[.int .u64 0, .int .u64 0, .int .u64 0, .int .u64 0], .agg #[.int .u64 0, .int .u64 0, .int .u64 0, .int .u64 0], .agg #[.int .u64 0, .int .u64 0, .int .u64 0, .int .u64 0]], []⟩ 8 (by kernel_rfl) (by kernel_rfl) (by kernel_rfl) (by kernel_rfl)) ?_
  intro W base args ds gs before hval0 hW hcnd _
  have hval : ∀ (j : Nat) t v, Try.f7.params[j]? = some t → args[j]? = some v → Value.okWide Try.prog W .any base t v := hval0
  have hW' := hW
  obtain ⟨p, q, hA0, hV, rfl, hfz, hnd⟩ := hW
  have hA : DataW.TrodAll enc Try.prog W 0 (fun _ => true) true Try.f7.params.toList args.toList ds p := hA0
  rw [Try.params7] at hA hval
  obtain ⟨v0, vs0, d0, ds0, p0, q0, hargs0, rfl, rfl, h0, r0⟩ := trodAll_cons hA
  obtain ⟨v1, vs1, d1, ds1, p1, q1, hargs1, rfl, rfl, h1, r1⟩ := trodAll_cons r0
  obtain ⟨v2, vs2, d2, ds2, p2, q2, hargs2, rfl, rfl, h2, r2⟩ := trodAll_cons r1
  obtain ⟨v3, vs3, d3, ds3, p3, q3, hargs3, rfl, rfl, h3, r3⟩ := trodAll_cons r2
  obtain ⟨rfl, rfl, rfl⟩ := trodAll_nil r3
  obtain rfl : args = #[v0, v1, v2, v3] := by cases args; simp_all
  obtain ⟨rfl, rfl⟩ := trodVars_none hV
  have k0 := h0
  have lt0 : ∀ x ∈ p0, x.block < W.heap.size := by obtain ⟨m, hm⟩ := k0; exact DataW.trod_lt m _ _ _ hm
  have k1 := h1
  have lt1 : ∀ x ∈ p1, x.block < W.heap.size := by obtain ⟨m, hm⟩ := k1; exact DataW.trod_lt m _ _ _ hm
  have k2 := h2
  have lt2 : ∀ x ∈ p2, x.block < W.heap.size := by obtain ⟨m, hm⟩ := k2; exact DataW.trod_lt m _ _ _ hm
  have k3 := h3
  have lt3 : ∀ x ∈ p3, x.block < W.heap.size := by obtain ⟨m, hm⟩ := k3; exact DataW.trod_lt m _ _ _ hm
  obtain ⟨aa0, aa1, aa2, aa3, bb0, bb1, bb2, bb3, rfl, hla, hlb⟩ := hold_in (hval 0 26 v0 rfl rfl) h0
  obtain ⟨x0, x1, x2, x3, rfl, hx⟩ := num_in (hval 1 24 v1 rfl rfl) h1
  obtain ⟨y0, y1, y2, y3, rfl, hy⟩ := num_in (hval 2 24 v2 rfl rfl) h2
  obtain ⟨z0, z1, z2, z3, rfl, hz⟩ := num_in (hval 3 24 v3 rfl rfl) h3
  clear hA0 hval0
  have walk : Calls Try.prog 7 _ W fun e w' => e = .returned (.bool true) ∧ Below W.heap.size W w' := holdHolds_any aa0 aa1 aa2 aa3 bb0 bb1 bb2 bb3 x0 x1 x2 x3 y0 y1 y2 y3 z0 z1 z2 z3 hla hlb hx hy hz W
  refine walk.mono fun e W' ⟨he, bel⟩ => ?_
  subst he
  exact ⟨_, rfl, _, _, _, [], _, [], hW', trodAll_mk1 (shut_bool Try.underlying4 _), trodAll_cons_mk (Below.trod holdHolds_laid (by kernel_rfl) (of_decide_eq_true (by kernel_rfl)) k0 bel lt0) (trodAll_cons_mk (Below.trod holdHolds_laid (by kernel_rfl) (of_decide_eq_true (by kernel_rfl)) k1 bel lt1) (trodAll_cons_mk (Below.trod holdHolds_laid (by kernel_rfl) (of_decide_eq_true (by kernel_rfl)) k2 bel lt2) (trodAll_cons_mk (Below.trod holdHolds_laid (by kernel_rfl) (of_decide_eq_true (by kernel_rfl)) k3 bel lt3) (trodAll_mk0)))), rfl, bel.frame _, fun h => by cases h⟩

theorem holdHolds_holds : Rows.HoldHoldsSaid :=
  OpenClaim.holds_of_wide 7 Try.f7 rfl rfl rfl rfl rfl rfl rfl ⟨rfl, rfl, rfl, rfl, rfl⟩ rfl rfl rfl rfl rfl (by kernel_rfl) Try.func7 (by kernel_rfl)
    (of_decide_eq_true (by kernel_rfl)) (by unfold Func.isWrapper; first | (rw [if_pos (by decide +kernel)]; kernel_rfl) | (rw [if_neg (by decide +kernel)]; exact ⟨rfl, rfl⟩))
    (fun os started H enc _ => holdHolds_lifted os started H enc)
#print axioms holdHolds_holds
end Go.Proofs.Ytpddeihghjjmfaa
