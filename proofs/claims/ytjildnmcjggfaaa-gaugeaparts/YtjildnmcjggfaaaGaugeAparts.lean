
/- For every two points and every count of quarters jointurelaw03.GaugeAparts returns true and writes nothing that was there: as far back; from itself not at all; turned both the same. No condition. -/
import Derived.Test.YtjildnmcjggfaaaGO
set_option linter.unusedSimpArgs false
set_option linter.unusedVariables false
namespace Go.Proofs.Ytjildnmcjggfaaa
open Go.ChangeShapes Go.WideShapes Go.ChangeAt Go.RowKit

set_option maxRecDepth 100000 in
set_option maxHeartbeats 4000000 in
theorem gaugeAparts_w {x0 x1 x2 x3 y0 y1 y2 y3 z0 z1 z2 z3 u0 u1 u2 u3 k : Int} {a b c d a' b' c' d' r : Nat} (h1 : ∀ w, Calls Try.prog 17 #[.agg #[.int .u64 x0, .int .u64 x1, .int .u64 x2, .int .u64 x3], .agg #[.int .u64 y0, .int .u64 y1, .int .u64 y2, .int .u64 y3]] w fun e w' => e = .returned (.complex .f64 a b) ∧ Below w.heap.size w w') (h2 : ∀ w, Calls Try.prog 17 #[.agg #[.int .u64 z0, .int .u64 z1, .int .u64 z2, .int .u64 z3], .agg #[.int .u64 u0, .int .u64 u1, .int .u64 u2, .int .u64 u3]] w fun e w' => e = .returned (.complex .f64 c d) ∧ Below w.heap.size w w')
    (h3 : Ap a b c d r) (h4 : Ap c d a b r) (h5 : Ap a b a b 0) (h6 : Ap a' b' c' d' r) (h7 : ∀ w, Calls Try.prog 21 #[.complex .f64 a b, .int .i64 k] w fun e w' => e = .returned (.complex .f64 a' b') ∧ w' = w) (h8 : ∀ w, Calls Try.prog 21 #[.complex .f64 c d, .int .i64 k] w fun e w' => e = .returned (.complex .f64 c' d') ∧ w' = w) (hr : (FloatKind.f64.format.order r r == some Ordering.eq) = true) (w : World) :
    Calls Try.prog 9 #[.agg #[.int .u64 x0, .int .u64 x1, .int .u64 x2, .int .u64 x3, .int .u64 y0, .int .u64 y1, .int .u64 y2, .int .u64 y3], .agg #[.int .u64 z0, .int .u64 z1, .int .u64 z2, .int .u64 z3, .int .u64 u0, .int .u64 u1, .int .u64 u2, .int .u64 u3], .int .i64 k] w fun e w' => e = .returned (.bool true) ∧ Below w.heap.size w w' := by
  have hpad := pads
  have a3 := apart_any h3
  have a4 := apart_any h4
  have a5 := apart_any h5
  have a6 := apart_any h6
  have b3 := apartR_any h3
  have o1 := of_point a b
  have o2 := of_point c d
  have hr2 : (FloatKind.f64.format.order r r != some Ordering.eq) = false := by simpa using hr
  have h00 : (FloatKind.f64.format.order 0 0 != some Ordering.eq) = false := by decide +kernel
  clear h3 h4 h5 h6
  go_enter Try.func9, Try.ntmps9
  go_upto_region 1 with fail
  go_region_held2 (fun W => W.cell? ⟨w.heap.size, 0, none⟩ = some (.int .u64 x0) ∧ W.cell? ⟨w.heap.size, 1, none⟩ = some (.int .u64 x1) ∧ W.cell? ⟨w.heap.size, 2, none⟩ = some (.int .u64 x2) ∧ W.cell? ⟨w.heap.size, 3, none⟩ = some (.int .u64 x3) ∧ W.cell? ⟨w.heap.size, 4, none⟩ = some (.int .u64 y0) ∧ W.cell? ⟨w.heap.size, 5, none⟩ = some (.int .u64 y1) ∧ W.cell? ⟨w.heap.size, 6, none⟩ = some (.int .u64 y2) ∧ W.cell? ⟨w.heap.size, 7, none⟩ = some (.int .u64 y3) ∧ W.cell? ⟨w.heap.size + 1, 0, none⟩ = some (.int .u64 z0) ∧ W.cell? ⟨w.heap.size + 1, 1, none⟩ = some (.int .u64 z1) ∧ W.cell? ⟨w.heap.size + 1, 2, none⟩ = some (.int .u64 z2) ∧ W.cell? ⟨w.heap.size + 1, 3, none⟩ = some (.int .u64 z3) ∧ W.cell? ⟨w.heap.size + 1, 4, none⟩ = some (.int .u64 u0) ∧ W.cell? ⟨w.heap.size + 1, 5, none⟩ = some (.int .u64 u1) ∧ W.cell? ⟨w.heap.size + 1, 6, none⟩ = some (.int .u64 u2) ∧ W.cell? ⟨w.heap.size + 1, 7, none⟩ = some (.int .u64 u3)) (go_simp) (first
    | (go_at_call 17; with_reducible refine (h1 _).mono ?_; rintro e w' ⟨rfl, hb⟩; obtain ⟨m1, g1, d1, hm1, rfl⟩ := pad_of hb; clear hb; (try simp [pad_size] at hm1); have st1_w := sz2 (n := w.heap.size) (m := m1) (by omega))
    | (go_at_call 17; with_reducible refine (h2 _).mono ?_; rintro e w' ⟨rfl, hb⟩; obtain ⟨m2, g2, d2, hm2, rfl⟩ := pad_of hb; clear hb; (try simp [pad_size] at hm2); have st2_w := sz2 (n := w.heap.size) (m := m2) (by omega)))
  all_goals
    go_wp2_with (first
      | (go_at_call 24; with_reducible refine (a3 _).mono ?_; rintro e w' ⟨rfl, rfl⟩)
      | (go_at_call 24; with_reducible refine (a4 _).mono ?_; rintro e w' ⟨rfl, rfl⟩)
      | (go_at_call 24; with_reducible refine (a5 _).mono ?_; rintro e w' ⟨rfl, rfl⟩)
      | (go_at_call 24; with_reducible refine (a6 _).mono ?_; rintro e w' ⟨rfl, rfl⟩)
      | (go_at_call 21; with_reducible refine (h7 _).mono ?_; rintro e w' ⟨rfl, rfl⟩)
      | (go_at_call 21; with_reducible refine (h8 _).mono ?_; rintro e w' ⟨rfl, rfl⟩)
      | (go_at_call 23; with_reducible refine (o1 _).mono ?_; rintro e w' ⟨rfl, hb⟩; obtain ⟨m3, g3, d3, hm3, rfl⟩ := pad_of hb; clear hb; (try simp [pad_size] at hm3); have st3_w := sz2 (n := w.heap.size) (m := m3) (by omega))
      | (go_at_call 23; with_reducible refine (o2 _).mono ?_; rintro e w' ⟨rfl, hb⟩; obtain ⟨m4, g4, d4, hm4, rfl⟩ := pad_of hb; clear hb; (try simp [pad_size] at hm4); have st4_w := sz2 (n := w.heap.size) (m := m4) (by omega))
      | (go_at_call 25; with_reducible refine (b3 _).mono ?_; rintro e w' ⟨rfl, hb⟩; obtain ⟨m5, g5, d5, hm5, rfl⟩ := pad_of hb; clear hb; (try simp [pad_size] at hm5); have st5_w := sz2 (n := w.heap.size) (m := m5) (by omega))
      | (go_at_call 11; with_reducible refine (says_turns.at _).mono ?_; rintro e w' ⟨rfl, hb⟩; obtain ⟨m6, g6, d6, hm6, rfl⟩ := pad_of hb; clear hb; (try simp [pad_size] at hm6); have st6_w := sz2 (n := w.heap.size) (m := m6) (by omega)))
    all_goals go_ret
    all_goals exact ⟨rfl, by (repeat (first | (with_reducible exact Below.refl _ _) | (with_reducible assumption) | (with_reducible apply bd) | (with_reducible apply ba) | (with_reducible refine bp ?_ (by first | omega | (simp [pad_size]; done) | (simp [pad_size]; omega)) _ _) | (with_reducible refine bs ?_ (by first | omega | (simp [pad_size]; done) | (simp [pad_size]; omega)) _) | (with_reducible refine bt ?_ (by assumption))))⟩
theorem gaugeAparts_any (x0 x1 x2 x3 y0 y1 y2 y3 z0 z1 z2 z3 u0 u1 u2 u3 k : Int) (hx : Lim x0 x1 x2 x3) (hy : Lim y0 y1 y2 y3) (hz : Lim z0 z1 z2 z3) (hu : Lim u0 u1 u2 u3) (w : World) :
    Calls Try.prog 9 #[.agg #[.int .u64 x0, .int .u64 x1, .int .u64 x2, .int .u64 x3, .int .u64 y0, .int .u64 y1, .int .u64 y2, .int .u64 y3], .agg #[.int .u64 z0, .int .u64 z1, .int .u64 z2, .int .u64 z3, .int .u64 u0, .int .u64 u1, .int .u64 u2, .int .u64 u3], .int .i64 k] w fun e w' => e = .returned (.bool true) ∧ Below w.heap.size w w' := by
  have fa := (fI_ps hx).2
  have fb := (fI_ps hy).2
  obtain ⟨r, hr, h1, h2, h3⟩ := ap_all fa fb (fI_ps hz).2 (fI_ps hu).2
  exact gaugeAparts_w (point_any hx hy) (point_any hz hu) h1 h2 (ap_self fa fb) (h3 (kq k)) (turn_any _ _ k) (turn_any _ _ k) (ps_eq hr) w

theorem gaugeAparts_own : ownKnob Try.prog.godebug = none := by kernel_rfl
theorem gaugeAparts_laid : laidOutB Try.prog = true := by kernel_rfl

set_option maxRecDepth 100000 in
theorem gaugeAparts_lifted (os : Os) (started : os.Started) (H : Type) (enc : TypeId × Value → H) :
    ReturnsInHanded {} Try.checked os 9 .any (Rows.gaugeApartsSpec.pre6 enc Try.prog Try.f9 Rows.gaugeApartsRow.domain false) (Rows.gaugeApartsSpec.post enc Try.prog Try.f9 false true false false) := by
  refine returnsInHanded_of_change (C := Try.checked) gaugeAparts_own started (by kernel_rfl) Try.func9
    (ChangeSpec.witness6 (enc := enc) (C := Try.checked) false ⟨#[], #[.agg #[.int .u64 0, .int .u64 0, .int .u64 0, .int .u64 0, .int .u64 0, .int .u64 0, .int .u64 0, .int .u64 0], .agg #[.int .u64 0, .int .u64 0, .int .u64 0, .int .u64 0, .int .u64 0, .int .u64 0, .int .u64 0, .int .u64 0], .int .i64 0], []⟩ 8 (by kernel_rfl) (by kernel_rfl) (by kernel_rfl) (by kernel_rfl)) ?_
  intro W base args ds gs before hval0 hW hcnd _
  have hval : ∀ (j : Nat) t v, Try.f9.params[j]? = some t → args[j]? = some v → Value.okWide Try.prog W .any base t v := hval0
  have hW' := hW
  obtain ⟨p, q, hA0, hV, rfl, hfz, hnd⟩ := hW
  have hA : DataW.TrodAll enc Try.prog W 0 (fun _ => true) true Try.f9.params.toList args.toList ds p := hA0
  rw [Try.params9] at hA hval
  obtain ⟨v0, vs0, d0, ds0, p0, q0, hargs0, rfl, rfl, h0, r0⟩ := trodAll_cons hA
  obtain ⟨v1, vs1, d1, ds1, p1, q1, hargs1, rfl, rfl, h1, r1⟩ := trodAll_cons r0
  obtain ⟨v2, vs2, d2, ds2, p2, q2, hargs2, rfl, rfl, h2, r2⟩ := trodAll_cons r1
  obtain ⟨rfl, rfl, rfl⟩ := trodAll_nil r2
  obtain rfl : args = #[v0, v1, v2] := by cases args; simp_all
  obtain ⟨rfl, rfl⟩ := trodVars_none hV
  have k0 := h0
  have lt0 : ∀ x ∈ p0, x.block < W.heap.size := by obtain ⟨m, hm⟩ := k0; exact DataW.trod_lt m _ _ _ hm
  have k1 := h1
  have lt1 : ∀ x ∈ p1, x.block < W.heap.size := by obtain ⟨m, hm⟩ := k1; exact DataW.trod_lt m _ _ _ hm
  have k2 := h2
  have lt2 : ∀ x ∈ p2, x.block < W.heap.size := by obtain ⟨m, hm⟩ := k2; exact DataW.trod_lt m _ _ _ hm
  obtain ⟨x0, x1, x2, x3, y0, y1, y2, y3, rfl, hx, hy⟩ := two_in (hval 0 48 v0 rfl rfl) h0
  obtain ⟨z0, z1, z2, z3, u0, u1, u2, u3, rfl, hz, hu⟩ := two_in (hval 1 48 v1 rfl rfl) h1
  obtain ⟨n2, rfl⟩ := okWide_int Try.underlying3 (hval 2 3 v2 rfl rfl)
  clear hA0 hval0
  have walk : Calls Try.prog 9 _ W fun e w' => e = .returned (.bool true) ∧ Below W.heap.size W w' := gaugeAparts_any x0 x1 x2 x3 y0 y1 y2 y3 z0 z1 z2 z3 u0 u1 u2 u3 n2 hx hy hz hu W
  refine walk.mono fun e W' ⟨he, bel⟩ => ?_
  subst he
  exact ⟨_, rfl, _, _, _, [], _, [], hW', trodAll_mk1 (shut_bool Try.underlying4 _), trodAll_cons_mk (Below.trod gaugeAparts_laid (by kernel_rfl) (of_decide_eq_true (by kernel_rfl)) k0 bel lt0) (trodAll_cons_mk (Below.trod gaugeAparts_laid (by kernel_rfl) (of_decide_eq_true (by kernel_rfl)) k1 bel lt1) (trodAll_cons_mk (Below.trod gaugeAparts_laid (by kernel_rfl) (of_decide_eq_true (by kernel_rfl)) k2 bel lt2) (trodAll_mk0))), rfl, bel.frame _, fun h => by cases h⟩

theorem gaugeAparts_holds : Rows.GaugeApartsSaid :=
  OpenClaim.holds_of_wide 9 Try.f9 rfl rfl rfl rfl rfl rfl rfl ⟨rfl, rfl, rfl, rfl, rfl⟩ rfl rfl rfl rfl rfl (by kernel_rfl) Try.func9 (by kernel_rfl)
    (of_decide_eq_true (by kernel_rfl)) (by unfold Func.isWrapper; first | (rw [if_pos (by decide +kernel)]; kernel_rfl) | (rw [if_neg (by decide +kernel)]; exact ⟨rfl, rfl⟩))
    (fun os started H enc _ => gaugeAparts_lifted os started H enc)
#print axioms gaugeAparts_holds
end Go.Proofs.Ytjildnmcjggfaaa
