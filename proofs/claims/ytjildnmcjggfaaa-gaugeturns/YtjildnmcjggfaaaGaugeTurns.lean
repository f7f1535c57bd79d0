
/- For every two numbers and every count of quarters jointurelaw03.GaugeTurns returns true and writes nothing that was there: so many quarters, either way; four are none, and back is back. No condition. -/
import Derived.Test.YtjildnmcjggfaaaGM
import Derived.Test.YtjildnmcjggfaaaGN
set_option linter.unusedSimpArgs false
set_option linter.unusedVariables false
namespace Go.Proofs.Ytjildnmcjggfaaa
open Go.ChangeShapes Go.WideShapes Go.ChangeAt Go.RowKit

set_option maxRecDepth 100000 in
set_option maxHeartbeats 4000000 in
theorem gaugeTurns_any (x0 x1 x2 x3 y0 y1 y2 y3 k : Int) (hx : Lim x0 x1 x2 x3) (hy : Lim y0 y1 y2 y3) (w : World) : Calls Try.prog 8 #[.agg #[.int .u64 x0, .int .u64 x1, .int .u64 x2, .int .u64 x3, .int .u64 y0, .int .u64 y1, .int .u64 y2, .int .u64 y3], .int .i64 k] w fun e w' => e = .returned (.bool true) ∧ Below w.heap.size w w' := by
  have hpad := pads
  have h1 := point_any hx hy
  have ea := fI_eq hx
  have eb := fI_eq hy
  obtain ⟨f1, f2⟩ := tw_fin (fI_ps hx).2 (fI_ps hy).2 (kq k)
  generalize fI (val x0 x1 x2 x3) = a at *
  generalize fI (val y0 y1 y2 y3) = b at *
  have h2 := turn_any a b k
  have h3 := turnR_any a b k
  have h4 := same_point (fin_eq f1) (fin_eq f2)
  have h5 : ∀ w, Calls Try.prog 21 #[.complex .f64 a b, .int .i64 4] w fun e w' => e = .returned (.complex .f64 a b) ∧ w' = w := turn_any a b 4
  have h6 : ∀ w, Calls Try.prog 21 #[.complex .f64 a b, .int .i64 3] w fun e w' => e = .returned (.complex .f64 (neg (neg b)) (neg a)) ∧ w' = w := turn_any a b 3
  have h7 : ∀ w, Calls Try.prog 21 #[.complex .f64 (neg (neg b)) (neg a), .int .i64 1] w fun e w' => e = .returned (.complex .f64 a b) ∧ w' = w := by
    intro w
    have h : Calls Try.prog 21 #[.complex .f64 (neg (neg b)) (neg a), .int .i64 1] w fun e w' => e = .returned (.complex .f64 (neg (neg a)) (neg (neg b))) ∧ w' = w := turn_any _ _ 1 w
    rw [neg_neg a, neg_neg b] at h
    rw [neg_neg b]
    exact h
  have h8 : ∀ w, Calls Try.prog 21 #[.complex .f64 a b, .int .i64 (-1)] w fun e w' => e = .returned (.complex .f64 (neg (neg b)) (neg a)) ∧ w' = w := turn_any a b (-1)
  have h9 := of_point a b
  generalize neg (neg b) = a3 at *
  generalize neg a = b3 at *
  generalize (tw (kq k) (a, b)).1 = c at *
  generalize (tw (kq k) (a, b)).2 = d at *
  clear f1 f2 hx hy
  go_enter Try.func8, Try.ntmps8
  go_wp2_with (first
    | (go_at_call 17; with_reducible refine (h1 _).mono ?_; rintro e w' ⟨rfl, hb⟩; obtain ⟨m1, g1, d1, hm1, rfl⟩ := pad_of hb; clear hb; (try simp [pad_size] at hm1); have st1_w := sz1 (n := w.heap.size) (m := m1) (by omega))
    | (go_at_call 21; with_reducible refine (h5 _).mono ?_; rintro e w' ⟨rfl, rfl⟩)
    | (go_at_call 21; with_reducible refine (h6 _).mono ?_; rintro e w' ⟨rfl, rfl⟩)
    | (go_at_call 21; with_reducible refine (h7 _).mono ?_; rintro e w' ⟨rfl, rfl⟩)
    | (go_at_call 21; with_reducible refine (h8 _).mono ?_; rintro e w' ⟨rfl, rfl⟩)
    | (go_at_call 21; with_reducible refine (h2 _).mono ?_; rintro e w' ⟨rfl, rfl⟩)
    | (go_at_call 23; with_reducible refine (h9 _).mono ?_; rintro e w' ⟨rfl, hb⟩; obtain ⟨m2, g2, d2, hm2, rfl⟩ := pad_of hb; clear hb; (try simp [pad_size] at hm2); have st2_w := sz1 (n := w.heap.size) (m := m2) (by omega))
    | (go_at_call 22; with_reducible refine (h3 _).mono ?_; rintro e w' ⟨rfl, hb⟩; obtain ⟨m3, g3, d3, hm3, rfl⟩ := pad_of hb; clear hb; (try simp [pad_size] at hm3); have st3_w := sz1 (n := w.heap.size) (m := m3) (by omega))
    | (go_at_call 16; with_reducible refine (h4 _).mono ?_; rintro e w' ⟨rfl, hb⟩; obtain ⟨m4, g4, d4, hm4, rfl⟩ := pad_of hb; clear hb; (try simp [pad_size] at hm4); have st4_w := sz1 (n := w.heap.size) (m := m4) (by omega))
    | (go_at_call 11; with_reducible refine (says_turns.at _).mono ?_; rintro e w' ⟨rfl, hb⟩; obtain ⟨m5, g5, d5, hm5, rfl⟩ := pad_of hb; clear hb; (try simp [pad_size] at hm5); have st5_w := sz1 (n := w.heap.size) (m := m5) (by omega)))
  all_goals go_ret
  all_goals exact ⟨rfl, by (repeat (first | (with_reducible exact Below.refl _ _) | (with_reducible assumption) | (with_reducible apply bd) | (with_reducible apply ba) | (with_reducible refine bp ?_ (by first | omega | (simp [pad_size]; done) | (simp [pad_size]; omega)) _ _) | (with_reducible refine bs ?_ (by first | omega | (simp [pad_size]; done) | (simp [pad_size]; omega)) _) | (with_reducible refine bt ?_ (by assumption))))⟩

theorem gaugeTurns_own : ownKnob Try.prog.godebug = none := by kernel_rfl
theorem gaugeTurns_laid : laidOutB Try.prog = true := by kernel_rfl

set_option maxRecDepth 100000 in
theorem gaugeTurns_lifted (os : Os) (started : os.Started) (H : Type) (enc : TypeId × Value → H) :
    ReturnsInHanded {} Try.checked os 8 .any (Rows.gaugeTurnsSpec.pre6 enc Try.prog Try.f8 Rows.gaugeTurnsRow.domain false) (Rows.gaugeTurnsSpec.post enc Try.prog Try.f8 false true false false) := by
  refine returnsInHanded_of_change (C := Try.checked) gaugeTurns_own started (by kernel_rfl) Try.func8
    (ChangeSpec.witness6 (enc := enc) (C := Try.checked) false ⟨#[], #[.agg #[.int .u64 0, .int .u64 0, .int .u64 0, .int .u64 0, .int .u64 0, .int .u64 0, .int .u64 0, .int .u64 0], .int .i64 0], []⟩ 8 (by kernel_rfl) (by kernel_rfl) (by kernel_rfl) (by kernel_rfl)) ?_
  intro W base args ds gs before hval0 hW hcnd _
  have hval : ∀ (j : Nat) t v, Try.f8.params[j]? = some t → args[j]? = some v → Value.okWide Try.prog W .any base t v := hval0
  have hW' := hW
  obtain ⟨p, q, hA0, hV, rfl, hfz, hnd⟩ := hW
  have hA : DataW.TrodAll enc Try.prog W 0 (fun _ => true) true Try.f8.params.toList args.toList ds p := hA0
  rw [Try.params8] at hA hval
  obtain ⟨v0, vs0, d0, ds0, p0, q0, hargs0, rfl, rfl, h0, r0⟩ := trodAll_cons hA
  obtain ⟨v1, vs1, d1, ds1, p1, q1, hargs1, rfl, rfl, h1, r1⟩ := trodAll_cons r0
  obtain ⟨rfl, rfl, rfl⟩ := trodAll_nil r1
  obtain rfl : args = #[v0, v1] := by cases args; simp_all
  obtain ⟨rfl, rfl⟩ := trodVars_none hV
  have k0 := h0
  have lt0 : ∀ x ∈ p0, x.block < W.heap.size := by obtain ⟨m, hm⟩ := k0; exact DataW.trod_lt m _ _ _ hm
  have k1 := h1
  have lt1 : ∀ x ∈ p1, x.block < W.heap.size := by obtain ⟨m, hm⟩ := k1; exact DataW.trod_lt m _ _ _ hm
  obtain ⟨x0, x1, x2, x3, y0, y1, y2, y3, rfl, hx, hy⟩ := two_in (hval 0 48 v0 rfl rfl) h0
  obtain ⟨n1, rfl⟩ := okWide_int Try.underlying3 (hval 1 3 v1 rfl rfl)
  clear hA0 hval0
  have walk : Calls Try.prog 8 _ W fun e w' => e = .returned (.bool true) ∧ Below W.heap.size W w' := gaugeTurns_any x0 x1 x2 x3 y0 y1 y2 y3 n1 hx hy W
  refine walk.mono fun e W' ⟨he, bel⟩ => ?_
  subst he
  exact ⟨_, rfl, _, _, _, [], _, [], hW', trodAll_mk1 (shut_bool Try.underlying4 _), trodAll_cons_mk (Below.trod gaugeTurns_laid (by kernel_rfl) (of_decide_eq_true (by kernel_rfl)) k0 bel lt0) (trodAll_cons_mk (Below.trod gaugeTurns_laid (by kernel_rfl) (of_decide_eq_true (by kernel_rfl)) k1 bel lt1) (trodAll_mk0)), rfl, bel.frame _, fun h => by cases h⟩

theorem gaugeTurns_holds : Rows.GaugeTurnsSaid :=
  OpenClaim.holds_of_wide 8 Try.f8 rfl rfl rfl rfl rfl rfl rfl ⟨rfl, rfl, rfl, rfl, rfl⟩ rfl rfl rfl rfl rfl (by kernel_rfl) Try.func8 (by kernel_rfl)
    (of_decide_eq_true (by kernel_rfl)) (by unfold Func.isWrapper; first | (rw [if_pos (by decide +kernel)]; kernel_rfl) | (rw [if_neg (by decide +kernel)]; exact ⟨rfl, rfl⟩))
    (fun os started H enc _ => gaugeTurns_lifted os started H enc)
#print axioms gaugeTurns_holds
end Go.Proofs.Ytjildnmcjggfaaa
