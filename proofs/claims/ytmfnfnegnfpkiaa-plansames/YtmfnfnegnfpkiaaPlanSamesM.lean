
/- For any two plans jointurelaw06.PlanSames returns true and writes nothing that was there: the program and the document's answer agree whether they are alike, and each is like itself. No condition. -/
import Derived.Test.YtmfnfnegnfpkiaaPM6
set_option linter.unusedSimpArgs false
set_option linter.unusedVariables false
set_option maxRecDepth 20000
namespace Go.Proofs.Ytmfnfnegnfpkiaa
open Go.ChangeShapes Go.WideShapes Go.ChangeAt Go.RowKit

set_option maxRecDepth 10000 in
set_option maxHeartbeats 8000000 in
theorem planSames_any {w : World} (x y : Pn) (hx : PlanIn w x) (hy : PlanIn w y) :
    Calls Try.prog 11 #[pnV x, pnV y] w fun e w' => e = .returned (.bool true) ∧ Below w.heap.size w w' := by
  have hpad := pads
  obtain ⟨a2, n, c2, ep, hn, -⟩ := hx.pv
  obtain ⟨hx1, -, -⟩ := hx.at ep hn
  obtain ⟨a4, n', c4, ep', hn', -⟩ := hy.pv
  obtain ⟨hy1, -, -⟩ := hy.at ep' hn'
  obtain ⟨a1, c1, ea⟩ := hx.cl.slice
  obtain ⟨a3, c3, ea'⟩ := hy.cl.slice
  have hRS : Hid (∀ X, Below w.heap.size w X → Calls Try.prog 38 #[pnV x, pnV y] X fun e w' => e = .returned (.bool (pnB x y)) ∧ Below X.heap.size X w') := fun X hX => planSame_any (hx1.below hX) (hy1.below hX)
  have hRR : Hid (∀ X, Below w.heap.size w X → Calls Try.prog 26 #[pnV x, pnV y] X fun e w' => e = .returned (.bool (pnB x y)) ∧ Below X.heap.size X w') := fun X hX => sameR6_any (hx1.below hX) (hy1.below hX)
  have hRX : Hid (∀ X, Below w.heap.size w X → Calls Try.prog 38 #[pnV x, pnV x] X fun e w' => e = .returned (.bool (pnB x x)) ∧ Below X.heap.size X w') := fun X hX => planSame_any (hx1.below hX) (hx1.below hX)
  rw [pnB_self] at hRX
  clear hx hy hx1 hy1
  obtain ⟨k, s, t, av, pv, al, pl⟩ := x
  obtain ⟨k', s', t', av', pv', al', pl'⟩ := y
  simp only at ep ea ep' ea'
  subst ep ea ep' ea'
  generalize pnB ⟨k, s, t, .slice a1 al.length c1, .slice a2 n c2, al, pl⟩ ⟨k', s', t', .slice a3 al'.length c3, .slice a4 n' c4, al', pl'⟩ = R at *
  generalize al.length = m at *
  generalize al'.length = m' at *
  show Calls Try.prog 11 #[.agg #[.int .u8 k, .int .u64 s, .int .u64 t, .slice a1 m c1, .slice a2 n c2], .agg #[.int .u8 k', .int .u64 s', .int .u64 t', .slice a3 m' c3, .slice a4 n' c4]] w _
  have hRS : Hid (∀ X, Below w.heap.size w X → Calls Try.prog 38 #[.agg #[.int .u8 k, .int .u64 s, .int .u64 t, .slice a1 m c1, .slice a2 n c2], .agg #[.int .u8 k', .int .u64 s', .int .u64 t', .slice a3 m' c3, .slice a4 n' c4]] X fun e w' => e = .returned (.bool R) ∧ Below X.heap.size X w') := hRS
  have hRR : Hid (∀ X, Below w.heap.size w X → Calls Try.prog 26 #[.agg #[.int .u8 k, .int .u64 s, .int .u64 t, .slice a1 m c1, .slice a2 n c2], .agg #[.int .u8 k', .int .u64 s', .int .u64 t', .slice a3 m' c3, .slice a4 n' c4]] X fun e w' => e = .returned (.bool R) ∧ Below X.heap.size X w') := hRR
  have hRX : Hid (∀ X, Below w.heap.size w X → Calls Try.prog 38 #[.agg #[.int .u8 k, .int .u64 s, .int .u64 t, .slice a1 m c1, .slice a2 n c2], .agg #[.int .u8 k, .int .u64 s, .int .u64 t, .slice a1 m c1, .slice a2 n c2]] X fun e w' => e = .returned (.bool true) ∧ Below X.heap.size X w') := hRX
  obtain ⟨U, hU⟩ : ∃ U, U = (w.alloc (.cells #[.int .u8 k, .int .u64 s, .int .u64 t, .slice a1 m c1, .slice a2 n c2] 26)).alloc (.cells #[.int .u8 k', .int .u64 s', .int .u64 t', .slice a3 m' c3, .slice a4 n' c4] 26) := ⟨_, rfl⟩
  have hb : Below w.heap.size w U := by rw [hU]; exact ba (ba (Below.refl _ _) _) _
  have hUs : U.heap.size = w.heap.size + 1 + 1 := by rw [hU]; simp
  have hU1 : U.heap[w.heap.size]? = some (.cells #[.int .u8 k, .int .u64 s, .int .u64 t, .slice a1 m c1, .slice a2 n c2] 26 (0, 0)) := by rw [hU]; exact (al_old (by simp)).trans (al_at rfl)
  have hU2 : U.heap[w.heap.size + 1]? = some (.cells #[.int .u8 k', .int .u64 s', .int .u64 t', .slice a3 m' c3, .slice a4 n' c4] 26 (0, 0)) := by rw [hU]; exact al_at (by simp)
  have hk1 : Hid (∀ X, Below U.heap.size U X → X.cell? ⟨w.heap.size, 0, none⟩ = some (.int .u8 k) ∧ X.cell? ⟨w.heap.size, 1, none⟩ = some (.int .u64 s) ∧ X.cell? ⟨w.heap.size, 2, none⟩ = some (.int .u64 t) ∧ X.cell? ⟨w.heap.size, 3, none⟩ = some (.slice a1 m c1) ∧ X.cell? ⟨w.heap.size, 4, none⟩ = some (.slice a2 n c2) ∧ X.cell? ⟨w.heap.size + 1, 0, none⟩ = some (.int .u8 k') ∧ X.cell? ⟨w.heap.size + 1, 1, none⟩ = some (.int .u64 s') ∧ X.cell? ⟨w.heap.size + 1, 2, none⟩ = some (.int .u64 t') ∧ X.cell? ⟨w.heap.size + 1, 3, none⟩ = some (.slice a3 m' c3) ∧ X.cell? ⟨w.heap.size + 1, 4, none⟩ = some (.slice a4 n' c4)) := fun X hX => by
    have q1 := (cells_of_block ((hX.block w.heap.size (by omega)).trans hU1)).1
    have q2 := (cells_of_block ((hX.block (w.heap.size + 1) (by omega)).trans hU2)).1
    exact ⟨q1 0, q1 1, q1 2, q1 3, q1 4, q2 0, q2 1, q2 2, q2 3, q2 4⟩
  have hbb : Hid (∀ X, Below U.heap.size U X → Below w.heap.size w X) := fun X hX => bt hb hX
  have hU' : Hid _ := hU
  clear hU1 hU2 hb
  by_cases hbig : 100 < wrap64 (wrap64 (wrap64 ((m : Int) + m') + n) + n')
  · go_enter Try.func11, Try.ntmps11
    go_wp2_with (first
      | (go_at_call 12; rw [← hU]; refine (even_any U).mono ?_; rintro e w1 ⟨rfl, hb1⟩; clear hU; obtain ⟨p0, p1, p2, p3, p4, p5, p6, p7, p8, p9⟩ := hk1.out _ hb1)
      | (go_at_call 12; refine (even_any _).mono ?_; rintro e w2 ⟨rfl, hb2⟩))
    go_ret
    exact ⟨rfl, hbb.out _ (bt hb1 hb2)⟩
  · go_enter Try.func11, Try.ntmps11
    go_upto_region 3 with (go_at_call 12; rw [← hU]; refine (even_any U).mono ?_; rintro e w1 ⟨rfl, hb1⟩; clear hU; obtain ⟨p0, p1, p2, p3, p4, p5, p6, p7, p8, p9⟩ := hk1.out _ hb1)
    have hk2 : Hid (∀ X, Below w1.heap.size w1 X → _) := fun X hX => hk1.out X (bt hb1 hX)
    have hbb2 : Hid (∀ X, Below w1.heap.size w1 X → Below w.heap.size w X) := fun X hX => hbb.out _ (bt hb1 hX)
    clear hk1 hbb hU' hUs
    go_region_held2 (fun X => X.cell? ⟨w.heap.size, 0, none⟩ = some (.int .u8 k) ∧ X.cell? ⟨w.heap.size, 1, none⟩ = some (.int .u64 s) ∧ X.cell? ⟨w.heap.size, 2, none⟩ = some (.int .u64 t) ∧ X.cell? ⟨w.heap.size, 3, none⟩ = some (.slice a1 m c1) ∧ X.cell? ⟨w.heap.size, 4, none⟩ = some (.slice a2 n c2) ∧ X.cell? ⟨w.heap.size + 1, 0, none⟩ = some (.int .u8 k') ∧ X.cell? ⟨w.heap.size + 1, 1, none⟩ = some (.int .u64 s') ∧ X.cell? ⟨w.heap.size + 1, 2, none⟩ = some (.int .u64 t') ∧ X.cell? ⟨w.heap.size + 1, 3, none⟩ = some (.slice a3 m' c3) ∧ X.cell? ⟨w.heap.size + 1, 4, none⟩ = some (.slice a4 n' c4)) (exact hk2.out _ (by (repeat (first | (with_reducible exact Below.refl _ _) | (with_reducible assumption) | (with_reducible apply bd) | (with_reducible apply ba) | (with_reducible refine bp ?_ (by first | omega | (simp [pad_size]; done) | (simp [pad_size]; omega)) _ _) | (with_reducible refine bs ?_ (by first | omega | (simp [pad_size]; done) | (simp [pad_size]; omega)) _) | (with_reducible refine bt ?_ (by assumption)))))) (first
      | (go_at_call 38; with_reducible refine (hRX.out _ (hbb2.out _ (by (repeat (first | (with_reducible exact Below.refl _ _) | (with_reducible assumption) | (with_reducible apply bd) | (with_reducible apply ba) | (with_reducible refine bp ?_ (by first | omega | (simp [pad_size]; done) | (simp [pad_size]; omega)) _ _) | (with_reducible refine bs ?_ (by first | omega | (simp [pad_size]; done) | (simp [pad_size]; omega)) _) | (with_reducible refine bt ?_ (by assumption))))))).mono ?_; rintro e w1 ⟨rfl, hb⟩; obtain ⟨m1, g1, r1, hm1, rfl⟩ := pad_of hb; clear hb; simp [pad_size] at hm1)
      | (go_at_call 38; with_reducible refine (hRS.out _ (hbb2.out _ (by (repeat (first | (with_reducible exact Below.refl _ _) | (with_reducible assumption) | (with_reducible apply bd) | (with_reducible apply ba) | (with_reducible refine bp ?_ (by first | omega | (simp [pad_size]; done) | (simp [pad_size]; omega)) _ _) | (with_reducible refine bs ?_ (by first | omega | (simp [pad_size]; done) | (simp [pad_size]; omega)) _) | (with_reducible refine bt ?_ (by assumption))))))).mono ?_; rintro e w1 ⟨rfl, hb⟩; obtain ⟨m2, g2, r2, hm2, rfl⟩ := pad_of hb; clear hb; simp [pad_size] at hm2)
      | (go_at_call 26; with_reducible refine (hRR.out _ (hbb2.out _ (by (repeat (first | (with_reducible exact Below.refl _ _) | (with_reducible assumption) | (with_reducible apply bd) | (with_reducible apply ba) | (with_reducible refine bp ?_ (by first | omega | (simp [pad_size]; done) | (simp [pad_size]; omega)) _ _) | (with_reducible refine bs ?_ (by first | omega | (simp [pad_size]; done) | (simp [pad_size]; omega)) _) | (with_reducible refine bt ?_ (by assumption))))))).mono ?_; rintro e w1 ⟨rfl, hb⟩; obtain ⟨m3, g3, r3, hm3, rfl⟩ := pad_of hb; clear hb; simp [pad_size] at hm3))
    all_goals go_wp2_with fail
    all_goals go_ret
    all_goals exact ⟨by simp, hbb2.out _ (by (repeat (first | (with_reducible exact Below.refl _ _) | (with_reducible assumption) | (with_reducible apply bd) | (with_reducible apply ba) | (with_reducible refine bp ?_ (by first | omega | (simp [pad_size]; done) | (simp [pad_size]; omega)) _ _) | (with_reducible refine bs ?_ (by first | omega | (simp [pad_size]; done) | (simp [pad_size]; omega)) _) | (with_reducible refine bt ?_ (by assumption)))))⟩

theorem planSames_own : ownKnob Try.prog.godebug = none := by kernel_rfl
theorem planSames_laid : laidOutB Try.prog = true := by kernel_rfl

set_option maxRecDepth 100000 in
theorem planSames_lifted (os : Os) (started : os.Started) (H : Type) (enc : TypeId × Value → H) :
    ReturnsInHanded {} Try.checked os 11 .any (Rows.planSamesSpec.pre6 enc Try.prog Try.f11 Rows.planSamesRow.domain false) (Rows.planSamesSpec.post enc Try.prog Try.f11 false true false false) := by
  refine returnsInHanded_of_change (C := Try.checked) planSames_own started (by kernel_rfl) Try.func11
    (ChangeSpec.witness6 (enc := enc) (C := Try.checked) false ⟨#[], #[.agg #[.int .u8 0, .int .u64 0, .int .u64 0, .slice none 0 0, .slice none 0 0], .agg #[.int .u8 0, .int .u64 0, .int .u64 0, .slice none 0 0, .slice none 0 0]], []⟩ 8 (by kernel_rfl) (by kernel_rfl) (by kernel_rfl) (by kernel_rfl)) ?_
  intro W base args ds gs before hval0 hW hcnd _
  have hval : ∀ (j : Nat) t v, Try.f11.params[j]? = some t → args[j]? = some v → Value.okWide Try.prog W .any base t v := hval0
  have hW' := hW
  obtain ⟨p, q, hA0, hV, rfl, hfz, hnd⟩ := hW
  have hA : DataW.TrodAll enc Try.prog W 0 (fun _ => true) true Try.f11.params.toList args.toList ds p := hA0
  rw [Try.params11] at hA hval
  obtain ⟨v0, vs0, d0, ds0, p0, q0, hargs0, rfl, rfl, h0, r0⟩ := trodAll_cons hA
  obtain ⟨v1, vs1, d1, ds1, p1, q1, hargs1, rfl, rfl, h1, r1⟩ := trodAll_cons r0
  obtain ⟨rfl, rfl, rfl⟩ := trodAll_nil r1
  obtain rfl : args = #[v0, v1] := by cases args; simp_all
  obtain ⟨rfl, rfl⟩ := trodVars_none hV
  have k0 := h0
  have lt0 : ∀ x ∈ p0, x.block < W.heap.size := by obtain ⟨m, hm⟩ := k0; exact DataW.trod_lt m _ _ _ hm
  have k1 := h1
  have lt1 : ∀ x ∈ p1, x.block < W.heap.size := by obtain ⟨m, hm⟩ := k1; exact DataW.trod_lt m _ _ _ hm
  obtain ⟨y0, rfl, hl0⟩ := plan_in (hval 0 26 v0 rfl rfl) h0
  obtain ⟨y1, rfl, hl1⟩ := plan_in (hval 1 26 v1 rfl rfl) h1
  clear hA0 hval0
  have walk : Calls Try.prog 11 _ W fun e w' => e = .returned (.bool true) ∧ Below W.heap.size W w' := planSames_any y0 y1 hl0 hl1
  refine walk.mono fun e W' ⟨he, bel⟩ => ?_
  subst he
  exact ⟨_, rfl, _, _, _, [], _, [], hW', trodAll_mk1 (shut_bool Try.underlying4 _), trodAll_cons_mk (Below.trod planSames_laid (by kernel_rfl) (of_decide_eq_true (by kernel_rfl)) k0 bel lt0) (trodAll_cons_mk (Below.trod planSames_laid (by kernel_rfl) (of_decide_eq_true (by kernel_rfl)) k1 bel lt1) (trodAll_mk0)), rfl, bel.frame _, fun h => by cases h⟩

theorem planSames_holds : Rows.PlanSamesSaid :=
  OpenClaim.holds_of_wide 11 Try.f11 rfl rfl rfl rfl rfl rfl rfl ⟨rfl, rfl, rfl, rfl, rfl⟩ rfl rfl rfl rfl rfl (by kernel_rfl) Try.func11 (by kernel_rfl)
    (of_decide_eq_true (by kernel_rfl)) (by unfold Func.isWrapper; first | (rw [if_pos (by decide +kernel)]; kernel_rfl) | (rw [if_neg (by decide +kernel)]; exact ⟨rfl, rfl⟩))
    (fun os started H enc _ => planSames_lifted os started H enc)
#print axioms planSames_holds
end Go.Proofs.Ytmfnfnegnfpkiaa
