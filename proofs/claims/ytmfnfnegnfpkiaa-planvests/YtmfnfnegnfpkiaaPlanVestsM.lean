
/- For any plan that is made of anything, at any time, jointurelaw06.PlanVests returns true and writes nothing that was there: what is free, and what is locked, is what the document says. No condition. -/
import Derived.Test.YtmfnfnegnfpkiaaPN2
import Derived.Deep.CutRange
set_option linter.unusedSimpArgs false
set_option linter.unusedVariables false
set_option maxRecDepth 20000
namespace Go.Proofs.Ytmfnfnegnfpkiaa
open Go.ChangeShapes Go.WideShapes Go.ChangeAt Go.RowKit

theorem mfr_vested {x : Pn} {t : Int} {X : World} (h : MF X x) (ht : 0 ≤ t ∧ t < 18446744073709551616) : Hid (∀ Y, Below X.heap.size X Y → Calls Try.prog 19 #[pnV x, .int .u64 t] Y fun e w' => ∃ a c, e = .returned (.slice a (lst (vestP x t) 8).length c) ∧ IsCoins w' (.slice a (lst (vestP x t) 8).length c) (lst (vestP x t) 8) ∧ Below Y.heap.size Y w') := fun Y hY => by
  refine Calls.mono (vestedR_any Y (h.at'.below hY) h.ok (right_facts h.rb) ht) ?_
  rintro e w' ⟨a, n, c, rfl, h1, h2⟩
  obtain rfl := coins_len h1
  exact ⟨a, c, rfl, h1, h2⟩
theorem mfr_locked {x : Pn} {t : Int} {X : World} (h : MF X x) (ht : 0 ≤ t ∧ t < 18446744073709551616) : Hid (∀ Y, Below X.heap.size X Y → Calls Try.prog 21 #[pnV x, .int .u64 t] Y fun e w' => ∃ a c, e = .returned (.slice a (lst (lockP x t) 8).length c) ∧ IsCoins w' (.slice a (lst (lockP x t) 8).length c) (lst (lockP x t) 8) ∧ Below Y.heap.size Y w') := fun Y hY => by
  refine Calls.mono (lockedR_any Y (h.at'.below hY) h.ok (right_facts h.rb) ht) ?_
  rintro e w' ⟨a, n, c, rfl, h1, h2⟩
  obtain rfl := coins_len h1
  exact ⟨a, c, rfl, h1, h2⟩
set_option maxRecDepth 20000 in
set_option maxHeartbeats 16000000 in
theorem planVests_any {w : World} (y : Md) (t : Int) (hy : MdIn w y) (ht : 0 ≤ t ∧ t < 18446744073709551616) :
    Calls Try.prog 5 #[mdV y, .int .u64 t] w fun e w' => e = .returned (.bool true) ∧ Below w.heap.size w w' := by
  have hpad := pads
  have hFew : Hid (∀ X, Below w.heap.size w X → Calls Try.prog 15 #[mdV y] X fun e w' => e = .returned (.bool (fewM y)) ∧ Below X.heap.size X w') := fun X hX => few6_any hy X hX
  have hPl : Hid (fewM y = true → ∀ X, Below w.heap.size w X → Calls Try.prog 16 #[mdV y] X fun e w' => ∃ (k s u : Int) (a1 : Option Addr) (n1 c1 : Nat) (a2 : Option Addr) (n2 c2 : Nat) (x : Pn), e = .returned (.agg #[.int .u8 k, .int .u64 s, .int .u64 u, .slice a1 n1 c1, .slice a2 n2 c2]) ∧ Hid (x = ⟨k, s, u, .slice a1 n1 c1, .slice a2 n2 c2, x.al, x.pl⟩) ∧ Hid (MF w' x) ∧ Below X.heap.size X w') := fun hf X hX => plansS_any hy hf X hX
  clear hy
  obtain ⟨k, s, n, a1, n1, c1, a2, n2, c2, l, ps⟩ := y
  generalize hF : fewM ⟨k, s, n, a1, n1, c1, a2, n2, c2, l, ps⟩ = F at *
  clear hF
  show Calls Try.prog 5 #[.agg #[.int .u8 k, .int .u32 s, .int .u16 n, .slice a1 n1 c1, .slice a2 n2 c2], .int .u64 t] w _
  have hFew : Hid (∀ X, Below w.heap.size w X → Calls Try.prog 15 #[.agg #[.int .u8 k, .int .u32 s, .int .u16 n, .slice a1 n1 c1, .slice a2 n2 c2]] X fun e w' => e = .returned (.bool F) ∧ Below X.heap.size X w') := hFew
  have hPl : Hid (F = true → ∀ X, Below w.heap.size w X → Calls Try.prog 16 #[.agg #[.int .u8 k, .int .u32 s, .int .u16 n, .slice a1 n1 c1, .slice a2 n2 c2]] X fun e w' => ∃ (k s u : Int) (a1 : Option Addr) (n1 c1 : Nat) (a2 : Option Addr) (n2 c2 : Nat) (x : Pn), e = .returned (.agg #[.int .u8 k, .int .u64 s, .int .u64 u, .slice a1 n1 c1, .slice a2 n2 c2]) ∧ Hid (x = ⟨k, s, u, .slice a1 n1 c1, .slice a2 n2 c2, x.al, x.pl⟩) ∧ Hid (MF w' x) ∧ Below X.heap.size X w') := hPl
  have hb0 : Below w.heap.size w (w.alloc (.cells #[.int .u8 k, .int .u32 s, .int .u16 n, .slice a1 n1 c1, .slice a2 n2 c2] 33)) := ba (Below.refl _ _) _
  have hkeep : Hid (∀ X, Below (w.alloc (.cells #[.int .u8 k, .int .u32 s, .int .u16 n, .slice a1 n1 c1, .slice a2 n2 c2] 33)).heap.size (w.alloc (.cells #[.int .u8 k, .int .u32 s, .int .u16 n, .slice a1 n1 c1, .slice a2 n2 c2] 33)) X → X.cell? ⟨w.heap.size, 0, none⟩ = some (.int .u8 k) ∧ X.cell? ⟨w.heap.size, 1, none⟩ = some (.int .u32 s) ∧ X.cell? ⟨w.heap.size, 2, none⟩ = some (.int .u16 n) ∧ X.cell? ⟨w.heap.size, 3, none⟩ = some (.slice a1 n1 c1) ∧ X.cell? ⟨w.heap.size, 4, none⟩ = some (.slice a2 n2 c2)) := fun X hX => by
    have q1 := (cells_of_block ((hX.block w.heap.size (by simp)).trans (al_at rfl))).1
    exact ⟨q1 0, q1 1, q1 2, q1 3, q1 4⟩
  cases F
  · clear hPl
    go_enter Try.func5, Try.ntmps5
    go_wp2_with (first
      | (go_at_call 15; refine (hFew.out _ (bt hb0 hb1)).mono ?_; rintro e w2 ⟨rfl, hb2⟩)
      | (go_at_call 12; with_reducible refine (even_any (w.alloc (.cells #[.int .u8 k, .int .u32 s, .int .u16 n, .slice a1 n1 c1, .slice a2 n2 c2] 33))).mono ?_; rintro e w1 ⟨rfl, hb1⟩; obtain ⟨q0, q1, q2, q3, q4⟩ := hkeep.out _ hb1)
      | (go_at_call 12; with_reducible refine (even_any w2).mono ?_; rintro e w3 ⟨rfl, hb3⟩))
    go_ret
    exact ⟨rfl, bt (bt (bt hb0 hb1) hb2) hb3⟩
  have hPl2 : Hid (∀ X, _) := fun X => hPl.out rfl X
  go_enter Try.func5, Try.ntmps5
  go_upto_region 4 with (first
    | (go_at_call 15; refine (hFew.out _ (bt hb0 hb1)).mono ?_; rintro e w2 ⟨rfl, hb2⟩; obtain ⟨r0, r1, r2, r3, r4⟩ := hkeep.out _ (bt hb1 hb2))
    | (go_at_call 12; refine (even_any _).mono ?_; rintro e w1 ⟨rfl, hb1⟩; obtain ⟨q0, q1, q2, q3, q4⟩ := hkeep.out _ hb1)
    | (go_at_call 16; refine (hPl2.out _ (bt (bt hb0 hb1) hb2)).mono ?_; rintro e w3 ⟨pk, p0, p1, b1, m1, d1, b2, m2, d2, x, rfl, hx, hMF, hb3⟩))
  have hW3 : Below w.heap.size w w3 := bt (bt (bt hb0 hb1) hb2) hb3
  clear hFew hPl hPl2 hkeep hb0 hb1 hb2 hb3 q0 q1 q2 q3 q4 r0 r1 r2 r3 r4
  have hpv : Hid (pnV x = .agg #[.int .u8 pk, .int .u64 p0, .int .u64 p1, .slice b1 m1 d1, .slice b2 m2 d2]) := by unfold Hid; rw [hx.out]; rfl
  have hk1 : Hid (x.k = pk ∧ x.s = p0 ∧ x.e = p1 ∧ x.av = .slice b1 m1 d1 ∧ x.pv = .slice b2 m2 d2) := by unfold Hid; rw [hx.out]; exact ⟨rfl, rfl, rfl, rfl, rfl⟩
  have hok : Hid (PnOk x) := hMF.out.ok
  have hrf : Hid (PnR x) := right_facts hMF.out.rb
  have hAC := mf_coins hMF.out
  have hV := mf_vested (t := t) hMF.out ht
  have hL := mf_locked (t := t) hMF.out ht
  have hVR := mfr_vested (t := t) hMF.out ht
  have hLR := mfr_locked (t := t) hMF.out ht
  rw [hpv.out] at hV hL hVR hLR
  clear hpv hk1 hok hrf hx hMF hAC
  generalize lst (vestP x t) 8 = VL at *
  generalize lst (lockP x t) 8 = LL at *
  generalize VL.length = vn at *
  generalize LL.length = ln at *
  have hU : Below w3.heap.size w3 (w3.alloc (.cells #[.int .u8 pk, .int .u64 p0, .int .u64 p1, .slice b1 m1 d1, .slice b2 m2 d2] 26)) := ba (Below.refl _ _) _
  have hkp : Hid (∀ X, Below (w3.alloc (.cells #[.int .u8 pk, .int .u64 p0, .int .u64 p1, .slice b1 m1 d1, .slice b2 m2 d2] 26)).heap.size (w3.alloc (.cells #[.int .u8 pk, .int .u64 p0, .int .u64 p1, .slice b1 m1 d1, .slice b2 m2 d2] 26)) X → X.cell? ⟨w3.heap.size, 0, none⟩ = some (.int .u8 pk) ∧ X.cell? ⟨w3.heap.size, 1, none⟩ = some (.int .u64 p0) ∧ X.cell? ⟨w3.heap.size, 2, none⟩ = some (.int .u64 p1) ∧ X.cell? ⟨w3.heap.size, 3, none⟩ = some (.slice b1 m1 d1) ∧ X.cell? ⟨w3.heap.size, 4, none⟩ = some (.slice b2 m2 d2)) := fun X hX => by
    have q1 := (cells_of_block ((hX.block w3.heap.size (by simp)).trans (al_at rfl))).1
    exact ⟨q1 0, q1 1, q1 2, q1 3, q1 4⟩
  go_upto_region 4 with fail
  generalize w3.alloc (.cells #[.int .u8 pk, .int .u64 p0, .int .u64 p1, .slice b1 m1 d1, .slice b2 m2 d2] 26) = U at *
  have hbb : Hid (∀ X, Below U.heap.size U X → Below w3.heap.size w3 X) := fun X hX => bt hU hX
  have hbw : Hid (∀ X, Below U.heap.size U X → Below w.heap.size w X) := fun X hX => bt hW3 (bt hU hX)
  go_region_held2 (fun X => X.cell? ⟨w3.heap.size, 0, none⟩ = some (.int .u8 pk) ∧ X.cell? ⟨w3.heap.size, 1, none⟩ = some (.int .u64 p0) ∧ X.cell? ⟨w3.heap.size, 2, none⟩ = some (.int .u64 p1) ∧ X.cell? ⟨w3.heap.size, 3, none⟩ = some (.slice b1 m1 d1) ∧ X.cell? ⟨w3.heap.size, 4, none⟩ = some (.slice b2 m2 d2)) (exact hkp.out _ (by (repeat (first | (with_reducible exact Below.refl _ _) | (with_reducible assumption) | (with_reducible apply bd) | (with_reducible apply ba) | (with_reducible refine bp ?_ (by first | omega | (simp [pad_size]; done) | (simp [pad_size]; omega)) _ _) | (with_reducible refine bs ?_ (by first | omega | (simp [pad_size]; done) | (simp [pad_size]; omega)) _) | (with_reducible refine bt ?_ (by assumption)))))) (first
    | (go_at_call 18; with_reducible refine (hV.out _ (hbb.out _ (by (repeat (first | (with_reducible exact Below.refl _ _) | (with_reducible assumption) | (with_reducible apply bd) | (with_reducible apply ba) | (with_reducible refine bp ?_ (by first | omega | (simp [pad_size]; done) | (simp [pad_size]; omega)) _ _) | (with_reducible refine bs ?_ (by first | omega | (simp [pad_size]; done) | (simp [pad_size]; omega)) _) | (with_reducible refine bt ?_ (by assumption))))))).mono ?_; rintro e wq ⟨va, vc, rfl, hJ0, hb⟩; obtain ⟨pm1, pg1, pr1, phm1, rfl⟩ := pad_of hb; clear hb; simp [pad_size] at phm1; (try rw [hpad.2.2.2.2.2] at hJ0); have hJ := hidI hJ0; clear hJ0)
    | (go_at_call 19; with_reducible refine (hVR.out _ (hbb.out _ (by (repeat (first | (with_reducible exact Below.refl _ _) | (with_reducible assumption) | (with_reducible apply bd) | (with_reducible apply ba) | (with_reducible refine bp ?_ (by first | omega | (simp [pad_size]; done) | (simp [pad_size]; omega)) _ _) | (with_reducible refine bs ?_ (by first | omega | (simp [pad_size]; done) | (simp [pad_size]; omega)) _) | (with_reducible refine bt ?_ (by assumption))))))).mono ?_; rintro e wq ⟨vb, vd, rfl, hK0, hb⟩; obtain ⟨pm2, pg2, pr2, phm2, rfl⟩ := pad_of hb; clear hb; simp [pad_size] at phm2; (try rw [hpad.2.2.2.2.2] at hK0); have hK := hidI hK0; clear hK0)
    | (go_at_call 20; with_reducible refine (hL.out _ (hbb.out _ (by (repeat (first | (with_reducible exact Below.refl _ _) | (with_reducible assumption) | (with_reducible apply bd) | (with_reducible apply ba) | (with_reducible refine bp ?_ (by first | omega | (simp [pad_size]; done) | (simp [pad_size]; omega)) _ _) | (with_reducible refine bs ?_ (by first | omega | (simp [pad_size]; done) | (simp [pad_size]; omega)) _) | (with_reducible refine bt ?_ (by assumption))))))).mono ?_; rintro e wq ⟨la, lc, rfl, hM0, hb⟩; obtain ⟨pm3, pg3, pr3, phm3, rfl⟩ := pad_of hb; clear hb; simp [pad_size] at phm3; (try rw [hpad.2.2.2.2.2] at hM0); have hM := hidI hM0; clear hM0)
    | (go_at_call 21; with_reducible refine (hLR.out _ (hbb.out _ (by (repeat (first | (with_reducible exact Below.refl _ _) | (with_reducible assumption) | (with_reducible apply bd) | (with_reducible apply ba) | (with_reducible refine bp ?_ (by first | omega | (simp [pad_size]; done) | (simp [pad_size]; omega)) _ _) | (with_reducible refine bs ?_ (by first | omega | (simp [pad_size]; done) | (simp [pad_size]; omega)) _) | (with_reducible refine bt ?_ (by assumption))))))).mono ?_; rintro e wq ⟨lb, ld, rfl, hN0, hb⟩; obtain ⟨pm4, pg4, pr4, phm4, rfl⟩ := pad_of hb; clear hb; simp [pad_size] at phm4; (try rw [hpad.2.2.2.2.2] at hN0); have hN := hidI hN0; clear hN0)
    | (go_at_call 17; refine sameK (IsCL.below (IsCoins.cl hM.out) (by (repeat (first | (with_reducible exact Below.refl _ _) | (with_reducible assumption) | (with_reducible apply bd) | (with_reducible apply ba) | (with_reducible refine bp ?_ (by first | omega | (simp [pad_size]; done) | (simp [pad_size]; omega)) _ _) | (with_reducible refine bs ?_ (by first | omega | (simp [pad_size]; done) | (simp [pad_size]; omega)) _) | (with_reducible refine bt ?_ (by assumption)))))) (IsCL.below (IsCoins.cl hN.out) (by (repeat (first | (with_reducible exact Below.refl _ _) | (with_reducible assumption) | (with_reducible apply bd) | (with_reducible apply ba) | (with_reducible refine bp ?_ (by first | omega | (simp [pad_size]; done) | (simp [pad_size]; omega)) _ _) | (with_reducible refine bs ?_ (by first | omega | (simp [pad_size]; done) | (simp [pad_size]; omega)) _) | (with_reducible refine bt ?_ (by assumption)))))) ?_; rintro e wq ⟨rfl, hb⟩; simp only [clB_self]; obtain ⟨pm6, pg6, pr6, phm6, rfl⟩ := pad_of hb; clear hb; simp [pad_size] at phm6)
    | (go_at_call 17; refine sameK (IsCL.below (IsCoins.cl hJ.out) (by (repeat (first | (with_reducible exact Below.refl _ _) | (with_reducible assumption) | (with_reducible apply bd) | (with_reducible apply ba) | (with_reducible refine bp ?_ (by first | omega | (simp [pad_size]; done) | (simp [pad_size]; omega)) _ _) | (with_reducible refine bs ?_ (by first | omega | (simp [pad_size]; done) | (simp [pad_size]; omega)) _) | (with_reducible refine bt ?_ (by assumption)))))) (IsCL.below (IsCoins.cl hK.out) (by (repeat (first | (with_reducible exact Below.refl _ _) | (with_reducible assumption) | (with_reducible apply bd) | (with_reducible apply ba) | (with_reducible refine bp ?_ (by first | omega | (simp [pad_size]; done) | (simp [pad_size]; omega)) _ _) | (with_reducible refine bs ?_ (by first | omega | (simp [pad_size]; done) | (simp [pad_size]; omega)) _) | (with_reducible refine bt ?_ (by assumption)))))) ?_; rintro e wq ⟨rfl, hb⟩; simp only [clB_self]; obtain ⟨pm5, pg5, pr5, phm5, rfl⟩ := pad_of hb; clear hb; simp [pad_size] at phm5))
  all_goals go_wp2_with fail
  all_goals go_ret
  all_goals exact ⟨by simp, hbw.out _ (by (repeat (first | (with_reducible exact Below.refl _ _) | (with_reducible assumption) | (with_reducible apply bd) | (with_reducible apply ba) | (with_reducible refine bp ?_ (by first | omega | (simp [pad_size]; done) | (simp [pad_size]; omega)) _ _) | (with_reducible refine bs ?_ (by first | omega | (simp [pad_size]; done) | (simp [pad_size]; omega)) _) | (with_reducible refine bt ?_ (by assumption)))))⟩

theorem planVests_own : ownKnob Try.prog.godebug = none := by kernel_rfl
theorem planVests_laid : laidOutB Try.prog = true := by kernel_rfl

set_option maxRecDepth 100000 in
theorem planVests_lifted (os : Os) (started : os.Started) (H : Type) (enc : TypeId × Value → H) :
    ReturnsInHanded {} Try.checked os 5 .any (Rows.planVestsSpec.pre6 enc Try.prog Try.f5 Rows.planVestsRow.domain false) (Rows.planVestsSpec.post enc Try.prog Try.f5 false true false false) := by
  refine returnsInHanded_of_change (C := Try.checked) planVests_own started (by kernel_rfl) Try.func5
    (ChangeSpec.witness6 (enc := enc) (C := Try.checked) false ⟨#[], #[.agg #[.int .u8 0, .int .u32 0, .int .u16 0, .slice none 0 0, .slice none 0 0], .int .u64 0], []⟩ 8 (by kernel_rfl) (by kernel_rfl) (by kernel_rfl) (by kernel_rfl)) ?_
  intro W base args ds gs before hval0 hW hcnd _
  have hval : ∀ (j : Nat) t v, Try.f5.params[j]? = some t → args[j]? = some v → Value.okWide Try.prog W .any base t v := hval0
  have hW' := hW
  obtain ⟨p, q, hA0, hV, rfl, hfz, hnd⟩ := hW
  have hA : DataW.TrodAll enc Try.prog W 0 (fun _ => true) true Try.f5.params.toList args.toList ds p := hA0
  rw [Try.params5] at hA hval
  obtain ⟨v0, vs0, d0, ds0, p0, q0, hargs0, rfl, rfl, h0, r0⟩ := trodAll_cons hA
  obtain ⟨v1, vs1, d1, ds1, p1, q1, hargs1, rfl, rfl, h1, r1⟩ := trodAll_cons r0
  obtain ⟨rfl, rfl, rfl⟩ := trodAll_nil r1
  obtain rfl : args = #[v0, v1] := by cases args; simp_all
  obtain ⟨rfl, rfl⟩ := trodVars_none hV
  have k0 := h0
  have lt0 : ∀ x ∈ p0, x.block < W.heap.size := by obtain ⟨m, hm⟩ := k0; exact DataW.trod_lt m _ _ _ hm
  have k1 := h1
  have lt1 : ∀ x ∈ p1, x.block < W.heap.size := by obtain ⟨m, hm⟩ := k1; exact DataW.trod_lt m _ _ _ hm
  obtain ⟨y0, rfl, hl0⟩ := made_in (hval 0 33 v0 rfl rfl) h0
  obtain ⟨n1, rfl⟩ := okWide_int Try.underlying22 (hval 1 22 v1 rfl rfl)
  obtain ⟨fuel1, hf1⟩ := h1
  simp only [Value.cells] at hf1
  clear hA0 hval0
  have walk : Calls Try.prog 5 _ W fun e w' => e = .returned (.bool true) ∧ Below W.heap.size W w' := planVests_any y0 n1 hl0 (u64_in hf1)
  refine walk.mono fun e W' ⟨he, bel⟩ => ?_
  subst he
  exact ⟨_, rfl, _, _, _, [], _, [], hW', trodAll_mk1 (shut_bool Try.underlying4 _), trodAll_cons_mk (Below.trod planVests_laid (by kernel_rfl) (of_decide_eq_true (by kernel_rfl)) k0 bel lt0) (trodAll_cons_mk (Below.trod planVests_laid (by kernel_rfl) (of_decide_eq_true (by kernel_rfl)) k1 bel lt1) (trodAll_mk0)), rfl, bel.frame _, fun h => by cases h⟩

theorem planVests_holds : Rows.PlanVestsSaid :=
  OpenClaim.holds_of_wide 5 Try.f5 rfl rfl rfl rfl rfl rfl rfl ⟨rfl, rfl, rfl, rfl, rfl⟩ rfl rfl rfl rfl rfl (by kernel_rfl) Try.func5 (by kernel_rfl)
    (of_decide_eq_true (by kernel_rfl)) (by unfold Func.isWrapper; first | (rw [if_pos (by decide +kernel)]; kernel_rfl) | (rw [if_neg (by decide +kernel)]; exact ⟨rfl, rfl⟩))
    (fun os started H enc _ => planVests_lifted os started H enc)
#print axioms planVests_holds
end Go.Proofs.Ytmfnfnegnfpkiaa
