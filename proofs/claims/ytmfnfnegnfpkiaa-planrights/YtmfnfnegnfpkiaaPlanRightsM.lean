
/- For any plan jointurelaw06.PlanRights returns true and writes nothing that was there: the program and the document's answer agree whether it may be. No condition. -/
import Derived.Test.YtmfnfnegnfpkiaaPM6
set_option linter.unusedSimpArgs false
set_option linter.unusedVariables false
set_option maxRecDepth 20000
namespace Go.Proofs.Ytmfnfnegnfpkiaa
open Go.ChangeShapes Go.WideShapes Go.ChangeAt Go.RowKit

set_option maxRecDepth 10000 in
set_option maxHeartbeats 8000000 in
theorem planRights_any {w : World} (y : Pn) (h : PlanIn w y) :
    Calls Try.prog 3 #[pnV y] w fun e w' => e = .returned (.bool true) ∧ Below w.heap.size w w' := by
  have hpad := pads
  have hat : Hid _ := fun {a : Option Addr} {n c : Nat} => @PlanIn.at w y h a n c
  obtain ⟨a2, n, c2, ep, hn, -⟩ := h.pv
  obtain ⟨a1, c1, ea⟩ := h.cl.slice
  have hl1 := h.cl.len
  have hRR : Hid (n ≤ 9223372036854775807 → (∀ X, Below w.heap.size w X → Calls Try.prog 13 #[pnV y] X fun e w' => e = .returned (.bool (rightB y)) ∧ Below X.heap.size X w') ∧ (∀ X, Below w.heap.size w X → Calls Try.prog 14 #[pnV y] X fun e w' => e = .returned (.bool (rightB y)) ∧ Below X.heap.size X w')) := fun hn => by
    obtain ⟨h1, h2, -⟩ := hat.out ep hn
    exact ⟨fun X hX => planRight_any X (h1.below hX) h2, fun X hX => rightR6_any X (h1.below hX) h2⟩
  clear hat h
  obtain ⟨k, s, t, av, pv, al, pl⟩ := y
  simp only at ep ea hl1
  subst ep ea
  show Calls Try.prog 3 #[.agg #[.int .u8 k, .int .u64 s, .int .u64 t, .slice a1 al.length c1, .slice a2 n c2]] w _
  have hRR : Hid (n ≤ 9223372036854775807 → (∀ X, Below w.heap.size w X → Calls Try.prog 13 #[.agg #[.int .u8 k, .int .u64 s, .int .u64 t, .slice a1 al.length c1, .slice a2 n c2]] X fun e w' => e = .returned (.bool (rightB ⟨k, s, t, .slice a1 al.length c1, .slice a2 n c2, al, pl⟩)) ∧ Below X.heap.size X w') ∧ (∀ X, Below w.heap.size w X → Calls Try.prog 14 #[.agg #[.int .u8 k, .int .u64 s, .int .u64 t, .slice a1 al.length c1, .slice a2 n c2]] X fun e w' => e = .returned (.bool (rightB ⟨k, s, t, .slice a1 al.length c1, .slice a2 n c2, al, pl⟩)) ∧ Below X.heap.size X w')) := hRR
  generalize rightB ⟨k, s, t, .slice a1 al.length c1, .slice a2 n c2, al, pl⟩ = R at *
  have hb : Below w.heap.size w (w.alloc (.cells #[.int .u8 k, .int .u64 s, .int .u64 t, .slice a1 al.length c1, .slice a2 n c2] 26)) := ba (Below.refl _ _) _
  generalize al.length = m at *
  by_cases hm : 50 < m
  · have hm' : (50 : Int) < (m : Int) := by omega
    go_enter Try.func3, Try.ntmps3
    go_wp2_with (go_at_call 12; refine (even_any _).mono ?_; rintro e w1 ⟨rfl, hb1⟩)
    go_ret
    exact ⟨rfl, bt hb hb1⟩
  have hm' : ¬ (50 : Int) < (m : Int) := by omega
  by_cases hk : 50 < n
  · have hn' : (50 : Int) < (n : Int) := by omega
    go_enter Try.func3, Try.ntmps3
    go_wp2_with (go_at_call 12; refine (even_any _).mono ?_; rintro e w1 ⟨rfl, hb1⟩)
    go_ret
    exact ⟨rfl, bt hb hb1⟩
  have hn' : ¬ (50 : Int) < (n : Int) := by omega
  obtain ⟨hR1, hR2⟩ := hRR.out (by omega)
  have hR1 : Hid _ := hR1
  have hR2 : Hid _ := hR2
  clear hRR
  have hkeep : Hid (∀ X, Below (w.alloc (.cells #[.int .u8 k, .int .u64 s, .int .u64 t, .slice a1 m c1, .slice a2 n c2] 26)).heap.size (w.alloc (.cells #[.int .u8 k, .int .u64 s, .int .u64 t, .slice a1 m c1, .slice a2 n c2] 26)) X → X.cell? ⟨w.heap.size, 0, none⟩ = some (.int .u8 k) ∧ X.cell? ⟨w.heap.size, 1, none⟩ = some (.int .u64 s) ∧ X.cell? ⟨w.heap.size, 2, none⟩ = some (.int .u64 t) ∧ X.cell? ⟨w.heap.size, 3, none⟩ = some (.slice a1 m c1) ∧ X.cell? ⟨w.heap.size, 4, none⟩ = some (.slice a2 n c2)) := fun X hX => by
    have q1 := (hX.block w.heap.size (by simp)).trans (al_at rfl)
    exact ⟨(cells_of_block q1).1 0, (cells_of_block q1).1 1, (cells_of_block q1).1 2, (cells_of_block q1).1 3, (cells_of_block q1).1 4⟩
  go_enter Try.func3, Try.ntmps3
  go_upto_region 3 with fail
  generalize w.alloc (.cells #[.int .u8 k, .int .u64 s, .int .u64 t, .slice a1 m c1, .slice a2 n c2] 26) = U at *
  have hbb : Hid (∀ X, Below U.heap.size U X → Below w.heap.size w X) := fun X hX => bt hb hX
  go_region_held2 (fun X => X.cell? ⟨w.heap.size, 0, none⟩ = some (.int .u8 k) ∧ X.cell? ⟨w.heap.size, 1, none⟩ = some (.int .u64 s) ∧ X.cell? ⟨w.heap.size, 2, none⟩ = some (.int .u64 t) ∧ X.cell? ⟨w.heap.size, 3, none⟩ = some (.slice a1 m c1) ∧ X.cell? ⟨w.heap.size, 4, none⟩ = some (.slice a2 n c2)) (exact hkeep.out _ (by (repeat (first | (with_reducible exact Below.refl _ _) | (with_reducible assumption) | (with_reducible apply bd) | (with_reducible apply ba) | (with_reducible refine bp ?_ (by first | omega | (simp [pad_size]; done) | (simp [pad_size]; omega)) _ _) | (with_reducible refine bs ?_ (by first | omega | (simp [pad_size]; done) | (simp [pad_size]; omega)) _) | (with_reducible refine bt ?_ (by assumption)))))) (first
    | (go_at_call 12; refine (even_any _).mono ?_; rintro e w1 ⟨rfl, hb⟩; obtain ⟨m1, g1, d1, hm1, rfl⟩ := pad_of hb; clear hb; simp [pad_size] at hm1; (try have st1 := sz1 (n := U.heap.size) (m := m1) (by omega)))
    | (go_at_call 13; refine (hR1.out _ (hbb.out _ (by (repeat (first | (with_reducible exact Below.refl _ _) | (with_reducible assumption) | (with_reducible apply bd) | (with_reducible apply ba) | (with_reducible refine bp ?_ (by first | omega | (simp [pad_size]; done) | (simp [pad_size]; omega)) _ _) | (with_reducible refine bs ?_ (by first | omega | (simp [pad_size]; done) | (simp [pad_size]; omega)) _) | (with_reducible refine bt ?_ (by assumption))))))).mono ?_; rintro e w1 ⟨rfl, hb⟩; obtain ⟨m2, g2, d2, hm2, rfl⟩ := pad_of hb; clear hb; simp [pad_size] at hm2; (try have st2 := sz1 (n := m1) (m := m2) (by omega)))
    | (go_at_call 14; refine (hR2.out _ (hbb.out _ (by (repeat (first | (with_reducible exact Below.refl _ _) | (with_reducible assumption) | (with_reducible apply bd) | (with_reducible apply ba) | (with_reducible refine bp ?_ (by first | omega | (simp [pad_size]; done) | (simp [pad_size]; omega)) _ _) | (with_reducible refine bs ?_ (by first | omega | (simp [pad_size]; done) | (simp [pad_size]; omega)) _) | (with_reducible refine bt ?_ (by assumption))))))).mono ?_; rintro e w1 ⟨rfl, hb⟩; obtain ⟨m3, g3, d3, hm3, rfl⟩ := pad_of hb; clear hb; simp [pad_size] at hm3; (try have st3 := sz1 (n := m1) (m := m3) (by omega)); (try have st4 := sz1 (n := m2) (m := m3) (by omega))))
  all_goals go_wp2_with fail
  all_goals go_ret
  all_goals exact ⟨by simp, hbb.out _ (by (repeat (first | (with_reducible exact Below.refl _ _) | (with_reducible assumption) | (with_reducible apply bd) | (with_reducible apply ba) | (with_reducible refine bp ?_ (by first | omega | (simp [pad_size]; done) | (simp [pad_size]; omega)) _ _) | (with_reducible refine bs ?_ (by first | omega | (simp [pad_size]; done) | (simp [pad_size]; omega)) _) | (with_reducible refine bt ?_ (by assumption)))))⟩

theorem planRights_own : ownKnob Try.prog.godebug = none := by kernel_rfl
theorem planRights_laid : laidOutB Try.prog = true := by kernel_rfl

set_option maxRecDepth 100000 in
theorem planRights_lifted (os : Os) (started : os.Started) (H : Type) (enc : TypeId × Value → H) :
    ReturnsInHanded {} Try.checked os 3 .any (Rows.planRightsSpec.pre6 enc Try.prog Try.f3 Rows.planRightsRow.domain false) (Rows.planRightsSpec.post enc Try.prog Try.f3 false true false false) := by
  refine returnsInHanded_of_change (C := Try.checked) planRights_own started (by kernel_rfl) Try.func3
    (ChangeSpec.witness6 (enc := enc) (C := Try.checked) false ⟨#[], #[.agg #[.int .u8 0, .int .u64 0, .int .u64 0, .slice none 0 0, .slice none 0 0]], []⟩ 8 (by kernel_rfl) (by kernel_rfl) (by kernel_rfl) (by kernel_rfl)) ?_
  intro W base args ds gs before hval0 hW hcnd _
  have hval : ∀ (j : Nat) t v, Try.f3.params[j]? = some t → args[j]? = some v → Value.okWide Try.prog W .any base t v := hval0
  have hW' := hW
  obtain ⟨p, q, hA0, hV, rfl, hfz, hnd⟩ := hW
  have hA : DataW.TrodAll enc Try.prog W 0 (fun _ => true) true Try.f3.params.toList args.toList ds p := hA0
  rw [Try.params3] at hA hval
  obtain ⟨v0, vs0, d0, ds0, p0, q0, hargs0, rfl, rfl, h0, r0⟩ := trodAll_cons hA
  obtain ⟨rfl, rfl, rfl⟩ := trodAll_nil r0
  obtain rfl : args = #[v0] := by cases args; simp_all
  obtain ⟨rfl, rfl⟩ := trodVars_none hV
  have k0 := h0
  have lt0 : ∀ x ∈ p0, x.block < W.heap.size := by obtain ⟨m, hm⟩ := k0; exact DataW.trod_lt m _ _ _ hm
  obtain ⟨y0, rfl, hl0⟩ := plan_in (hval 0 26 v0 rfl rfl) h0
  clear hA0 hval0
  have walk : Calls Try.prog 3 _ W fun e w' => e = .returned (.bool true) ∧ Below W.heap.size W w' := planRights_any y0 hl0
  refine walk.mono fun e W' ⟨he, bel⟩ => ?_
  subst he
  exact ⟨_, rfl, _, _, _, [], _, [], hW', trodAll_mk1 (shut_bool Try.underlying4 _), trodAll_cons_mk (Below.trod planRights_laid (by kernel_rfl) (of_decide_eq_true (by kernel_rfl)) k0 bel lt0) (trodAll_mk0), rfl, bel.frame _, fun h => by cases h⟩

theorem planRights_holds : Rows.PlanRightsSaid :=
  OpenClaim.holds_of_wide 3 Try.f3 rfl rfl rfl rfl rfl rfl rfl ⟨rfl, rfl, rfl, rfl, rfl⟩ rfl rfl rfl rfl rfl (by kernel_rfl) Try.func3 (by kernel_rfl)
    (of_decide_eq_true (by kernel_rfl)) (by unfold Func.isWrapper; first | (rw [if_pos (by decide +kernel)]; kernel_rfl) | (rw [if_neg (by decide +kernel)]; exact ⟨rfl, rfl⟩))
    (fun os started H enc _ => planRights_lifted os started H enc)
#print axioms planRights_holds
end Go.Proofs.Ytmfnfnegnfpkiaa
