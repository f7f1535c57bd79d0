
/- For every hold and number jointurelaw07.HoldBacks returns true and writes nothing that was there: what comes back is taken of what is free first, then of what is kept. No condition. -/
import Derived.Test.YtpddeihghjjmfaaT7
set_option linter.unusedSimpArgs false
set_option linter.unusedVariables false
namespace Go.Proofs.Ytpddeihghjjmfaa
open Go.ChangeShapes Go.WideShapes Go.ChangeAt Go.RowKit

set_option maxRecDepth 100000 in
set_option maxHeartbeats 4000000 in
theorem holdBacks_w {k0 k1 k2 k3 f0 f1 f2 f3 n0 n1 n2 n3 a0 a1 a2 a3 b0 b1 b2 b3 : Int} (hS : Says 11 #[.agg #[.int .u64 k0, .int .u64 k1, .int .u64 k2, .int .u64 k3, .int .u64 f0, .int .u64 f1, .int .u64 f2, .int .u64 f3], .agg #[.int .u64 n0, .int .u64 n1, .int .u64 n2, .int .u64 n3]] (.agg #[.int .u64 a0, .int .u64 a1, .int .u64 a2, .int .u64 a3, .int .u64 b0, .int .u64 b1, .int .u64 b2, .int .u64 b3])) (hR : Says 12 #[.agg #[.int .u64 k0, .int .u64 k1, .int .u64 k2, .int .u64 k3, .int .u64 f0, .int .u64 f1, .int .u64 f2, .int .u64 f3], .agg #[.int .u64 n0, .int .u64 n1, .int .u64 n2, .int .u64 n3]] (.agg #[.int .u64 a0, .int .u64 a1, .int .u64 a2, .int .u64 a3, .int .u64 b0, .int .u64 b1, .int .u64 b2, .int .u64 b3])) (w : World) :
    Calls Try.prog 4 #[.agg #[.int .u64 k0, .int .u64 k1, .int .u64 k2, .int .u64 k3, .int .u64 f0, .int .u64 f1, .int .u64 f2, .int .u64 f3], .agg #[.int .u64 n0, .int .u64 n1, .int .u64 n2, .int .u64 n3]] w fun e w' => e = .returned (.bool true) ∧ Below w.heap.size w w' := by
  have hpad := pads
  have heh := eq_hold
  have he8 := eq8_self
  go_enter Try.func4, Try.ntmps4
  go_upto_region 1 with fail
  go_region_held2 (fun W => W.cell? ⟨w.heap.size, 0, none⟩ = some (.int .u64 k0) ∧ W.cell? ⟨w.heap.size, 1, none⟩ = some (.int .u64 k1) ∧ W.cell? ⟨w.heap.size, 2, none⟩ = some (.int .u64 k2) ∧ W.cell? ⟨w.heap.size, 3, none⟩ = some (.int .u64 k3) ∧ W.cell? ⟨w.heap.size, 4, none⟩ = some (.int .u64 f0) ∧ W.cell? ⟨w.heap.size, 5, none⟩ = some (.int .u64 f1) ∧ W.cell? ⟨w.heap.size, 6, none⟩ = some (.int .u64 f2) ∧ W.cell? ⟨w.heap.size, 7, none⟩ = some (.int .u64 f3) ∧ W.cell? ⟨w.heap.size + 1, 0, none⟩ = some (.int .u64 n0) ∧ W.cell? ⟨w.heap.size + 1, 1, none⟩ = some (.int .u64 n1) ∧ W.cell? ⟨w.heap.size + 1, 2, none⟩ = some (.int .u64 n2) ∧ W.cell? ⟨w.heap.size + 1, 3, none⟩ = some (.int .u64 n3)) (go_simp) (first
    | (go_at_call 10; with_reducible refine (says_tracks.at _).mono ?_; rintro e w' ⟨rfl, hb⟩; obtain ⟨m1, g1, d1, hm1, rfl⟩ := pad_of hb; clear hb; (try simp [pad_size] at hm1); have st1_w := sz2 (n := w.heap.size) (m := m1) (by omega))
    | (go_at_call 11; with_reducible refine (hS.at _).mono ?_; rintro e w' ⟨rfl, hb⟩; obtain ⟨m2, g2, d2, hm2, rfl⟩ := pad_of hb; clear hb; (try simp [pad_size] at hm2); have st2_w := sz2 (n := w.heap.size) (m := m2) (by omega))
    | (go_at_call 12; with_reducible refine (hR.at _).mono ?_; rintro e w' ⟨rfl, hb⟩; obtain ⟨m3, g3, d3, hm3, rfl⟩ := pad_of hb; clear hb; (try simp [pad_size] at hm3); have st3_w := sz2 (n := w.heap.size) (m := m3) (by omega)))
  all_goals go_wp2
  all_goals go_ret
  all_goals exact ⟨rfl, by (repeat (first | (with_reducible exact Below.refl _ _) | (with_reducible assumption) | (with_reducible apply bd) | (with_reducible apply ba) | (with_reducible refine bp ?_ (by first | omega | (simp [pad_size]; done) | (simp [pad_size]; omega)) _ _) | (with_reducible refine bs ?_ (by first | omega | (simp [pad_size]; done) | (simp [pad_size]; omega)) _) | (with_reducible refine bt ?_ (by assumption))))⟩

theorem holdBacks_any (k0 k1 k2 k3 f0 f1 f2 f3 n0 n1 n2 n3 : Int) (hk : Lim k0 k1 k2 k3) (hf : Lim f0 f1 f2 f3) (hn : Lim n0 n1 n2 n3) (w : World) :
    Calls Try.prog 4 #[.agg #[.int .u64 k0, .int .u64 k1, .int .u64 k2, .int .u64 k3, .int .u64 f0, .int .u64 f1, .int .u64 f2, .int .u64 f3], .agg #[.int .u64 n0, .int .u64 n1, .int .u64 n2, .int .u64 n3]] w fun e w' => e = .returned (.bool true) ∧ Below w.heap.size w w' := by
  have k0' := val_lo hk
  have f0' := val_lo hf
  have n0' := val_lo hn
  obtain ⟨o0, o1, o2, o3, ho, eo⟩ := rest_ex hn hf
  by_cases h : val n0 n1 n2 n3 ≤ val f0 f1 f2 f3
  · have e0 : val o0 o1 o2 o3 = 0 := by rw [eo, restI_of_ge h]
    obtain ⟨r0, r1, r2, r3, hr, er⟩ := rest_ex hf hn
    exact holdBacks_w (says_back (says_rest hn hf ho eo) (says_rest hk ho hk (by rw [e0, restI_of_le (by omega)]; omega)) (says_rest hf hn hr er)) (says_backR_le (cmp_le0 h) (says_cmpR hn hf rfl) (says_restR hf hn hr er)) w
  · obtain ⟨r0, r1, r2, r3, hr, er⟩ := rest_ex hk ho
    exact holdBacks_w (says_back (says_rest hn hf ho eo) (says_rest hk ho hr er) (says_rest hf hn lim_zero (by rw [val0, restI_of_ge (by omega)]))) (says_backR_gt (cmp_pos (by omega)) (says_cmpR hn hf rfl) (says_restR hn hf ho eo) (says_restR hk ho hr er)) w

theorem holdBacks_own : ownKnob Try.prog.godebug = none := by kernel_rfl
theorem holdBacks_laid : laidOutB Try.prog = true := by kernel_rfl

set_option maxRecDepth 100000 in
theorem holdBacks_lifted (os : Os) (started : os.Started) (H : Type) (enc : TypeId × Value → H) :
    ReturnsInHanded {} Try.checked os 4 .any (Rows.holdBacksSpec.pre6 enc Try.prog Try.f4 Rows.holdBacksRow.domain false) (Rows.holdBacksSpec.post enc Try.prog Try.f4 false true false false) := by
  refine returnsInHanded_of_change (C := Try.checked) holdBacks_own started (by kernel_rfl) Try.func4
    (ChangeSpec.witness6 (enc := enc) (C := Try.checked) false ⟨#[], #[.agg #[.int .u64 0, .int .u64 0, .int .u64 0, .int .u64 0, .int .u64 0, .int .u64 0, .int .u64 0, .int .u64 0], .agg #[.int .u64 0, .int .u64 0, .int .u64 0, .int .u64 0]], []⟩ 8 (by kernel_rfl) (by kernel_rfl) (by kernel_rfl) (by kernel_rfl)) ?_
  intro W base args ds gs before hval0 hW hcnd _
  have hval : ∀ (j : Nat) t v, Try.f4.params[j]? = some t → args[j]? = some v → Value.okWide Try.prog W .any base t v := hval0
  have hW' := hW
  obtain ⟨p, q, hA0, hV, rfl, hfz, hnd⟩ := hW
  have hA : DataW.TrodAll enc Try.prog W 0 (fun _ => true) true Try.f4.params.toList args.toList ds p := hA0
  rw [Try.params4] at hA hval
  obtain ⟨v0, vs0, d0, ds0, p0, q0, hargs0, rfl, rfl, h0, r0⟩ := trodAll_cons hA
  obtain ⟨v1, vs1, d1, ds1, p1, q1, hargs1, rfl, rfl, h1, r1⟩ := trodAll_cons r0
  obtain ⟨rfl, rfl, rfl⟩ := trodAll_nil r1
  obtain rfl : args = #[v0, v1] := by cases args; simp_all
  obtain ⟨rfl, rfl⟩ := trodVars_none hV
  have k0 := h0
  have lt0 : ∀ x ∈ p0, x.block < W.heap.size := by obtain ⟨m, hm⟩ := k0; exact DataW.trod_lt m _ _ _ hm
  have k1 := h1
  have lt1 : ∀ x ∈ p1, x.block < W.heap.size := by obtain ⟨m, hm⟩ := k1; exact DataW.trod_lt m _ _ _ hm
  obtain ⟨aa0, aa1, aa2, aa3, bb0, bb1, bb2, bb3, rfl, hla, hlb⟩ := hold_in (hval 0 26 v0 rfl rfl) h0
  obtain ⟨x0, x1, x2, x3, rfl, hx⟩ := num_in (hval 1 24 v1 rfl rfl) h1
  clear hA0 hval0
  have walk : Calls Try.prog 4 _ W fun e w' => e = .returned (.bool true) ∧ Below W.heap.size W w' := holdBacks_any aa0 aa1 aa2 aa3 bb0 bb1 bb2 bb3 x0 x1 x2 x3 hla hlb hx W
  refine walk.mono fun e W' ⟨he, bel⟩ => ?_
  subst he
  exact ⟨_, rfl, _, _, _, [], _, [], hW', trodAll_mk1 (shut_bool Try.underlying4 _), trodAll_cons_mk (Below.trod holdBacks_laid (by kernel_rfl) (of_decide_eq_true (by kernel_rfl)) k0 bel lt0) (trodAll_cons_mk (Below.trod holdBacks_laid (by kernel_rfl) (of_decide_eq_true (by kernel_rfl)) k1 bel lt1) (trodAll_mk0)), rfl, bel.frame _, fun h => by cases h⟩

theorem holdBacks_holds : Rows.HoldBacksSaid :=
  OpenClaim.holds_of_wide 4 Try.f4 rfl rfl rfl rfl rfl rfl rfl ⟨rfl, rfl, rfl, rfl, rfl⟩ rfl rfl rfl rfl rfl (by kernel_rfl) Try.func4 (by kernel_rfl)
    (of_decide_eq_true (by kernel_rfl)) (by unfold Func.isWrapper; first | (rw [if_pos (by decide +kernel)]; kernel_rfl) | (rw [if_neg (by decide +kernel)]; exact ⟨rfl, rfl⟩))
    (fun os started H enc _ => holdBacks_lifted os started H enc)
#print axioms holdBacks_holds
end Go.Proofs.Ytpddeihghjjmfaa
