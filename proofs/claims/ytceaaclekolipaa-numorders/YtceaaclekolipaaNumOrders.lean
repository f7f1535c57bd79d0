/- For every three numbers jointurelaw01.NumOrders returns true and writes nothing that was there: the program's order is the document's, each two stand to one another in one way, and it goes on. No condition. -/
import Derived.Test.YtceaaclekolipaaF1
import Derived.Test.YtceaaclekolipaaD2
import Derived.Test.YtceaaclekolipaaV1
set_option linter.unusedSimpArgs false
set_option linter.unusedVariables false
namespace Go.Proofs.Ytceaaclekolipaa
open Go.ChangeShapes Go.WideShapes Go.ChangeAt Go.RowKit

theorem cmp_to {x0 x1 x2 x3 y0 y1 y2 y3 c : Int} (hx : Lim x0 x1 x2 x3) (hy : Lim y0 y1 y2 y3) (h : Hid (cmpI (val x0 x1 x2 x3) (val y0 y1 y2 y3) = c)) (w : World) :
    Calls Try.prog 23 #[.agg #[.int .u64 x0, .int .u64 x1, .int .u64 x2, .int .u64 x3], .agg #[.int .u64 y0, .int .u64 y1, .int .u64 y2, .int .u64 y3]] w fun e w' => e = .returned (.int .i64 c) ∧ Below w.heap.size w w' := by
  have h := h.out
  subst h
  exact cmp_any _ _ _ _ _ _ _ _ hx hy w
theorem cmpR_to {x0 x1 x2 x3 y0 y1 y2 y3 c : Int} (hx : Lim x0 x1 x2 x3) (hy : Lim y0 y1 y2 y3) (h : Hid (cmpI (val x0 x1 x2 x3) (val y0 y1 y2 y3) = c)) (w : World) :
    Calls Try.prog 18 #[.agg #[.int .u64 x0, .int .u64 x1, .int .u64 x2, .int .u64 x3], .agg #[.int .u64 y0, .int .u64 y1, .int .u64 y2, .int .u64 y3]] w fun e w' => e = .returned (.int .i64 c) ∧ Below w.heap.size w w' := by
  have h := h.out
  subst h
  exact cmpR_any _ _ _ _ _ _ _ _ hx hy w

set_option maxRecDepth 100000 in
set_option maxHeartbeats 8000000 in
theorem numOrders_w (x0 x1 x2 x3 y0 y1 y2 y3 z0 z1 z2 z3 s s' t u : Int) (hx : Lim x0 x1 x2 x3) (hy : Lim y0 y1 y2 y3) (hz : Lim z0 z1 z2 z3)
    (hs : Hid (cmpI (val x0 x1 x2 x3) (val y0 y1 y2 y3) = s)) (hs' : Hid (cmpI (val y0 y1 y2 y3) (val x0 x1 x2 x3) = s')) (ht : Hid (cmpI (val y0 y1 y2 y3) (val z0 z1 z2 z3) = t)) (hu : Hid (cmpI (val x0 x1 x2 x3) (val z0 z1 z2 z3) = u))
    (hq : (s = -1 ∧ s' = 1 ∧ eq4 x0 x1 x2 x3 y0 y1 y2 y3 = false) ∨ (s = 0 ∧ s' = 0 ∧ eq4 x0 x1 x2 x3 y0 y1 y2 y3 = true) ∨ (s = 1 ∧ s' = -1 ∧ eq4 x0 x1 x2 x3 y0 y1 y2 y3 = false)) (hl : 0 < s ∨ 0 < t ∨ u ≤ 0) (w : World) :
    Calls Try.prog 5 #[.agg #[.int .u64 x0, .int .u64 x1, .int .u64 x2, .int .u64 x3], .agg #[.int .u64 y0, .int .u64 y1, .int .u64 y2, .int .u64 y3], .agg #[.int .u64 z0, .int .u64 z1, .int .u64 z2, .int .u64 z3]] w fun e w' => e = .returned (.bool true) ∧ Below w.heap.size w w' := by
  have hpad := pads
  have heq := eq_num
  go_enter Try.func5, Try.ntmps5
  go_upto_region 1 with fail
  go_cut [7, 8] from 9 to 14 (fun s7 s8 wx => s7 = .int .i64 s ∧ s8 = .int .i64 t ∧ ∃ (m : Nat) (g : Nat → Obj) (d : Nat), w.heap.size + 1 + 1 + 1 ≤ m ∧ wx = pad (((w.alloc (.cells #[.int .u64 x0, .int .u64 x1, .int .u64 x2, .int .u64 x3] 24)).alloc (.cells #[.int .u64 y0, .int .u64 y1, .int .u64 y2, .int .u64 y3] 24)).alloc (.cells #[.int .u64 z0, .int .u64 z1, .int .u64 z2, .int .u64 z3] 24)) m g d)
  case first =>
    clear hq hl heq
    go_region_held2 (fun W => W.cell? ⟨w.heap.size, 0, none⟩ = some (.int .u64 x0) ∧ W.cell? ⟨w.heap.size, 1, none⟩ = some (.int .u64 x1) ∧ W.cell? ⟨w.heap.size, 2, none⟩ = some (.int .u64 x2) ∧ W.cell? ⟨w.heap.size, 3, none⟩ = some (.int .u64 x3) ∧ W.cell? ⟨w.heap.size + 1, 0, none⟩ = some (.int .u64 y0) ∧ W.cell? ⟨w.heap.size + 1, 1, none⟩ = some (.int .u64 y1) ∧ W.cell? ⟨w.heap.size + 1, 2, none⟩ = some (.int .u64 y2) ∧ W.cell? ⟨w.heap.size + 1, 3, none⟩ = some (.int .u64 y3) ∧ W.cell? ⟨w.heap.size + 1 + 1, 0, none⟩ = some (.int .u64 z0) ∧ W.cell? ⟨w.heap.size + 1 + 1, 1, none⟩ = some (.int .u64 z1) ∧ W.cell? ⟨w.heap.size + 1 + 1, 2, none⟩ = some (.int .u64 z2) ∧ W.cell? ⟨w.heap.size + 1 + 1, 3, none⟩ = some (.int .u64 z3)) (go_simp) (first
      | (go_at_call 23; with_reducible refine (cmp_to hx hy hs _).mono ?_; rintro e w' ⟨rfl, hb⟩; obtain ⟨m1, g1, d1, hm1, rfl⟩ := pad_of hb; clear hb; (try simp [pad_size] at hm1); have st1_w := sz3 (n := w.heap.size) (m := m1) (by omega))
      | (go_at_call 23; with_reducible refine (cmp_to hy hz ht _).mono ?_; rintro e w' ⟨rfl, hb⟩; obtain ⟨m2, g2, d2, hm2, rfl⟩ := pad_of (bt (bp (Below.refl _ _) (by first | omega | (simp [pad_size]; omega)) _ _) hb); clear hb; (try simp [pad_size] at hm2); have st2_w := sz3 (n := w.heap.size) (m := m2) (by omega); clear st1_w hm1))
    all_goals (go_wp2_with fail; go_meet)
    all_goals exact ⟨rfl, rfl, m2, g2, d2, by omega, rfl⟩
  case rest =>
    obtain ⟨rfl, rfl, m, g, d, hm, rfl⟩ := hcut
    have st := sz3 (n := w.heap.size) (m := m) hm
    have hl' : 0 < s ∨ (¬ 0 < s ∧ 0 < t) ∨ (¬ 0 < s ∧ ¬ 0 < t ∧ u ≤ 0) := by omega
    clear hl
    rcases hq with ⟨rfl, rfl, hq⟩ | ⟨rfl, rfl, hq⟩ | ⟨rfl, rfl, hq⟩ <;> rcases hl' with h1 | ⟨h1, h2⟩ | ⟨h1, h2, h3⟩
    all_goals first | (exfalso; omega) | skip
    go_wp2_with (first
      | (go_at_call 18; with_reducible refine (cmpR_to hx hy hs _).mono ?_; rintro e w' ⟨rfl, hb⟩; obtain ⟨m3, g3, d3, hm3, rfl⟩ := pad_of (bt (bp (Below.refl _ _) (by first | omega | (simp [pad_size]; omega)) _ _) hb); clear hb; (try simp [pad_size] at hm3); have st3_w := sz3 (n := w.heap.size) (m := m3) (by omega))
      | (go_at_call 23; with_reducible refine (cmp_to hy hx hs' _).mono ?_; rintro e w' ⟨rfl, hb⟩; obtain ⟨m4, g4, d4, hm4, rfl⟩ := pad_of (bt (bp (Below.refl _ _) (by first | omega | (simp [pad_size]; omega)) _ _) hb); clear hb; (try simp [pad_size] at hm4); have st4_w := sz3 (n := w.heap.size) (m := m4) (by omega); clear st3_w hm3)
      | (go_at_call 19; refine (halves_any _).mono ?_; rintro e w' ⟨rfl, hb⟩; obtain ⟨m5, g5, d5, hm5, rfl⟩ := pad_of (bt (bp (Below.refl _ _) (by first | omega | (simp [pad_size]; omega)) _ _) hb); clear hb; (try simp [pad_size] at hm5); have st5_w := sz3 (n := w.heap.size) (m := m5) (by omega); clear st4_w hm4)
      | (go_at_call 23; with_reducible refine (cmp_to hx hz hu _).mono ?_; rintro e w' ⟨rfl, hb⟩; obtain ⟨m6, g6, d6, hm6, rfl⟩ := pad_of (bt (bp (Below.refl _ _) (by first | omega | (simp [pad_size]; omega)) _ _) hb); clear hb; (try simp [pad_size] at hm6); have st6_w := sz3 (n := w.heap.size) (m := m6) (by omega); clear st5_w hm5))
    all_goals go_ret
    all_goals exact ⟨rfl, by (repeat (first | (with_reducible exact Below.refl _ _) | (with_reducible assumption) | (with_reducible apply bd) | (with_reducible apply ba) | (with_reducible refine bp ?_ (by first | omega | (simp [pad_size]; done) | (simp [pad_size]; omega)) _ _) | (with_reducible refine bs ?_ (by first | omega | (simp [pad_size]; done) | (simp [pad_size]; omega)) _) | (with_reducible refine bt ?_ (by assumption))))⟩

theorem numOrders_any (x0 x1 x2 x3 y0 y1 y2 y3 z0 z1 z2 z3 : Int) (hx : Lim x0 x1 x2 x3) (hy : Lim y0 y1 y2 y3) (hz : Lim z0 z1 z2 z3) (w : World) :
    Calls Try.prog 5 #[.agg #[.int .u64 x0, .int .u64 x1, .int .u64 x2, .int .u64 x3], .agg #[.int .u64 y0, .int .u64 y1, .int .u64 y2, .int .u64 y3], .agg #[.int .u64 z0, .int .u64 z1, .int .u64 z2, .int .u64 z3]] w fun e w' => e = .returned (.bool true) ∧ Below w.heap.size w w' := by
  refine numOrders_w _ _ _ _ _ _ _ _ _ _ _ _ _ _ _ _ hx hy hz rfl rfl rfl rfl ?_ ?_ w
  · rw [eq4_val hx hy]
    rcases Int.lt_trichotomy (val x0 x1 x2 x3) (val y0 y1 y2 y3) with h | h | h
    · exact .inl ⟨cmp_lt h, cmp_gt h, decide_eq_false (by omega)⟩
    · rw [h]; exact .inr (.inl ⟨cmp_same _, cmp_same _, decide_eq_true rfl⟩)
    · exact .inr (.inr ⟨cmp_gt h, cmp_lt h, decide_eq_false (by omega)⟩)
  · unfold cmpI
    generalize val x0 x1 x2 x3 = a
    generalize val y0 y1 y2 y3 = b
    generalize val z0 z1 z2 z3 = c
    split <;> split <;> split <;> (try split) <;> (try split) <;> (try split) <;> omega

theorem numOrders_own : ownKnob Try.prog.godebug = none := by kernel_rfl
theorem numOrders_laid : laidOutB Try.prog = true := by kernel_rfl

set_option maxRecDepth 100000 in
theorem numOrders_lifted (os : Os) (started : os.Started) (H : Type) (enc : TypeId × Value → H) :
    ReturnsInHanded {} Try.checked os 5 .any (Rows.numOrdersSpec.pre6 enc Try.prog Try.f5 Rows.numOrdersRow.domain false) (Rows.numOrdersSpec.post enc Try.prog Try.f5 false true false false) := by
  refine returnsInHanded_of_change (C := Try.checked) numOrders_own started (by kernel_rfl) Try.func5
    (ChangeSpec.witness6 (enc := enc) (C := Try.checked) false ⟨#[], #[.agg #[.int .u64 0, .int .u64 0, .int .u64 0, .int .u64 0], .agg #[.int .u64 0, .int .u64 0, .int .u64 0, .int .u64 0], .agg #[.int .u64 0, .int .u64 0, .int .u64 0, .int .u64 0]], []⟩ 8 (by kernel_rfl) (by kernel_rfl) (by kernel_rfl) (by kernel_rfl)) ?_
  intro W base args ds gs before hval0 hW hcnd _
  have hval : ∀ (j : Nat) t v, Try.f5.params[j]? = some t → args[j]? = some v → Value.okWide Try.prog W .any base t v := hval0
  have hW' := hW
  obtain ⟨p, q, hA0, hV, rfl, hfz, hnd⟩ := hW
  have hA : DataW.TrodAll enc Try.prog W 0 (fun _ => true) true Try.f5.params.toList args.toList ds p := hA0
  rw [Try.params5] at hA hval
  obtain ⟨v0, vs0, d0, ds0, p0, q0, hargs0, rfl, rfl, h0, r0⟩ := trodAll_cons hA
  obtain ⟨v1, vs1, d1, ds1, p1, q1, hargs1, rfl, rfl, h1, r1⟩ := trodAll_cons r0
  obtain ⟨v2, vs2, d2, ds2, p2, q2, hargs2, rfl, rfl, h2, r2⟩ := trodAll_cons r1
  obtain ⟨rfl, rfl, rfl⟩ := trodAll_nil r2
  obtain rfl : args = #[v0, v1, v2] := by cases args; simp_all
  obtain ⟨rfl, rfl⟩ := trodVars_none hV
  have k0 := h0
  have lt0 : ∀ x ∈ p0, x.block < W.heap.size := by obtain ⟨m, hm⟩ := k0; exact DataW.trod_lt m _ _ _ hm
  have k1 := h1
  have lt1 : ∀ x ∈ p1, x.block < W.heap.size := by obtain ⟨m, hm⟩ := k1; exact DataW.trod_lt m _ _ _ hm
  have k2 := h2
  have lt2 : ∀ x ∈ p2, x.block < W.heap.size := by obtain ⟨m, hm⟩ := k2; exact DataW.trod_lt m _ _ _ hm
  obtain ⟨x0, x1, x2, x3, rfl, hx⟩ := num_in (hval 0 24 v0 rfl rfl) h0
  obtain ⟨y0, y1, y2, y3, rfl, hy⟩ := num_in (hval 1 24 v1 rfl rfl) h1
  obtain ⟨z0, z1, z2, z3, rfl, hz⟩ := num_in (hval 2 24 v2 rfl rfl) h2
  clear hA0 hval0
  have walk : Calls Try.prog 5 _ W fun e w' => e = .returned (.bool true) ∧ Below W.heap.size W w' := numOrders_any x0 x1 x2 x3 y0 y1 y2 y3 z0 z1 z2 z3 hx hy hz W
  refine walk.mono fun e W' ⟨he, bel⟩ => ?_
  subst he
  exact ⟨_, rfl, _, _, _, [], _, [], hW', trodAll_mk1 (shut_bool Try.underlying4 _), trodAll_cons_mk (Below.trod numOrders_laid (by kernel_rfl) (of_decide_eq_true (by kernel_rfl)) k0 bel lt0) (trodAll_cons_mk (Below.trod numOrders_laid (by kernel_rfl) (of_decide_eq_true (by kernel_rfl)) k1 bel lt1) (trodAll_cons_mk (Below.trod numOrders_laid (by kernel_rfl) (of_decide_eq_true (by kernel_rfl)) k2 bel lt2) (trodAll_mk0))), rfl, bel.frame _, fun h => by cases h⟩

theorem numOrders_holds : Rows.NumOrdersSaid :=
  OpenClaim.holds_of_wide 5 Try.f5 rfl rfl rfl rfl rfl rfl rfl ⟨rfl, rfl, rfl, rfl, rfl⟩ rfl rfl rfl rfl rfl (by kernel_rfl) Try.func5 (by kernel_rfl)
    (of_decide_eq_true (by kernel_rfl)) (by unfold Func.isWrapper; first | (rw [if_pos (by decide +kernel)]; kernel_rfl) | (rw [if_neg (by decide +kernel)]; exact ⟨rfl, rfl⟩))
    (fun os started H enc _ => numOrders_lifted os started H enc)
#print axioms numOrders_holds
end Go.Proofs.Ytceaaclekolipaa
