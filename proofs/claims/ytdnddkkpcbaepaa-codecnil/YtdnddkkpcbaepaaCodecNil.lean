
/- For every number and byte jointurelaw04.CodecNil returns true and writes nothing that was there: of a nil writer and a nil reader all answers are nothing. No condition. -/
import Derived.Test.YtdnddkkpcbaepaaG10
import Derived.Test.YtdnddkkpcbaepaaV3
import Derived.Deep.RegionWith
set_option linter.unusedSimpArgs false
set_option linter.unusedVariables false
namespace Go.Proofs.Ytdnddkkpcbaepaa
open Go.ChangeShapes Go.WideShapes Go.ChangeAt Go.RowKit

set_option maxRecDepth 100000 in
set_option maxHeartbeats 8000000 in
theorem codecNil_any (x0 x1 x2 x3 n1 : Int) (hx : Lim x0 x1 x2 x3) (hn : 0 ≤ n1 ∧ n1 ≤ 255) (w : World) :
    Calls Try.prog 9 #[.agg #[.int .u64 x0, .int .u64 x1, .int .u64 x2, .int .u64 x3], .int .u8 n1] w fun e w' => e = .returned (.bool true) ∧ Below w.heap.size w w' := by
  have hpad := pads
  have heq := eq_num
  have hes : eq4 0 0 0 0 0 0 0 0 = true := rfl
  go_enter Try.func9, Try.ntmps9
  go_wp2
  go_region_held2 (fun W => W.cell? ⟨w.heap.size, 0, none⟩ = some (.int .u64 x0) ∧ W.cell? ⟨w.heap.size, 1, none⟩ = some (.int .u64 x1) ∧ W.cell? ⟨w.heap.size, 2, none⟩ = some (.int .u64 x2) ∧ W.cell? ⟨w.heap.size, 3, none⟩ = some (.int .u64 x3)) (go_simp) (first
    | (go_at_call 25; refine (wByte_nil _ _).mono ?_; rintro e w' ⟨rfl, hb⟩; obtain ⟨m1, g1, d1, hm1, rfl⟩ := pad_of (bt (bd (Below.refl _ _)) hb); clear hb; (try simp [pad_size] at hm1); have st1_w := sz1 (n := w.heap.size) (m := m1) (by omega))
    | (go_at_call 27; refine (wFlag_nil _).mono ?_; rintro e w' ⟨rfl, hb⟩; obtain ⟨m2, g2, d2, hm2, rfl⟩ := pad_of (bt (bp (Below.refl _ _) (by first | omega | (simp [pad_size]; omega)) _ _) hb); clear hb; (try simp [pad_size] at hm2); have st2_w := sz1 (n := w.heap.size) (m := m2) (by omega); clear st1_w hm1)
    | (go_at_call 28; refine (wShort_nil 1 (by omega) _).mono ?_; rintro e w' ⟨rfl, hb⟩; obtain ⟨m3, g3, d3, hm3, rfl⟩ := pad_of (bt (bp (Below.refl _ _) (by first | omega | (simp [pad_size]; omega)) _ _) hb); clear hb; (try simp [pad_size] at hm3); have st3_w := sz1 (n := w.heap.size) (m := m3) (by omega); clear st2_w hm2)
    | (go_at_call 29; refine (wLong_nil _).mono ?_; rintro e w' ⟨rfl, hb⟩; obtain ⟨m4, g4, d4, hm4, rfl⟩ := pad_of (bt (bp (Below.refl _ _) (by first | omega | (simp [pad_size]; omega)) _ _) hb); clear hb; (try simp [pad_size] at hm4); have st4_w := sz1 (n := w.heap.size) (m := m4) (by omega); clear st3_w hm3)
    | (go_at_call 30; refine (wNum_nil _ _ _ _ hx _).mono ?_; rintro e w' ⟨rfl, hb⟩; obtain ⟨m5, g5, d5, hm5, rfl⟩ := pad_of (bt (bp (Below.refl _ _) (by first | omega | (simp [pad_size]; omega)) _ _) hb); clear hb; (try simp [pad_size] at hm5); have st5_w := sz1 (n := w.heap.size) (m := m5) (by omega); clear st4_w hm4)
    | (go_at_call 21; refine (wCoins_nil _).mono ?_; rintro e w' ⟨rfl, hb⟩; obtain ⟨m6, g6, d6, hm6, rfl⟩ := pad_of (bt (bp (Below.refl _ _) (by first | omega | (simp [pad_size]; omega)) _ _) hb); clear hb; (try simp [pad_size] at hm6); have st6_w := sz1 (n := w.heap.size) (m := m6) (by omega); clear st5_w hm5))
  go_wp2_with (first
    | (go_at_call 23; refine (rFail_nil _).mono ?_; rintro e w' ⟨rfl, rfl⟩)
    | (go_at_call 11; refine (lays_any _).mono ?_; rintro e w' ⟨rfl, hb⟩; obtain ⟨m7, g7, d7, hm7, rfl⟩ := pad_of (bt (bp (Below.refl _ _) (by first | omega | (simp [pad_size]; omega)) _ _) hb); clear hb; (try simp [pad_size] at hm7); have st7_w := sz1 (n := w.heap.size) (m := m7) (by omega); clear st6_w hm6)
    | (go_at_call 13; refine (wDone_nil _).mono ?_; rintro e w' ⟨rfl, rfl⟩)
    | (go_at_call 17; refine (rBad_nil _).mono ?_; rintro e w' ⟨rfl, rfl⟩)
    | (go_at_call 18; refine (rEnd_nil _).mono ?_; rintro e w' ⟨rfl, rfl⟩)
    | (go_at_call 22; refine (rLeft_nil _).mono ?_; rintro e w' ⟨rfl, rfl⟩)
    | (go_at_call 26; refine (rByte_nil _).mono ?_; rintro e w' ⟨rfl, rfl⟩)
    | (go_at_call 31; refine (rFlag_nil _).mono ?_; rintro e w' ⟨rfl, rfl⟩)
    | (go_at_call 32; refine (rShort_nil _).mono ?_; rintro e w' ⟨rfl, rfl⟩)
    | (go_at_call 33; refine (rLong_nil _).mono ?_; rintro e w' ⟨rfl, rfl⟩)
    | (go_at_call 34; refine (rNum_nil _).mono ?_; rintro e w' ⟨rfl, hb⟩; obtain ⟨m8, g8, d8, hm8, rfl⟩ := pad_of (bt (bp (Below.refl _ _) (by first | omega | (simp [pad_size]; omega)) _ _) hb); clear hb; (try simp [pad_size] at hm8); have st8_w := sz1 (n := w.heap.size) (m := m8) (by omega); clear st7_w hm7)
    | (go_at_call 20; refine (rCoins_nil _).mono ?_; rintro e w' ⟨rfl, hb⟩; obtain ⟨m9, g9, d9, hm9, rfl⟩ := pad_of (bt (bp (Below.refl _ _) (by first | omega | (simp [pad_size]; omega)) _ _) hb); clear hb; (try simp [pad_size] at hm9); have st9_w := sz1 (n := w.heap.size) (m := m9) (by omega); clear st8_w hm8))
  all_goals go_ret
  all_goals exact ⟨by simp, by (repeat (first | (with_reducible exact Below.refl _ _) | (with_reducible assumption) | (with_reducible apply bd) | (with_reducible apply ba) | (with_reducible refine bp ?_ (by first | omega | (simp [pad_size]; done) | (simp [pad_size]; omega)) _ _) | (with_reducible refine bs ?_ (by first | omega | (simp [pad_size]; done) | (simp [pad_size]; omega)) _) | (with_reducible refine bt ?_ (by assumption))))⟩

theorem codecNil_own : ownKnob Try.prog.godebug = none := by kernel_rfl
theorem codecNil_laid : laidOutB Try.prog = true := by kernel_rfl

set_option maxRecDepth 100000 in
theorem codecNil_lifted (os : Os) (started : os.Started) (H : Type) (enc : TypeId × Value → H) :
    ReturnsInHanded {} Try.checked os 9 .any (Rows.codecNilSpec.pre6 enc Try.prog Try.f9 Rows.codecNilRow.domain false) (Rows.codecNilSpec.post enc Try.prog Try.f9 false true false false) := by
  refine returnsInHanded_of_change (C := Try.checked) codecNil_own started (by kernel_rfl) Try.func9
    (ChangeSpec.witness6 (enc := enc) (C := Try.checked) false ⟨#[], #[.agg #[.int .u64 0, .int .u64 0, .int .u64 0, .int .u64 0], .int .u8 0], []⟩ 8 (by kernel_rfl) (by kernel_rfl) (by kernel_rfl) (by kernel_rfl)) ?_
  intro W base args ds gs before hval0 hW hcnd _
  have hval : ∀ (j : Nat) t v, Try.f9.params[j]? = some t → args[j]? = some v → Value.okWide Try.prog W .any base t v := hval0
  have hW' := hW
  obtain ⟨p, q, hA0, hV, rfl, hfz, hnd⟩ := hW
  have hA : DataW.TrodAll enc Try.prog W 0 (fun _ => true) true Try.f9.params.toList args.toList ds p := hA0
  rw [Try.params9] at hA hval
  obtain ⟨v0, vs0, d0, ds0, p0, q0, hargs0, rfl, rfl, h0, r0⟩ := trodAll_cons hA
  obtain ⟨v1, vs1, d1, ds1, p1, q1, hargs1, rfl, rfl, h1, r1⟩ := trodAll_cons r0
  obtain ⟨rfl, rfl, rfl⟩ := trodAll_nil r1
  obtain rfl : args = #[v0, v1] := by cases args; simp_all
  obtain ⟨rfl, rfl⟩ := trodVars_none hV
  have k0 := h0
  have lt0 : ∀ x ∈ p0, x.block < W.heap.size := by obtain ⟨m, hm⟩ := k0; exact DataW.trod_lt m _ _ _ hm
  have k1 := h1
  have lt1 : ∀ x ∈ p1, x.block < W.heap.size := by obtain ⟨m, hm⟩ := k1; exact DataW.trod_lt m _ _ _ hm
  obtain ⟨x0, x1, x2, x3, rfl, hx⟩ := num_in (hval 0 33 v0 rfl rfl) h0
  obtain ⟨n1, rfl⟩ := okWide_int Try.underlying5 (hval 1 5 v1 rfl rfl)
  obtain ⟨fuel1, hf1⟩ := h1
  simp only [Value.cells] at hf1
  clear hA0 hval0
  have walk : Calls Try.prog 9 _ W fun e w' => e = .returned (.bool true) ∧ Below W.heap.size W w' := codecNil_any x0 x1 x2 x3 n1 hx (u8_in hf1) W
  refine walk.mono fun e W' ⟨he, bel⟩ => ?_
  subst he
  exact ⟨_, rfl, _, _, _, [], _, [], hW', trodAll_mk1 (shut_bool Try.underlying4 _), trodAll_cons_mk (Below.trod codecNil_laid (by kernel_rfl) (of_decide_eq_true (by kernel_rfl)) k0 bel lt0) (trodAll_cons_mk (Below.trod codecNil_laid (by kernel_rfl) (of_decide_eq_true (by kernel_rfl)) k1 bel lt1) (trodAll_mk0)), rfl, bel.frame _, fun h => by cases h⟩

theorem codecNil_holds : Rows.CodecNilSaid :=
  OpenClaim.holds_of_wide 9 Try.f9 rfl rfl rfl rfl rfl rfl rfl ⟨rfl, rfl, rfl, rfl, rfl⟩ rfl rfl rfl rfl rfl (by kernel_rfl) Try.func9 (by kernel_rfl)
    (of_decide_eq_true (by kernel_rfl)) (by unfold Func.isWrapper; first | (rw [if_pos (by decide +kernel)]; kernel_rfl) | (rw [if_neg (by decide +kernel)]; exact ⟨rfl, rfl⟩))
    (fun os started H enc _ => codecNil_lifted os started H enc)
#print axioms codecNil_holds
end Go.Proofs.Ytdnddkkpcbaepaa
