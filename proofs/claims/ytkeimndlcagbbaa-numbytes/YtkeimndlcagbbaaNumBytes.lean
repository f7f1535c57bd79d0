
/- For every number jointurelaw01.NumBytes returns true and writes nothing that was there: its bytes are the document's, the highest first, none too many, and read they are the number. No condition. -/
import Derived.Test.YtkeimndlcagbbaaB8
set_option linter.unusedSimpArgs false
set_option linter.unusedVariables false
namespace Go.Proofs.Ytkeimndlcagbbaa
open Go.ChangeShapes Go.WideShapes Go.ChangeAt Go.RowKit

set_option maxRecDepth 100000 in
set_option maxHeartbeats 8000000 in
theorem numBytes_any (x0 x1 x2 x3 : Int) (hx : Lim x0 x1 x2 x3) (w : World) :
    Calls Try.prog 10 #[.agg #[.int .u64 x0, .int .u64 x1, .int .u64 x2, .int .u64 x3]] w fun e w' => e = .returned (.bool true) ∧ Below w.heap.size w w' := by
  have hpad := pads
  have heq := eq_num
  have hes := eq4_self
  have hgood : Good (byL (val x0 x1 x2 x3) 32) := byL_good _ _
  have hlen : (byL (val x0 x1 x2 x3) 32).length ≤ 32 := byL_len _ _
  have hrd : val x0 x1 x2 x3 = rd (byL (val x0 x1 x2 x3) 32) := (rd_byL32 (val_lo hx) (val_hi hx)).symm
  have hH : Hid (val x0 x1 x2 x3 = rd (byL (val x0 x1 x2 x3) 32)) := hrd
  clear hrd
  go_enter Try.func10, Try.ntmps10
  go_wp2_with (first
    | (go_at_call 29; with_reducible refine (bytes_two _ _ _ _ hx _).mono ?_; rintro e w1 ⟨v, rfl, hP, hv, hb⟩; obtain ⟨m1, g1, d1, hm1, rfl⟩ := pad_of hb; clear hb; (try simp [pad_size] at hm1); have st1_w := sz1 (n := w.heap.size) (m := m1) (by omega); rcases hv with ⟨a, cap, rfl⟩ | ⟨g, off, cap, n, b, rfl, hn, hg, hc, hb0⟩)
    | (go_at_call 30; with_reducible refine (read_good hgood hlen hx hH.out _ hP).mono ?_; rintro e w' ⟨rfl, hb⟩; obtain ⟨m2, g2, d2, hm2, rfl⟩ := pad_of hb; clear hb; (try simp [pad_size] at hm2); have st2_w := sz1 (n := w.heap.size) (m := m2) (by omega); have st2_1 : m1 ≤ m2 := (by omega); try (have hg2 : g < m1 := (by simpa [pad_size] using hg)); try (have hg3 : g < m2 := (by omega)))
    | (go_at_call 18; with_reducible refine (says_halves.at _).mono ?_; rintro e w' ⟨rfl, hb⟩; obtain ⟨m3, g3, d3, hm3, rfl⟩ := pad_of hb; clear hb; (try simp [pad_size] at hm3); have st3_w := sz1 (n := w.heap.size) (m := m3) (by omega); have st3_1 : m1 ≤ m3 := (by omega); have st3_2 := sz1 (n := m2) (m := m3) (by omega); try (have hg4 : g < m3 := (by omega)); try (have hg5 : g < m2 + 1 := (by omega)))
    | (go_at_call 32; with_reducible refine (bytesR_can _ _ _ _ hx _).mono ?_; rintro e w' ⟨u, rfl, hQ, hb⟩; have hP2 := hP.below (bt (bp (ba (bp (Below.refl _ _) (by simp [pad_size]; omega) _ _) _) (by simp [pad_size]; omega) _ _) hb); obtain ⟨m4, g4, d4, hm4, rfl⟩ := pad_of (bt (bp (Below.refl _ _) (by first | omega | (simp [pad_size]; omega)) _ _) hb); clear hb; (try simp [pad_size] at hm4); have st4_w := sz1 (n := w.heap.size) (m := m4) (by omega); have st4_1 : m1 ≤ m4 := (by omega); have st4_2 := sz1 (n := m2) (m := m4) (by omega); try (have hg6 : g < m4 := (by omega)))
    | (go_at_call 31; with_reducible refine (same_any _ hP2 hQ).mono ?_; rintro e w' ⟨rfl, hb⟩; obtain ⟨m5, g5, d5, hm5, rfl⟩ := pad_of (bt (bp (Below.refl _ _) (by first | omega | (simp [pad_size]; omega)) _ _) hb); clear hb; (try simp [pad_size] at hm5); have st5_w := sz1 (n := w.heap.size) (m := m5) (by omega); have st5_1 : m1 ≤ m5 := (by omega); have st5_2 := sz1 (n := m2) (m := m5) (by omega); try (have hg7 : g < m5 := (by omega))))
  all_goals go_ret
  all_goals exact ⟨by simp, by (repeat (first | (with_reducible exact Below.refl _ _) | (with_reducible assumption) | (with_reducible apply bd) | (with_reducible apply ba) | (with_reducible refine bp ?_ (by first | omega | (simp [pad_size]; done) | (simp [pad_size]; omega)) _ _) | (with_reducible refine bs ?_ (by first | omega | (simp [pad_size]; done) | (simp [pad_size]; omega)) _) | (with_reducible refine bt ?_ (by assumption))))⟩

theorem numBytes_own : ownKnob Try.prog.godebug = none := by kernel_rfl
theorem numBytes_laid : laidOutB Try.prog = true := by kernel_rfl

set_option maxRecDepth 100000 in
theorem numBytes_lifted (os : Os) (started : os.Started) (H : Type) (enc : TypeId × Value → H) :
    ReturnsInHanded {} Try.checked os 10 .any (Rows.numBytesSpec.pre6 enc Try.prog Try.f10 Rows.numBytesRow.domain false) (Rows.numBytesSpec.post enc Try.prog Try.f10 false true false false) := by
  refine returnsInHanded_of_change (C := Try.checked) numBytes_own started (by kernel_rfl) Try.func10
    (ChangeSpec.witness6 (enc := enc) (C := Try.checked) false ⟨#[], #[.agg #[.int .u64 0, .int .u64 0, .int .u64 0, .int .u64 0]], []⟩ 8 (by kernel_rfl) (by kernel_rfl) (by kernel_rfl) (by kernel_rfl)) ?_
  intro W base args ds gs before hval0 hW hcnd _
  have hval : ∀ (j : Nat) t v, Try.f10.params[j]? = some t → args[j]? = some v → Value.okWide Try.prog W .any base t v := hval0
  have hW' := hW
  obtain ⟨p, q, hA0, hV, rfl, hfz, hnd⟩ := hW
  have hA : DataW.TrodAll enc Try.prog W 0 (fun _ => true) true Try.f10.params.toList args.toList ds p := hA0
  rw [Try.params10] at hA hval
  obtain ⟨v0, vs0, d0, ds0, p0, q0, hargs0, rfl, rfl, h0, r0⟩ := trodAll_cons hA
  obtain ⟨rfl, rfl, rfl⟩ := trodAll_nil r0
  obtain rfl : args = #[v0] := by cases args; simp_all
  obtain ⟨rfl, rfl⟩ := trodVars_none hV
  have k0 := h0
  have lt0 : ∀ x ∈ p0, x.block < W.heap.size := by obtain ⟨m, hm⟩ := k0; exact DataW.trod_lt m _ _ _ hm
  obtain ⟨x0, x1, x2, x3, rfl, hx⟩ := num_in (hval 0 24 v0 rfl rfl) h0
  clear hA0 hval0
  have walk : Calls Try.prog 10 _ W fun e w' => e = .returned (.bool true) ∧ Below W.heap.size W w' := numBytes_any x0 x1 x2 x3 hx W
  refine walk.mono fun e W' ⟨he, bel⟩ => ?_
  subst he
  exact ⟨_, rfl, _, _, _, [], _, [], hW', trodAll_mk1 (shut_bool Try.underlying4 _), trodAll_cons_mk (Below.trod numBytes_laid (by kernel_rfl) (of_decide_eq_true (by kernel_rfl)) k0 bel lt0) (trodAll_mk0), rfl, bel.frame _, fun h => by cases h⟩

theorem numBytes_holds : Rows.NumBytesSaid :=
  OpenClaim.holds_of_wide 10 Try.f10 rfl rfl rfl rfl rfl rfl rfl ⟨rfl, rfl, rfl, rfl, rfl⟩ rfl rfl rfl rfl rfl (by kernel_rfl) Try.func10 (by kernel_rfl)
    (of_decide_eq_true (by kernel_rfl)) (by unfold Func.isWrapper; first | (rw [if_pos (by decide +kernel)]; kernel_rfl) | (rw [if_neg (by decide +kernel)]; exact ⟨rfl, rfl⟩))
    (fun os started H enc _ => numBytes_lifted os started H enc)
#print axioms numBytes_holds
end Go.Proofs.Ytkeimndlcagbbaa
