
/- For every list of bytes jointurelaw01.NumReads returns true and writes nothing that was there: the number of which they are the bytes, or none. No condition. -/
import Derived.Test.YtkeimndlcagbbaaB8
import Derived.Test.YtkeimndlcagbbaaV2
set_option linter.unusedSimpArgs false
set_option linter.unusedVariables false
namespace Go.Proofs.Ytkeimndlcagbbaa
open Go.ChangeShapes Go.WideShapes Go.ChangeAt Go.RowKit

set_option maxHeartbeats 1000000 in
theorem numReads_long (a : Option Addr) (len cap : Nat) (h : 300 < len) (hm : len ≤ 9223372036854775807) (w : World) :
    Calls Try.prog 11 #[.slice a len cap] w fun e w' => e = .returned (.bool true) ∧ Below w.heap.size w w' := by
  go_enter Try.func11, Try.ntmps11
  go_wp2_with (go_at_call 18; refine (says_halves.at _).mono ?_; rintro e w1 ⟨rfl, hb⟩)
  go_ret
  exact ⟨rfl, hb⟩

set_option maxHeartbeats 4000000 in
theorem numReads_bad (a : Option Addr) (len cap : Nat) (h : len ≤ 300) (q : List Int) (hb : 32 < q.length ∨ q[0]? = some 0) (w : World) (hq : IsBytes w (.slice a len cap) q) :
    Calls Try.prog 11 #[.slice a len cap] w fun e w' => e = .returned (.bool true) ∧ Below w.heap.size w w' := by
  have hpad := pads
  have heq := eq_num
  have hes := eq4_self
  have h' : ¬ (300 : Int) < (len : Int) := by omega
  go_enter Try.func11, Try.ntmps11
  go_wp2_with (first
    | (go_at_call 30; with_reducible refine (read_bad hb _ hq).mono ?_; rintro e w' ⟨rfl, hb⟩; have hq2 := (hq.below hb).below (ba (Below.refl _ _) (.cells #[.int .u64 0, .int .u64 0, .int .u64 0, .int .u64 0] 24)); obtain ⟨m1, g1, d1, hm1, rfl⟩ := pad_of hb; clear hb; (try simp [pad_size] at hm1); have st1_w : w.heap.size ≤ m1 := (by omega))
    | (go_at_call 33; with_reducible refine (readR_bad hb _ hq2).mono ?_; rintro e w' ⟨rfl, hb⟩; obtain ⟨m2, g2, d2, hm2, rfl⟩ := pad_of hb; clear hb; (try simp [pad_size] at hm2); have st2_w : w.heap.size ≤ m2 := (by omega); have st2_1 := sz1 (n := m1) (m := m2) (by omega))
    | (go_at_call 18; with_reducible refine (says_halves.at _).mono ?_; rintro e w' ⟨rfl, hb⟩; obtain ⟨m3, g3, d3, hm3, rfl⟩ := pad_of hb; clear hb; (try simp [pad_size] at hm3); have st3_w : w.heap.size ≤ m3 := (by omega); have st3_1 := sz1 (n := m1) (m := m3) (by omega); have st3_2 := sz1 (n := m2) (m := m3) (by omega)))
  all_goals go_ret
  all_goals exact ⟨rfl, by (repeat (first | (with_reducible exact Below.refl _ _) | (with_reducible assumption) | (with_reducible apply bd) | (with_reducible apply ba) | (with_reducible refine bp ?_ (by first | omega | (simp [pad_size]; done) | (simp [pad_size]; omega)) _ _) | (with_reducible refine bs ?_ (by first | omega | (simp [pad_size]; done) | (simp [pad_size]; omega)) _) | (with_reducible refine bt ?_ (by assumption))))⟩

set_option maxHeartbeats 4000000 in
theorem numReads_good (a : Option Addr) (len cap : Nat) (h : len ≤ 300) (q : List Int) (hg : Good q) (hl : q.length ≤ 32) (z0 z1 z2 z3 : Int) (hz : Lim z0 z1 z2 z3) (hv : Hid (val z0 z1 z2 z3 = rd q)) (hd : Hid (byL (val z0 z1 z2 z3) 32 = q)) (w : World) (hq : IsBytes w (.slice a len cap) q) :
    Calls Try.prog 11 #[.slice a len cap] w fun e w' => e = .returned (.bool true) ∧ Below w.heap.size w w' := by
  have hpad := pads
  have heq := eq_num
  have hes := eq4_self
  have h' : ¬ (300 : Int) < (len : Int) := by omega
  go_enter Try.func11, Try.ntmps11
  go_wp2_with (first
    | (go_at_call 30; with_reducible refine (read_good hg hl hz hv.out _ hq).mono ?_; rintro e w' ⟨rfl, hb⟩; have hq2 := (hq.below hb).below (ba (Below.refl _ _) (.cells #[.int .u64 z0, .int .u64 z1, .int .u64 z2, .int .u64 z3] 24)); obtain ⟨m1, g1, d1, hm1, rfl⟩ := pad_of hb; clear hb; (try simp [pad_size] at hm1); have st1_w : w.heap.size ≤ m1 := (by omega))
    | (go_at_call 33; with_reducible refine (readR_good hg hl hz hv.out _ hq2).mono ?_; rintro e w' ⟨rfl, hb⟩; have hq3 := (hq2.below hb).below (ba (Below.refl _ _) (.cells #[.int .u64 z0, .int .u64 z1, .int .u64 z2, .int .u64 z3] 24)); obtain ⟨m2, g2, d2, hm2, rfl⟩ := pad_of hb; clear hb; (try simp [pad_size] at hm2); have st2_w : w.heap.size ≤ m2 := (by omega); have st2_1 := sz1 (n := m1) (m := m2) (by omega))
    | (go_at_call 18; with_reducible refine (says_halves.at _).mono ?_; rintro e w' ⟨rfl, hb⟩; have hq4 := hq3.below hb; obtain ⟨m3, g3, d3, hm3, rfl⟩ := pad_of hb; clear hb; (try simp [pad_size] at hm3); have st3_w : w.heap.size ≤ m3 := (by omega); have st3_1 := sz1 (n := m1) (m := m3) (by omega); have st3_2 := sz1 (n := m2) (m := m3) (by omega))
    | (go_at_call 29; with_reducible refine (bytes_can _ _ _ _ hz _).mono ?_; rintro e w' ⟨u, rfl, hQ, hb⟩; have hq5 := hq4.below hb; rw [hd.out] at hQ; obtain ⟨m4, g4, d4, hm4, rfl⟩ := pad_of (bt (bp (Below.refl _ _) (by first | omega | (simp [pad_size]; omega)) _ _) hb); clear hb; (try simp [pad_size] at hm4); have st4_w : w.heap.size ≤ m4 := (by omega); have st4_1 := sz1 (n := m1) (m := m4) (by omega); have st4_2 := sz1 (n := m2) (m := m4) (by omega))
    | (go_at_call 31; with_reducible refine (same_any _ hQ hq5).mono ?_; rintro e w' ⟨rfl, hb⟩; obtain ⟨m5, g5, d5, hm5, rfl⟩ := pad_of (bt (bp (Below.refl _ _) (by first | omega | (simp [pad_size]; omega)) _ _) hb); clear hb; (try simp [pad_size] at hm5); have st5_w : w.heap.size ≤ m5 := (by omega); have st5_1 := sz1 (n := m1) (m := m5) (by omega); have st5_2 := sz1 (n := m2) (m := m5) (by omega)))
  all_goals go_ret
  all_goals exact ⟨by simp, by (repeat (first | (with_reducible exact Below.refl _ _) | (with_reducible assumption) | (with_reducible apply bd) | (with_reducible apply ba) | (with_reducible refine bp ?_ (by first | omega | (simp [pad_size]; done) | (simp [pad_size]; omega)) _ _) | (with_reducible refine bs ?_ (by first | omega | (simp [pad_size]; done) | (simp [pad_size]; omega)) _) | (with_reducible refine bt ?_ (by assumption))))⟩

theorem numReads_any {w : World} (a : Option Addr) (len cap : Nat) (hm : len ≤ 9223372036854775807) (ho : len ≤ 1048576 → ∃ l : List Int, IsBytes w (.slice a len cap) l ∧ l.length = len ∧ ∀ b ∈ l, 0 ≤ b ∧ b ≤ 255) :
    Calls Try.prog 11 #[.slice a len cap] w fun e w' => e = .returned (.bool true) ∧ Below w.heap.size w w' := by
  by_cases h : 300 < len
  · exact numReads_long a len cap h hm w
  · obtain ⟨q, hq, hl, hb⟩ := ho (by omega)
    by_cases hc : 32 < q.length ∨ q[0]? = some 0
    · exact numReads_bad a len cap (by omega) q hc w hq
    · have hg : Good q := by
        refine ⟨hb, fun b hh => ?_⟩
        rw [List.head?_eq_getElem?] at hh
        have hm : b ∈ q := List.mem_of_getElem? hh
        have := hb b hm
        by_cases e : b = 0
        · rw [e] at hh; exact absurd (.inr hh) hc
        · omega
      have hl32 : q.length ≤ 32 := by
        rcases Nat.lt_or_ge 32 q.length with h | h
        · exact absurd (.inl h) hc
        · exact h
      have e : (256 : Int) ^ 32 = 115792089237316195423570985008687907853269984665640564039457584007913129639936 := by decide
      have hr : rd (byL (rd q) 32) = rd q := by rw [byL_rd hg hl32]
      have h1 := rd_nonneg q.length q rfl hg.1
      have h2 : (256 : Int) ^ q.length ≤ 256 ^ 32 := by
        obtain ⟨d, hd⟩ := Nat.exists_eq_add_of_le hl32
        rw [hd, Int.pow_add]
        have h1 : (0 : Int) < 256 ^ q.length := Int.pow_pos (by decide)
        have h2 : (0 : Int) < 256 ^ d := Int.pow_pos (by decide)
        have h3 : 256 ^ q.length * 1 ≤ (256 : Int) ^ q.length * 256 ^ d := Int.mul_le_mul_of_nonneg_left (by omega) (by omega)
        omega
      obtain ⟨z0, z1, z2, z3, hz, hv⟩ := limbs_of h1.1 (by omega)
      exact numReads_good a len cap (by omega) q hg hl32 z0 z1 z2 z3 hz hv (by unfold Hid; rw [hv]; exact byL_rd hg hl32) w hq

theorem numReads_own : ownKnob Try.prog.godebug = none := by kernel_rfl
theorem numReads_laid : laidOutB Try.prog = true := by kernel_rfl

set_option maxRecDepth 100000 in
theorem numReads_lifted (os : Os) (started : os.Started) (H : Type) (enc : TypeId × Value → H) :
    ReturnsInHanded {} Try.checked os 11 .any (Rows.numReadsSpec.pre6 enc Try.prog Try.f11 Rows.numReadsRow.domain false) (Rows.numReadsSpec.post enc Try.prog Try.f11 false true false false) := by
  refine returnsInHanded_of_change (C := Try.checked) numReads_own started (by kernel_rfl) Try.func11
    (ChangeSpec.witness6 (enc := enc) (C := Try.checked) false ⟨#[], #[.slice none 0 0], []⟩ 8 (by kernel_rfl) (by kernel_rfl) (by kernel_rfl) (by kernel_rfl)) ?_
  intro W base args ds gs before hval0 hW hcnd _
  have hval : ∀ (j : Nat) t v, Try.f11.params[j]? = some t → args[j]? = some v → Value.okWide Try.prog W .any base t v := hval0
  have hW' := hW
  obtain ⟨p, q, hA0, hV, rfl, hfz, hnd⟩ := hW
  have hA : DataW.TrodAll enc Try.prog W 0 (fun _ => true) true Try.f11.params.toList args.toList ds p := hA0
  rw [Try.params11] at hA hval
  obtain ⟨v0, vs0, d0, ds0, p0, q0, hargs0, rfl, rfl, h0, r0⟩ := trodAll_cons hA
  obtain ⟨rfl, rfl, rfl⟩ := trodAll_nil r0
  obtain rfl : args = #[v0] := by cases args; simp_all
  obtain ⟨rfl, rfl⟩ := trodVars_none hV
  have k0 := h0
  have lt0 : ∀ x ∈ p0, x.block < W.heap.size := by obtain ⟨m, hm⟩ := k0; exact DataW.trod_lt m _ _ _ hm
  obtain ⟨a0, len0, cap0, rfl⟩ := okWide_slice Try.underlying40 (hval 0 40 v0 rfl rfl)
  obtain ⟨fuel0, hf0⟩ := h0
  simp only [Value.cells] at hf0
  clear hA0 hval0
  have walk : Calls Try.prog 11 _ W fun e w' => e = .returned (.bool true) ∧ Below W.heap.size W w' := numReads_any a0 len0 cap0 (slice_len Try.underlying40 hf0) (fun hl => bytes_open hf0 hl)
  refine walk.mono fun e W' ⟨he, bel⟩ => ?_
  subst he
  exact ⟨_, rfl, _, _, _, [], _, [], hW', trodAll_mk1 (shut_bool Try.underlying4 _), trodAll_cons_mk (Below.trod numReads_laid (by kernel_rfl) (of_decide_eq_true (by kernel_rfl)) k0 bel lt0) (trodAll_mk0), rfl, bel.frame _, fun h => by cases h⟩

theorem numReads_holds : Rows.NumReadsSaid :=
  OpenClaim.holds_of_wide 11 Try.f11 rfl rfl rfl rfl rfl rfl rfl ⟨rfl, rfl, rfl, rfl, rfl⟩ rfl rfl rfl rfl rfl (by kernel_rfl) Try.func11 (by kernel_rfl)
    (of_decide_eq_true (by kernel_rfl)) (by unfold Func.isWrapper; first | (rw [if_pos (by decide +kernel)]; kernel_rfl) | (rw [if_neg (by decide +kernel)]; exact ⟨rfl, rfl⟩))
    (fun os started H enc _ => numReads_lifted os started H enc)
#print axioms numReads_holds
end Go.Proofs.Ytkeimndlcagbbaa
