
/- For every list, denomination and number jointurelaw02.CoinsAmounts returns true and writes nothing that was there: how much there is of each denomination, and a coin alone, are the document's. No condition. -/
import Derived.Test.YtcpnmdpnpphfnaaC6
set_option linter.unusedSimpArgs false
set_option linter.unusedVariables false
namespace Go.Proofs.Ytcpnmdpnpphfnaa
open Go.ChangeShapes Go.WideShapes Go.ChangeAt Go.RowKit

set_option maxHeartbeats 1000000 in
theorem coinsAmounts_long (a : Option Addr) (len cap : Nat) (d x0 x1 x2 x3 : Int) (h : 100 < len) (hm : len ≤ 9223372036854775807) (w : World) :
    Calls Try.prog 4 #[.slice a len cap, .int .u8 d, .agg #[.int .u64 x0, .int .u64 x1, .int .u64 x2, .int .u64 x3]] w fun e w' => e = .returned (.bool true) ∧ Below w.heap.size w w' := by
  have h' : (100 : Int) < (len : Int) := by omega
  go_enter Try.func4, Try.ntmps4
  go_wp2_with (go_at_call 10; refine (little_any _).mono ?_; rintro e w1 ⟨rfl, hb⟩)
  go_ret
  exact ⟨rfl, bt (by (repeat (first | (with_reducible exact Below.refl _ _) | (with_reducible assumption) | (with_reducible apply bd) | (with_reducible apply ba) | (with_reducible refine bp ?_ (by first | omega | (simp [pad_size]; done) | (simp [pad_size]; omega)) _ _) | (with_reducible refine bs ?_ (by first | omega | (simp [pad_size]; done) | (simp [pad_size]; omega)) _) | (with_reducible refine bt ?_ (by assumption))))) hb⟩

set_option maxRecDepth 100000 in
set_option maxHeartbeats 8000000 in
theorem coinsAmounts_short (a : Option Addr) (len cap : Nat) (d x0 x1 x2 x3 : Int) (h : len ≤ 100) (hd : 0 ≤ d ∧ d ≤ 255) (hx : Lim x0 x1 x2 x3) (l : List Cn) (hwf : ∀ y ∈ l, CnWf y) (w : World) (hl : IsCoins w (.slice a len cap) l) :
    Calls Try.prog 4 #[.slice a len cap, .int .u8 d, .agg #[.int .u64 x0, .int .u64 x1, .int .u64 x2, .int .u64 x3]] w fun e w' => e = .returned (.bool true) ∧ Below w.heap.size w w' := by
  have hpad := pads
  have heq := eq_num
  have hes := eq4_self
  have h' : ¬ (100 : Int) < (len : Int) := by omega
  have hp : Purse (ofP l) := purse_of l (fun y hy => (hwf y hy).2)
  have hl1 : IsCoins (w.alloc (.cells #[.int .u64 x0, .int .u64 x1, .int .u64 x2, .int .u64 x3] 28)) (.slice a len cap) l := hl.below (ba (Below.refl _ _) _)
  go_enter Try.func4, Try.ntmps4
  go_upto_region 4 with (go_at_call 13; refine (ofC_any _ hl1 hwf).mono ?_; rintro e w1 ⟨u, rfl, hu, hb⟩; obtain ⟨m1, g1, d1, hm1, rfl⟩ := pad_of hb; clear hb; (try simp [pad_size] at hm1); have st1_w := sz1 (n := w.heap.size) (m := m1) (by omega))
  have hu0 := hu.dr
  go_region_held2 (fun W => W.cell? ⟨w.heap.size, 0, none⟩ = some (.int .u64 x0) ∧ W.cell? ⟨w.heap.size, 1, none⟩ = some (.int .u64 x1) ∧ W.cell? ⟨w.heap.size, 2, none⟩ = some (.int .u64 x2) ∧ W.cell? ⟨w.heap.size, 3, none⟩ = some (.int .u64 x3)) (go_simp) (first
    | (go_at_call 10; refine (little_any _).mono ?_; rintro e w' ⟨rfl, hb⟩; have hu1 := hu0.below hb; obtain ⟨m2, g2, d2, hm2, rfl⟩ := pad_of (bt (bp (Below.refl _ _) (by first | omega | (simp [pad_size]; omega)) _ _) hb); clear hb; (try simp [pad_size] at hm2); have st2_w := sz1 (n := w.heap.size) (m := m2) (by omega); clear st1_w hm1)
    | (go_at_call 14; refine (amount_any _ _ hu1).mono ?_; rintro e w' ⟨rfl, hb⟩; have hu2 := hu1.below hb; obtain ⟨m3, g3, d3, hm3, rfl⟩ := pad_of (bt (bp (Below.refl _ _) (by first | omega | (simp [pad_size]; omega)) _ _) hb); clear hb; (try simp [pad_size] at hm3); have st3_w := sz1 (n := w.heap.size) (m := m3) (by omega); clear st2_w hm2)
    | (go_at_call 15; refine (amountR_any hp _ hd _ hu2).mono ?_; rintro e w' ⟨rfl, hb⟩; obtain ⟨m4, g4, d4, hm4, rfl⟩ := pad_of (bt (bp (Below.refl _ _) (by first | omega | (simp [pad_size]; omega)) _ _) hb); clear hb; (try simp [pad_size] at hm4); have st4_w := sz1 (n := w.heap.size) (m := m4) (by omega); clear st3_w hm3)
    | (go_at_call 17; refine (oneC_any _ _ _ _ _ _).mono ?_; rintro e w' ⟨v5, rfl, hv5, hb⟩; obtain ⟨m5, g5, d5, hm5, rfl⟩ := pad_of (bt (bp (Below.refl _ _) (by first | omega | (simp [pad_size]; omega)) _ _) hb); clear hb; (try simp [pad_size] at hm5); have st5_w := sz1 (n := w.heap.size) (m := m5) (by omega); clear st4_w hm4)
    | (go_at_call 17; refine (oneC_any _ _ _ _ _ _).mono ?_; rintro e w' ⟨v8, rfl, hv8, hb⟩; obtain ⟨m8, g8, d8, hm8, rfl⟩ := pad_of (bt (bp (Below.refl _ _) (by first | omega | (simp [pad_size]; omega)) _ _) hb); clear hb; (try simp [pad_size] at hm8); have st8_w := sz1 (n := w.heap.size) (m := m8) (by omega); clear st7_w hm7)
    | (go_at_call 18; refine (oneRC_any _ _ _ _ _ hd hx _).mono ?_; rintro e w' ⟨v6, rfl, hv6, hb⟩; have hv56 := hv5.below hb; obtain ⟨m6, g6, d6, hm6, rfl⟩ := pad_of (bt (bp (Below.refl _ _) (by first | omega | (simp [pad_size]; omega)) _ _) hb); clear hb; (try simp [pad_size] at hm6); have st6_w := sz1 (n := w.heap.size) (m := m6) (by omega); clear st5_w hm5)
    | (go_at_call 16; refine (sameC_any _ hv56 hv6).mono ?_; rintro e w' ⟨rfl, hb⟩; obtain ⟨m7, g7, d7, hm7, rfl⟩ := pad_of (bt (bp (Below.refl _ _) (by first | omega | (simp [pad_size]; omega)) _ _) hb); clear hb; (try simp [pad_size] at hm7); have st7_w := sz1 (n := w.heap.size) (m := m7) (by omega); clear st6_w hm6)
    | (go_at_call 11; refine (rightO_any hd hx _ hv8).mono ?_; rintro e w' ⟨rfl, hb⟩; obtain ⟨m9, g9, d9, hm9, rfl⟩ := pad_of (bt (bp (Below.refl _ _) (by first | omega | (simp [pad_size]; omega)) _ _) hb); clear hb; (try simp [pad_size] at hm9); have st9_w := sz1 (n := w.heap.size) (m := m9) (by omega); clear st8_w hm8))
  all_goals go_wp2
  all_goals go_ret
  all_goals exact ⟨rfl, by (repeat (first | (with_reducible exact Below.refl _ _) | (with_reducible assumption) | (with_reducible apply bd) | (with_reducible apply ba) | (with_reducible refine bp ?_ (by first | omega | (simp [pad_size]; done) | (simp [pad_size]; omega)) _ _) | (with_reducible refine bs ?_ (by first | omega | (simp [pad_size]; done) | (simp [pad_size]; omega)) _) | (with_reducible refine bt ?_ (by assumption))))⟩

theorem coinsAmounts_any {w : World} (a : Option Addr) (len cap : Nat) (d x0 x1 x2 x3 : Int) (hm : len ≤ 9223372036854775807) (ho : len ≤ 1048576 → ∃ l : List Cn, IsCoins w (.slice a len cap) l ∧ l.length = len ∧ ∀ y ∈ l, CnWf y) (hd : 0 ≤ d ∧ d ≤ 255) (hx : Lim x0 x1 x2 x3) :
    Calls Try.prog 4 #[.slice a len cap, .int .u8 d, .agg #[.int .u64 x0, .int .u64 x1, .int .u64 x2, .int .u64 x3]] w fun e w' => e = .returned (.bool true) ∧ Below w.heap.size w w' := by
  by_cases h : 100 < len
  · exact coinsAmounts_long a len cap d x0 x1 x2 x3 h hm w
  · obtain ⟨l, h1, -, h3⟩ := ho (by omega)
    exact coinsAmounts_short a len cap d x0 x1 x2 x3 (by omega) hd hx l h3 w h1

theorem coinsAmounts_own : ownKnob Try.prog.godebug = none := by kernel_rfl
theorem coinsAmounts_laid : laidOutB Try.prog = true := by kernel_rfl

set_option maxRecDepth 100000 in
theorem coinsAmounts_lifted (os : Os) (started : os.Started) (H : Type) (enc : TypeId × Value → H) :
    ReturnsInHanded {} Try.checked os 4 .any (Rows.coinsAmountsSpec.pre6 enc Try.prog Try.f4 Rows.coinsAmountsRow.domain false) (Rows.coinsAmountsSpec.post enc Try.prog Try.f4 false true false false) := by
  refine returnsInHanded_of_change (C := Try.checked) coinsAmounts_own started (by kernel_rfl) Try.func4
    (ChangeSpec.witness6 (enc := enc) (C := Try.checked) false ⟨#[], #[.slice none 0 0, .int .u8 0, .agg #[.int .u64 0, .int .u64 0, .int .u64 0, .int .u64 0]], []⟩ 8 (by kernel_rfl) (by kernel_rfl) (by kernel_rfl) (by kernel_rfl)) ?_
  intro W base args ds gs before hval0 hW hcnd _
  have hval : ∀ (j : Nat) t v, Try.f4.params[j]? = some t → args[j]? = some v → Value.okWide Try.prog W .any base t v := hval0
  have hW' := hW
  obtain ⟨p, q, hA0, hV, rfl, hfz, hnd⟩ := hW
  have hA : DataW.TrodAll enc Try.prog W 0 (fun _ => true) true Try.f4.params.toList args.toList ds p := hA0
  rw [Try.params4] at hA hval
  obtain ⟨v0, vs0, d0, ds0, p0, q0, hargs0, rfl, rfl, h0, r0⟩ := trodAll_cons hA
  obtain ⟨v1, vs1, d1, ds1, p1, q1, hargs1, rfl, rfl, h1, r1⟩ := trodAll_cons r0
  obtain ⟨v2, vs2, d2, ds2, p2, q2, hargs2, rfl, rfl, h2, r2⟩ := trodAll_cons r1
  obtain ⟨rfl, rfl, rfl⟩ := trodAll_nil r2
  obtain rfl : args = #[v0, v1, v2] := by cases args; simp_all
  obtain ⟨rfl, rfl⟩ := trodVars_none hV
  have k0 := h0
  have lt0 : ∀ x ∈ p0, x.block < W.heap.size := by obtain ⟨m, hm⟩ := k0; exact DataW.trod_lt m _ _ _ hm
  have k1 := h1
  have lt1 : ∀ x ∈ p1, x.block < W.heap.size := by obtain ⟨m, hm⟩ := k1; exact DataW.trod_lt m _ _ _ hm
  have k2 := h2
  have lt2 : ∀ x ∈ p2, x.block < W.heap.size := by obtain ⟨m, hm⟩ := k2; exact DataW.trod_lt m _ _ _ hm
  obtain ⟨a0, len0, cap0, rfl⟩ := okWide_slice Try.underlying25 (hval 0 25 v0 rfl rfl)
  obtain ⟨fuel0, hf0⟩ := h0
  simp only [Value.cells] at hf0
  obtain ⟨n1, rfl⟩ := okWide_int Try.underlying5 (hval 1 5 v1 rfl rfl)
  obtain ⟨fuel1, hf1⟩ := h1
  simp only [Value.cells] at hf1
  obtain ⟨x0, x1, x2, x3, rfl, hx⟩ := num_in (hval 2 28 v2 rfl rfl) h2
  clear hA0 hval0
  have walk : Calls Try.prog 4 _ W fun e w' => e = .returned (.bool true) ∧ Below W.heap.size W w' := coinsAmounts_any a0 len0 cap0 n1 x0 x1 x2 x3 (slice_len' Try.underlying25 hf0) (fun hl => somes_open hf0 hl) (u8_in hf1) hx
  refine walk.mono fun e W' ⟨he, bel⟩ => ?_
  subst he
  exact ⟨_, rfl, _, _, _, [], _, [], hW', trodAll_mk1 (shut_bool Try.underlying4 _), trodAll_cons_mk (Below.trod coinsAmounts_laid (by kernel_rfl) (of_decide_eq_true (by kernel_rfl)) k0 bel lt0) (trodAll_cons_mk (Below.trod coinsAmounts_laid (by kernel_rfl) (of_decide_eq_true (by kernel_rfl)) k1 bel lt1) (trodAll_cons_mk (Below.trod coinsAmounts_laid (by kernel_rfl) (of_decide_eq_true (by kernel_rfl)) k2 bel lt2) (trodAll_mk0))), rfl, bel.frame _, fun h => by cases h⟩

theorem coinsAmounts_holds : Rows.CoinsAmountsSaid :=
  OpenClaim.holds_of_wide 4 Try.f4 rfl rfl rfl rfl rfl rfl rfl ⟨rfl, rfl, rfl, rfl, rfl⟩ rfl rfl rfl rfl rfl (by kernel_rfl) Try.func4 (by kernel_rfl)
    (of_decide_eq_true (by kernel_rfl)) (by unfold Func.isWrapper; first | (rw [if_pos (by decide +kernel)]; kernel_rfl) | (rw [if_neg (by decide +kernel)]; exact ⟨rfl, rfl⟩))
    (fun os started H enc _ => coinsAmounts_lifted os started H enc)
#print axioms coinsAmounts_holds
end Go.Proofs.Ytcpnmdpnpphfnaa
