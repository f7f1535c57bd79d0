
/- For all bytes and all kinds jointurelaw04.CodecReads returns true and writes nothing that was there: any bytes, read as anything, are read as the document reads them, up to the first fault, and behind it nothing. No condition. -/
import Derived.Test.YtoikklbnbgoecaaG14
set_option linter.unusedSimpArgs false
set_option linter.unusedVariables false
namespace Go.Proofs.Ytoikklbnbgoecaa
open Go.ChangeShapes Go.WideShapes Go.ChangeAt Go.RowKit

set_option maxHeartbeats 1000000 in
theorem codecReads_long (a b : Option Addr) (la lb ca cb : Nat) (h : 400 < la ∨ 40 < lb) (hm : la ≤ 9223372036854775807) (hn : lb ≤ 9223372036854775807) (w : World) :
    Calls Try.prog 4 #[.slice a la ca, .slice b lb cb] w fun e w' => e = .returned (.bool true) ∧ Below w.heap.size w w' := by
  by_cases h1 : 400 < la
  · have h' : (400 : Int) < (la : Int) := by omega
    go_enter Try.func4, Try.ntmps4
    go_wp2_with (go_at_call 11; refine (lays_any _).mono ?_; rintro e w1 ⟨rfl, hb⟩)
    go_ret
    exact ⟨rfl, hb⟩
  · have h' : ¬ (400 : Int) < (la : Int) := by omega
    have h'' : (40 : Int) < (lb : Int) := by omega
    go_enter Try.func4, Try.ntmps4
    go_wp2_with (go_at_call 11; refine (lays_any _).mono ?_; rintro e w1 ⟨rfl, hb⟩)
    go_ret
    exact ⟨rfl, hb⟩

theorem cl_len : ∀ (k : Nat) (l : List Cn) (s : Option (List Int)), (cl k l s).1.length ≤ l.length + k
  | 0, l, s => by simp [cl]
  | k + 1, l, none => by simp [cl]
  | k + 1, l, some p => by
    have := cl_len k (l ++ [cnI (byteS (some p)).1 (nS (byteS (some p)).2).1]) (nS (byteS (some p)).2).2
    rw [List.length_append] at this
    simp only [cl, List.length_cons, List.length_nil] at this ⊢
    omega
theorem coinsS_len {s : Option (List Int)} (h : Rng s) : (coinsS s).1.length ≤ 1048576 := by
  have hl := byteS_lim h
  unfold coinsS; split
  · have := cl_len (byteS s).1.toNat [] (byteS s).2
    simp at this
    omega
  · simp

set_option maxRecDepth 10000 in
set_option maxHeartbeats 4000000 in
theorem codecReads_w (a b : Option Addr) (la lb ca cb : Nat) (h1 : la ≤ 400) (h2 : lb ≤ 40) (w : World) (l : List Int) (E : Option Nat) (hS : Src w (.slice a la ca) l) (hB : Byt w E (.slice a la ca) l) (hEl : ∀ d, E = some d → d < w.heap.size) (hl : l.length = la) (hr : ∀ x ∈ l, 0 ≤ x ∧ x ≤ 255)
    (ks : List Int) (F : Option Nat) (hK : Byt w F (.slice b lb cb) ks) (hkl : ks.length = lb) (hkr : ∀ x ∈ ks, 0 ≤ x ∧ x ≤ 255) :
    Calls Try.prog 4 #[.slice a la ca, .slice b lb cb] w fun e w' => e = .returned (.bool true) ∧ Below w.heap.size w w' := by
  have hl1 : ¬ (400 : Int) < (la : Int) := by omega
  have hl2 : ¬ (40 : Int) < (lb : Int) := by omega
  go_enter Try.func4, Try.ntmps4
  go_wp2_with (first
    | (go_at_call 15; refine (read_new (by omega) hr hS).mono ?_; rintro e w1 ⟨rb, D, rfl, hr1, hrb, hD, hDl, hb1⟩; have lr1 := hr1.lt))
  have hI2 : InAt (w1.alloc (.cells #[.slice a la ca, .int .i64 0, .bool false] 43)) w1.heap.size E (some l) := ⟨_, l, 0, false, al_at rfl, (hB.kept (grown_none hb1) (by cases E <;> simp)).kept (World.grownBy_alloc w1 _ none) (by cases E <;> simp), by omega, rfl⟩
  have hr2 := hr1.nn (World.grownBy_alloc w1 (.cells #[.slice a la ca, .int .i64 0, .bool false] 43) none)
  have hB2 := ba hb1 (.cells #[.slice a la ca, .int .i64 0, .bool false] 43)
  go_loopw [7] (fun i W => ∃ (j : Nat) (s : Option (List Int)), j ≤ lb ∧ i = .int .i64 j ∧ RdAt W rb D s ∧ InAt W w1.heap.size E s ∧ Below w.heap.size w W ∧ w1.heap.size < W.heap.size) (fun i _ => lb - (intOf i).toNat)
  case atStart => exact ⟨0, some l, by omega, rfl, hr2, hI2, hB2, by simp⟩
  case round =>
    clear hr2 hI2 hB2
    obtain ⟨j, s, hj, rfl, hR, hI, hBw, hz⟩ := hrel
    have hb1s := hb1.size
    by_cases hlt : j < lb
    · have hKr := hK
      obtain ⟨a', cap', e, k1, k2, k3, k4⟩ := hKr
      simp at e
      obtain ⟨rfl, -, rfl⟩ := e
      obtain ⟨d, off, hd, rfl, k5, k6⟩ := k4.resolve_left (fun e => by subst e; rw [List.length_nil] at hkl; omega)
      have hc := (hBw.cell (p := ⟨d, off + j, none⟩) k5).trans (k6 j (ks[j]'(by omega)) (List.getElem?_eq_getElem (by omega)))
      have hx := hkr (ks[j]'(by omega)) (List.getElem_mem _)
      generalize ks[j]'(by omega) = x at *
      have hlt' : (j : Int) < (lb : Int) := by omega
      clear k6 k3 k4
      have hRd := reads_any (s := s) (s5 := (coinsS s).2) (L := (coinsS s).1) x hx (by omega) hD (by intro e; have := (hDl _ e).2; omega) (by intro e; have := hEl _ e; omega) (by intro e; have := hEl _ e; omega) (fun d hd => by have := (hDl d hd).2; omega) (fun d hd => by have := hEl d hd; omega) hR hI (coinsS_len hR.rng) (rCoins_any s) (inCoins_any s)
      go_wp2_with (go_at_call 16; refine hRd.mono ?_; rintro e w3 ⟨rfl, hR3, hI3, hT3⟩)
      all_goals go_roundw
      case rel => exact ⟨j + 1, _, by omega, by go_num, hR3, hI3, Two.below hBw hT3 hrb (by omega), by have := hT3.size; omega⟩
      case measure => (simp [intOf]; omega)
    · obtain rfl : j = lb := by omega
      go_wp2_with (first
        | (go_at_call 11; refine (lays_any _).mono ?_; rintro e w4 ⟨rfl, hb4⟩; have hR4 := hR.nn (grown_none hb4); have hI4 := hI.nn (grown_none hb4); have hB4 := bt hBw hb4)
        | (go_at_call 18; refine (rEnd_any hR4).mono ?_; rintro e w5 ⟨rfl, rfl⟩)
        | (go_at_call 19; refine (inEnd_any hI4).mono ?_; rintro e w5 ⟨rfl, nn, rfl⟩))
      go_ret
      exact ⟨by simp, below_drewN hB4 nn⟩

theorem codecReads_any {w : World} (a : Option Addr) (la ca : Nat) (b : Option Addr) (lb cb : Nat) (hm : la ≤ 9223372036854775807) (ho : la ≤ 1048576 → ∃ l : List Int, ∃ E : Option Nat, Src w (.slice a la ca) l ∧ Byt w E (.slice a la ca) l ∧ (∀ d, E = some d → d < w.heap.size) ∧ l.length = la ∧ ∀ b ∈ l, 0 ≤ b ∧ b ≤ 255) (hn : lb ≤ 9223372036854775807) (hp : lb ≤ 1048576 → ∃ l : List Int, ∃ E : Option Nat, Src w (.slice b lb cb) l ∧ Byt w E (.slice b lb cb) l ∧ (∀ d, E = some d → d < w.heap.size) ∧ l.length = lb ∧ ∀ b ∈ l, 0 ≤ b ∧ b ≤ 255) :
    Calls Try.prog 4 #[.slice a la ca, .slice b lb cb] w fun e w' => e = .returned (.bool true) ∧ Below w.heap.size w w' := by
  by_cases h : 400 < la ∨ 40 < lb
  · exact codecReads_long a b la lb ca cb h hm hn w
  · obtain ⟨l, E, i1, i2, i3, i4, i5⟩ := ho (by omega)
    obtain ⟨ks, F, j1, j2, j3, j4, j5⟩ := hp (by omega)
    exact codecReads_w a b la lb ca cb (by omega) (by omega) w l E i1 i2 i3 i4 i5 ks F j2 j4 j5

theorem codecReads_own : ownKnob Try.prog.godebug = none := by kernel_rfl
theorem codecReads_laid : laidOutB Try.prog = true := by kernel_rfl

set_option maxRecDepth 100000 in
theorem codecReads_lifted (os : Os) (started : os.Started) (H : Type) (enc : TypeId × Value → H) :
    ReturnsInHanded {} Try.checked os 4 .any (Rows.codecReadsSpec.pre6 enc Try.prog Try.f4 Rows.codecReadsRow.domain false) (Rows.codecReadsSpec.post enc Try.prog Try.f4 false true false false) := by
  refine returnsInHanded_of_change (C := Try.checked) codecReads_own started (by kernel_rfl) Try.func4
    (ChangeSpec.witness6 (enc := enc) (C := Try.checked) false ⟨#[], #[.slice none 0 0, .slice none 0 0], []⟩ 8 (by kernel_rfl) (by kernel_rfl) (by kernel_rfl) (by kernel_rfl)) ?_
  intro W base args ds gs before hval0 hW hcnd _
  have hval : ∀ (j : Nat) t v, Try.f4.params[j]? = some t → args[j]? = some v → Value.okWide Try.prog W .any base t v := hval0
  have hW' := hW
  obtain ⟨p, q, hA0, hV, rfl, hfz, hnd⟩ := hW
  have hA : DataW.TrodAll enc Try.prog W 0 (fun _ => true) true Try.f4.params.toList args.toList ds p := hA0
  rw [Try.params4] at hA hval
  obtain ⟨v0, vs0, d0, ds0, p0, q0, hargs0, rfl, rfl, h0, r0⟩ := trodAll_cons hA
  obtain ⟨v1, vs1, d1, ds1, p1, q1, hargs1, rfl, rfl, h1, r1⟩ := trodAll_cons r0
  obtain ⟨rfl, rfl, rfl⟩ := trodAll_nil r1
  obtain rfl : args = #[v0, v1] := by cases args; simp_all
  obtain ⟨rfl, rfl⟩ := trodVars_none hV
  have k0 := h0
  have lt0 : ∀ x ∈ p0, x.block < W.heap.size := by obtain ⟨m, hm⟩ := k0; exact DataW.trod_lt m _ _ _ hm
  have k1 := h1
  have lt1 : ∀ x ∈ p1, x.block < W.heap.size := by obtain ⟨m, hm⟩ := k1; exact DataW.trod_lt m _ _ _ hm
  obtain ⟨a0, len0, cap0, rfl⟩ := okWide_slice Try.underlying26 (hval 0 26 v0 rfl rfl)
  obtain ⟨fuel0, hf0⟩ := h0
  simp only [Value.cells] at hf0
  obtain ⟨a1, len1, cap1, rfl⟩ := okWide_slice Try.underlying26 (hval 1 26 v1 rfl rfl)
  obtain ⟨fuel1, hf1⟩ := h1
  simp only [Value.cells] at hf1
  clear hA0 hval0
  have walk : Calls Try.prog 4 _ W fun e w' => e = .returned (.bool true) ∧ Below W.heap.size W w' := codecReads_any a0 len0 cap0 a1 len1 cap1 (slice_len Try.underlying26 hf0) (fun hl => bytes_open2 hf0 hl) (slice_len Try.underlying26 hf1) (fun hl => bytes_open2 hf1 hl)
  refine walk.mono fun e W' ⟨he, bel⟩ => ?_
  subst he
  exact ⟨_, rfl, _, _, _, [], _, [], hW', trodAll_mk1 (shut_bool Try.underlying4 _), trodAll_cons_mk (Below.trod codecReads_laid (by kernel_rfl) (of_decide_eq_true (by kernel_rfl)) k0 bel lt0) (trodAll_cons_mk (Below.trod codecReads_laid (by kernel_rfl) (of_decide_eq_true (by kernel_rfl)) k1 bel lt1) (trodAll_mk0)), rfl, bel.frame _, fun h => by cases h⟩

theorem codecReads_holds : Rows.CodecReadsSaid :=
  OpenClaim.holds_of_wide 4 Try.f4 rfl rfl rfl rfl rfl rfl rfl ⟨rfl, rfl, rfl, rfl, rfl⟩ rfl rfl rfl rfl rfl (by kernel_rfl) Try.func4 (by kernel_rfl)
    (of_decide_eq_true (by kernel_rfl)) (by unfold Func.isWrapper; first | (rw [if_pos (by decide +kernel)]; kernel_rfl) | (rw [if_neg (by decide +kernel)]; exact ⟨rfl, rfl⟩))
    (fun os started H enc _ => codecReads_lifted os started H enc)
#print axioms codecReads_holds
end Go.Proofs.Ytoikklbnbgoecaa
