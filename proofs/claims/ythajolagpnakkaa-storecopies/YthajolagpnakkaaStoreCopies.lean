
/- For all deeds and more of them jointurelaw05.StoreCopies returns true and writes nothing that was there: a copy is alike, has nothing begun and goes its own way: whatever is done to it, the first store is as the document says. No condition. -/
import Derived.Test.YthajolagpnakkaaO31
set_option linter.unusedSimpArgs false
set_option linter.unusedVariables false
namespace Go.Proofs.Ythajolagpnakkaa
open Go.ChangeShapes Go.WideShapes Go.ChangeAt Go.RowKit

set_option maxRecDepth 10000 in
set_option maxHeartbeats 16000000 in
theorem storeCopies_any {w : World} (a : Option Addr) (len cap : Nat) (l : List Dd) (a2 : Option Addr) (len2 cap2 : Nat) (l2 : List Dd) (hm : len ≤ 9223372036854775807) (h : DdsIn w a len l) (hm2 : len2 ≤ 9223372036854775807) (h2 : DdsIn w a2 len2 l2) :
    Calls Try.prog 8 #[.slice a len cap, .slice a2 len2 cap2] w fun e w' => e = .returned (.bool true) ∧ Below w.heap.size w w' := by
  have hF : ∀ b, fewD l = b → Hid (∀ W, Below w.heap.size w W → Calls Try.prog 12 #[.slice a len cap] W fun e w' => e = .returned (.bool b) ∧ Below W.heap.size W w') := fun b e W hW => by rw [← e]; exact few_any hm h W hW
  have hF2 : ∀ b, fewD l2 = b → Hid (∀ W, Below w.heap.size w W → Calls Try.prog 12 #[.slice a2 len2 cap2] W fun e w' => e = .returned (.bool b) ∧ Below W.heap.size W w') := fun b e W hW => by rw [← e]; exact few_any hm2 h2 W hW
  cases hf : fewD l
  · have hG := hF _ hf
    clear hF hF2 hf
    go_enter Try.func8, Try.ntmps8
    go_wp2_with (first
      | (go_at_call 11; refine (rolls_any w).mono ?_; rintro e w1 ⟨rfl, hb1⟩)
      | (go_at_call 12; refine (hG.out _ hb1).mono ?_; rintro e w2 ⟨rfl, hb2⟩)
      | (go_at_call 11; refine (rolls_any w2).mono ?_; rintro e w3 ⟨rfl, hb3⟩))
    go_ret
    exact ⟨rfl, bt (bt hb1 hb2) hb3⟩
  · have hG := hF _ hf
    obtain ⟨hl40, hall⟩ := fewD_t hf
    clear hF hf
    cases hf2 : fewD l2
    · have hG2 := hF2 _ hf2
      clear hF2 hf2
      go_enter Try.func8, Try.ntmps8
      go_wp2_with (first
        | (go_at_call 11; refine (rolls_any w).mono ?_; rintro e w1 ⟨rfl, hb1⟩)
        | (go_at_call 12; with_reducible refine (hG.out _ hb1).mono ?_; rintro e w2 ⟨rfl, hb2⟩)
        | (go_at_call 12; with_reducible refine (hG2.out _ (bt hb1 hb2)).mono ?_; rintro e w3 ⟨rfl, hb3⟩)
        | (go_at_call 11; refine (rolls_any w3).mono ?_; rintro e w4 ⟨rfl, hb4⟩))
      go_ret
      exact ⟨rfl, bt (bt (bt hb1 hb2) hb3) hb4⟩
    · have hG2 := hF2 _ hf2
      obtain ⟨hl240, hall2⟩ := fewD_t hf2
      clear hF2 hf2
      have hnum := h.num
      have hnum2 := h2.num
      have hlen' : (len : Int) ≤ 40 := by omega
      go_enter Try.func8, Try.ntmps8
      go_wp2_with (first
        | (go_at_call 11; refine (rolls_any w).mono ?_; rintro e w1 ⟨rfl, hb1⟩)
        | (go_at_call 12; with_reducible refine (hG.out _ hb1).mono ?_; rintro e w2 ⟨rfl, hb2⟩)
        | (go_at_call 12; with_reducible refine (hG2.out _ (bt hb1 hb2)).mono ?_; rintro e w3 ⟨rfl, hb3⟩)
        | (go_at_call 13; refine (stdNew w3).mono ?_; rintro e w4 ⟨rfl, n4, hb4⟩))
      have hP := Pr.new (bt (bt hb1 hb2) hb3) n4 hb4
      clear hb1 hb2 hb3 hb4 n4 hG hG2
      generalize w3.heap.size = s at *
      generalize w4.heap.size = m at *
      generalize w4.alloc (.cells #[.slice none 0 0, .slice none 0 0] 31) = w5 at *
      go_loopw [7] (fun iv X => ∃ (i : Nat) (L : List (List Int × List Int)) (ds : List (List (List Int × List Int))) (A B : Nat → Prop), i ≤ len ∧ iv = .int .i64 (i : Int) ∧ Pr w X s m L L ds ds i i s m A B) (fun iv _ => len - (intOf iv).toNat)
      case atStart => exact ⟨0, [], [], _, _, by omega, rfl, hP⟩
      case round =>
        clear hP
        obtain ⟨i, L, ds, A, B, hi, rfl, hP⟩ := hrel
        by_cases hlt : i < len
        · have hlt' : (i : Int) < (len : Int) := by omega
          have hil : i < l.length := by omega
          obtain ⟨blk, off, rfl, hbl, c0, c1, c2⟩ := dd_at h hP.below hil
          have hmem := List.getElem_mem hil
          have hD := hP.does (by omega) (by omega) (h.ok _ hmem) (hall _ hmem).1 (hall _ hmem).2
          rw [ansD_same] at hD
          generalize l[i] = y at *
          go_wp2_with (go_at_call 14; refine hD.mono ?_; clear hD; rintro e w6 ⟨rfl, A5, B5, hP5, -⟩)
          all_goals go_roundw
          case rel => exact ⟨i + 1, _, _, A5, B5, by omega, by go_num, hP5⟩
          case measure => (simp [intOf]; omega)
        · obtain rfl : i = len := by omega
          have hC := stdCopy hP.st (by omega)
          have hdd : decide (L = L) = true := decide_eq_true rfl
          obtain ⟨cz, hcz⟩ : ∃ c, c = wr.heap.size := ⟨_, rfl⟩
          rw [← hcz] at hC
          have hcz' : Hid (cz = wr.heap.size) := hcz
          clear hcz
          go_wp2_with (first
            | (go_at_call 17; refine hC.mono ?_; clear hC; rintro e w6 ⟨rfl, Ac, q6, hb6⟩; have hP6 := hP.down (hcz'.out ▸ hb6); have hS := stdSame q6 hP6.st (by omega) (by omega); rw [hdd] at hS)
            | (go_at_call 22; refine hS.mono ?_; clear hS; rintro e w7 ⟨rfl, hb7⟩; have q7 := q6.below hb7; have hP7 := hP6.down hb7; have hDp := stdDepth q7; have hRl := stdRoll_all q7 (by omega))
            | (go_at_call 18; refine hDp.mono ?_; clear hDp; rintro e w8 ⟨rfl, hw8⟩; obtain rfl := hw8.symm)
            | (go_at_call 21; refine hRl.mono ?_; clear hRl; rintro e w9 ⟨rfl, A9, q9, f9⟩; (have hX9 : Below cz wr w9 := (by rw [hcz'.out] at *; exact Fr.out (bt hb6 hb7) f9 (fun n hn => (q7.foot n hn).1))); have hpl := plain_any (cap := cap2) (h2.below (bt hP.below (hcz'.out ▸ hX9))) hl240)
            | (go_at_call 30; refine hpl.mono ?_; clear hpl; rintro e w10 ⟨xa, xc, rfl, hx10, hxa, hb10⟩))
          have q10 := q9.below hb10
          have hX10 : Below wr.heap.size wr w10 := bt (hcz'.out ▸ hX9) hb10
          have hlo : wr.heap.size ≤ cz := by rw [hcz'.out]; exact Nat.le_refl _
          have hfl : (l2.filter isP).length ≤ 40 := Nat.le_trans (List.length_filter_le _ _) hl240
          have hall3 : ∀ y ∈ l2.filter isP, y.kn ≤ 30 ∧ y.vn ≤ 60 := fun y hy => hall2 y (List.mem_filter.1 hy).1
          have hok3 : ∀ y ∈ l2.filter isP, DdIn wr y := fun y hy => (h2.ok y (List.mem_filter.1 hy).1).below hP.below
          obtain ⟨w0, hw0⟩ : ∃ w0, w0 = wr := ⟨_, rfl⟩
          rw [← hw0] at hX10 hlo hok3 hP
          have hna : ∀ ad, xa = some ad → ¬ A9 ad.block := fun ad had ha => by have := hxa ad had; have := (q9.foot _ ha).2; omega
          have hloA : ∀ n, A9 n → w0.heap.size ≤ n := fun n hn => Nat.le_trans hlo (q9.foot n hn).1
          have hEnd : Hid (∀ X, Below w0.heap.size w0 X → Calls Try.prog 15 #[.pointer (some ⟨s, 0, none⟩), .pointer (some ⟨m, 0, none⟩)] X fun e w' => e = .returned (.bool true) ∧ Below X.heap.size X w') := fun X hX => sameD_any (hP.down hX).st (hP.down hX).rd (show i ≤ 1000 by omega) (show i ≤ 1000 by omega)
          have hwr : Below w.heap.size w w0 := hP.below
          generalize l2.filter isP = xl at *
          have hxl' : (xl.length : Int) ≤ 40 := by omega
          clear hw0 hcz' hP hP6 hP7 q6 q7 q9 hb6 hb7 hb10 f9 hxa hX9 hall hall2 hdd h h2
          go_loopw [10] (fun iv X => ∃ (t : Nat) (L' : List (List Int × List Int)) (ds' : List (List (List Int × List Int))) (Ax : Nat → Prop), t ≤ xl.length ∧ iv = .int .i64 (t : Int) ∧ StD X cz cz Ax L' ds' (i + 1 + t) ∧ FrW w10 X A9 Ax) (fun iv _ => xl.length - (intOf iv).toNat)
          case atStart => exact ⟨0, _, _, A9, by omega, rfl, q10, FrW.below (Below.refl _ _)⟩
          case round =>
            clear q10
            obtain ⟨t, L', ds', Ax, ht, rfl, q, f⟩ := hrel
            have hXw : Below w0.heap.size w0 wr := FrW.out hX10 f hloA
            by_cases htl : t < xl.length
            · have htl' : (t : Int) < (xl.length : Int) := by omega
              have hmem := List.getElem_mem htl
              have hD := does1 q (by omega) hXw hlo (hok3 _ hmem) (hall3 _ hmem).1 (hall3 _ hmem).2
              obtain ⟨blk, off, rfl, hbl, c0, c1, c2⟩ := dd_w hx10 (f.trans (FrW.below (ba (Below.refl _ _) (.cells #[.slice none 0 0, .slice none 0 0] 31)))) hna htl
              generalize xl[t] = y at *
              go_wp2_with (go_at_call 14; refine hD.mono ?_; clear hD; rintro e w6 ⟨⟨bb, rfl⟩, A6, q6, f6⟩)
              all_goals go_roundw
              case rel => exact ⟨t + 1, _, _, A6, by omega, by go_num, q6, f.trans f6⟩
              case measure => (simp [intOf]; omega)
            · obtain rfl : t = xl.length := by omega
              go_wp2_with (go_at_call 15; refine (hEnd.out _ hXw).mono ?_; rintro e w6 ⟨rfl, hb6⟩)
              go_ret
              exact ⟨rfl, bt (bt hwr hXw) hb6⟩

theorem storeCopies_own : ownKnob Try.prog.godebug = none := by kernel_rfl
theorem storeCopies_laid : laidOutB Try.prog = true := by kernel_rfl

set_option maxRecDepth 100000 in
theorem storeCopies_lifted (os : Os) (started : os.Started) (H : Type) (enc : TypeId × Value → H) :
    ReturnsInHanded {} Try.checked os 8 .any (Rows.storeCopiesSpec.pre6 enc Try.prog Try.f8 Rows.storeCopiesRow.domain false) (Rows.storeCopiesSpec.post enc Try.prog Try.f8 false true false false) := by
  refine returnsInHanded_of_change (C := Try.checked) storeCopies_own started (by kernel_rfl) Try.func8
    (ChangeSpec.witness6 (enc := enc) (C := Try.checked) false ⟨#[], #[.slice none 0 0, .slice none 0 0], []⟩ 8 (by kernel_rfl) (by kernel_rfl) (by kernel_rfl) (by kernel_rfl)) ?_
  intro W base args ds gs before hval0 hW hcnd _
  have hval : ∀ (j : Nat) t v, Try.f8.params[j]? = some t → args[j]? = some v → Value.okWide Try.prog W .any base t v := hval0
  have hW' := hW
  obtain ⟨p, q, hA0, hV, rfl, hfz, hnd⟩ := hW
  have hA : DataW.TrodAll enc Try.prog W 0 (fun _ => true) true Try.f8.params.toList args.toList ds p := hA0
  rw [Try.params8] at hA hval
  obtain ⟨v0, vs0, d0, ds0, p0, q0, hargs0, rfl, rfl, h0, r0⟩ := trodAll_cons hA
  obtain ⟨v1, vs1, d1, ds1, p1, q1, hargs1, rfl, rfl, h1, r1⟩ := trodAll_cons r0
  obtain ⟨rfl, rfl, rfl⟩ := trodAll_nil r1
  obtain rfl : args = #[v0, v1] := by cases args; simp_all
  obtain ⟨rfl, rfl⟩ := trodVars_none hV
  have k0 := h0
  have lt0 : ∀ x ∈ p0, x.block < W.heap.size := by obtain ⟨m, hm⟩ := k0; exact DataW.trod_lt m _ _ _ hm
  have k1 := h1
  have lt1 : ∀ x ∈ p1, x.block < W.heap.size := by obtain ⟨m, hm⟩ := k1; exact DataW.trod_lt m _ _ _ hm
  obtain ⟨a0, len0, cap0, rfl⟩ := okWide_slice Try.underlying22 (hval 0 22 v0 rfl rfl)
  obtain ⟨fuel0, hf0⟩ := h0
  simp only [Value.cells] at hf0
  obtain ⟨l0, hl0⟩ := acts_open hf0
  obtain ⟨a1, len1, cap1, rfl⟩ := okWide_slice Try.underlying22 (hval 1 22 v1 rfl rfl)
  obtain ⟨fuel1, hf1⟩ := h1
  simp only [Value.cells] at hf1
  obtain ⟨l1, hl1⟩ := acts_open hf1
  clear hA0 hval0
  have walk : Calls Try.prog 8 _ W fun e w' => e = .returned (.bool true) ∧ Below W.heap.size W w' := storeCopies_any a0 len0 cap0 l0 a1 len1 cap1 l1 (slice_len Try.underlying22 hf0) hl0 (slice_len Try.underlying22 hf1) hl1
  refine walk.mono fun e W' ⟨he, bel⟩ => ?_
  subst he
  exact ⟨_, rfl, _, _, _, [], _, [], hW', trodAll_mk1 (shut_bool Try.underlying4 _), trodAll_cons_mk (Below.trod storeCopies_laid (by kernel_rfl) (of_decide_eq_true (by kernel_rfl)) k0 bel lt0) (trodAll_cons_mk (Below.trod storeCopies_laid (by kernel_rfl) (of_decide_eq_true (by kernel_rfl)) k1 bel lt1) (trodAll_mk0)), rfl, bel.frame _, fun h => by cases h⟩

theorem storeCopies_holds : Rows.StoreCopiesSaid :=
  OpenClaim.holds_of_wide 8 Try.f8 rfl rfl rfl rfl rfl rfl rfl ⟨rfl, rfl, rfl, rfl, rfl⟩ rfl rfl rfl rfl rfl (by kernel_rfl) Try.func8 (by kernel_rfl)
    (of_decide_eq_true (by kernel_rfl)) (by unfold Func.isWrapper; first | (rw [if_pos (by decide +kernel)]; kernel_rfl) | (rw [if_neg (by decide +kernel)]; exact ⟨rfl, rfl⟩))
    (fun os started H enc _ => storeCopies_lifted os started H enc)
#print axioms storeCopies_holds
end Go.Proofs.Ythajolagpnakkaa
