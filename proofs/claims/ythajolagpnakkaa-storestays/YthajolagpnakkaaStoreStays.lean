
/- For all deeds and more of them jointurelaw05.StoreStays returns true and writes nothing that was there: what is committed is as if it had been done without a part. No condition. -/
import Derived.Test.YthajolagpnakkaaO31
set_option linter.unusedSimpArgs false
set_option linter.unusedVariables false
namespace Go.Proofs.Ythajolagpnakkaa
open Go.ChangeShapes Go.WideShapes Go.ChangeAt Go.RowKit

theorem stepL_plain {d : Int} (h : d % 8 < 4) (k v : List Int) (L : List (List Int × List Int)) (ds es : List (List (List Int × List Int))) : stepL d k v L ds = stepL d k v L es := by
  unfold stepL
  split
  · rfl
  · rw [if_pos (by omega), if_pos (by omega)]
theorem stepD_plain {d : Int} (h : d % 8 < 4) (L : List (List Int × List Int)) (ds : List (List (List Int × List Int))) : stepD d L ds = ds := by
  unfold stepD; rw [if_pos h]
set_option maxRecDepth 10000 in
set_option maxHeartbeats 16000000 in
theorem storeStays_any {w : World} (a : Option Addr) (len cap : Nat) (l : List Dd) (a2 : Option Addr) (len2 cap2 : Nat) (l2 : List Dd) (hm : len ≤ 9223372036854775807) (h : DdsIn w a len l) (hm2 : len2 ≤ 9223372036854775807) (h2 : DdsIn w a2 len2 l2) :
    Calls Try.prog 5 #[.slice a len cap, .slice a2 len2 cap2] w fun e w' => e = .returned (.bool true) ∧ Below w.heap.size w w' := by
  have hF : ∀ b, fewD l = b → Hid (∀ W, Below w.heap.size w W → Calls Try.prog 12 #[.slice a len cap] W fun e w' => e = .returned (.bool b) ∧ Below W.heap.size W w') := fun b e W hW => by rw [← e]; exact few_any hm h W hW
  have hF2 : ∀ b, fewD l2 = b → Hid (∀ W, Below w.heap.size w W → Calls Try.prog 12 #[.slice a2 len2 cap2] W fun e w' => e = .returned (.bool b) ∧ Below W.heap.size W w') := fun b e W hW => by rw [← e]; exact few_any hm2 h2 W hW
  cases hf : fewD l
  · have hG := hF _ hf
    clear hF hF2 hf
    go_enter Try.func5, Try.ntmps5
    go_wp2_with (first
      | (go_at_call 11; refine (rolls_any w).mono ?_; rintro e w1 ⟨rfl, hb1⟩)
      | (go_at_call 12; refine (hG.out _ hb1).mono ?_; rintro e w2 ⟨rfl, hb2⟩)
      | (go_at_call 11; refine (rolls_any w2).mono ?_; rintro e w3 ⟨rfl, hb3⟩))
    go_ret
    exact ⟨rfl, bt (bt hb1 hb2) hb3⟩
  · have hG := hF _ hf
    have hfd : FewD l := fewD_t hf
    clear hF hf
    cases hf2 : fewD l2
    · have hG2 := hF2 _ hf2
      clear hF2 hf2
      go_enter Try.func5, Try.ntmps5
      go_wp2_with (first
        | (go_at_call 11; refine (rolls_any w).mono ?_; rintro e w1 ⟨rfl, hb1⟩)
        | (go_at_call 12; with_reducible refine (hG.out _ hb1).mono ?_; rintro e w2 ⟨rfl, hb2⟩)
        | (go_at_call 12; with_reducible refine (hG2.out _ (bt hb1 hb2)).mono ?_; rintro e w3 ⟨rfl, hb3⟩)
        | (go_at_call 11; refine (rolls_any w3).mono ?_; rintro e w4 ⟨rfl, hb4⟩))
      go_ret
      exact ⟨rfl, bt (bt (bt hb1 hb2) hb3) hb4⟩
    · have hG2 := hF2 _ hf2
      obtain ⟨hl240, hall2⟩ := fewD_t hf2
      clear hF2 hf2
      have hnum := h.num
      have hnum2 := h2.num
      have hl40 := hfd.1
      have hlen2 : (len2 : Int) ≤ 40 := by omega
      go_enter Try.func5, Try.ntmps5
      go_wp2_with (first
        | (go_at_call 11; refine (rolls_any w).mono ?_; rintro e w1 ⟨rfl, hb1⟩)
        | (go_at_call 12; with_reducible refine (hG.out _ hb1).mono ?_; rintro e w2 ⟨rfl, hb2⟩)
        | (go_at_call 12; with_reducible refine (hG2.out _ (bt hb1 hb2)).mono ?_; rintro e w3 ⟨rfl, hb3⟩; have hB3 := bt (bt hb1 hb2) hb3; have hA1 := after_any (cap := cap) (h.below hB3) hfd)
        | (go_at_call 16; refine hA1.mono ?_; clear hA1; rintro e w4 ⟨rfl, A4, q4, hb4⟩; have hB4 := bt hB3 hb4; have hA2 := after_any (cap := cap) (h.below hB4) hfd)
        | (go_at_call 16; refine hA2.mono ?_; clear hA2; rintro e w5 ⟨rfl, B5, r5, hb5⟩; have q5 := q4.below hb5; have hBg := stdBegin q5 (by omega))
        | (go_at_call 19; refine hBg.mono ?_; clear hBg; rintro e w6 ⟨rfl, A6, q6, f6⟩))
      have hB5 := bt hB4 hb5
      have hdis5 : ∀ x, A4 x → ¬ B5 x := fun x ha hb => by have := (q4.foot x ha).2; have := (r5.foot x hb).1; omega
      obtain ⟨r6, hdis6⟩ := f6.w.other r5 hdis5
      have hB6 : Below w.heap.size w w6 := FrW.out hB5 f6.w (fun n hn => Nat.le_trans hB3.size (q4.foot n hn).1)
      have hloA : w.heap.size ≤ w3.heap.size := hB3.size
      have hloB : w.heap.size ≤ w4.heap.size := hB4.size
      clear hb1 hb2 hb3 hb4 hb5 hB3 hB4 hB5 q4 q5 r5 f6 hdis5 hG hG2
      generalize w3.heap.size = sa at *
      generalize w4.heap.size = sb at *
      generalize (actsS l).1 = L0 at *
      generalize (actsS l).2 = ds0 at *
      go_loopw [7] (fun iv X => ∃ (t : Nat) (L : List (List Int × List Int)) (A B : Nat → Prop), t ≤ len2 ∧ iv = .int .i64 (t : Int) ∧ StD X sa sa A L (ds0 ++ [L0]) (len + 1 + t) ∧ StD X sb sb B L ds0 (len + t) ∧ (∀ x, A x → ¬ B x) ∧ Below w.heap.size w X) (fun iv _ => len2 - (intOf iv).toNat)
      case atStart => exact ⟨0, L0, A6, B5, by omega, rfl, q6, r6, hdis6, hB6⟩
      case round =>
        clear q6 r6 hdis6 hB6
        obtain ⟨t, L, A, B, ht, rfl, q, r, hdis, hX⟩ := hrel
        by_cases htl : t < len2
        · have htl' : (t : Int) < (len2 : Int) := by omega
          have hil : t < l2.length := by omega
          obtain ⟨blk, off, rfl, hbl, c0, c1, c2⟩ := dd_at h2 hX hil
          have hcells : Hid (∀ Y, Below w.heap.size w Y → Y.cell? ⟨blk, off + t * 3, none⟩ = some (.int .u8 l2[t].d) ∧ Y.cell? ⟨blk, off + t * 3 + 1, none⟩ = some (.slice l2[t].ka l2[t].kn l2[t].kc) ∧ Y.cell? ⟨blk, off + t * 3 + 2, none⟩ = some (.slice l2[t].va l2[t].vn l2[t].vc)) := fun Y hY => by
            obtain ⟨blk', off', e, -, d0, d1, d2⟩ := dd_at h2 hY hil
            simp at e
            obtain ⟨rfl, rfl⟩ := e
            exact ⟨d0, d1, d2⟩
          have hmem := List.getElem_mem hil
          have hy := h2.ok _ hmem
          have hyl := hall2 _ hmem
          have hD := does1 q (by omega) hX hloA hy hyl.1 hyl.2
          have hdt : l2[t].d.tmod 8 = l2[t].d % 8 := Int.tmod_eq_emod_of_nonneg hy.1.1
          generalize l2[t] = y at *
          obtain ⟨qq, hq⟩ : ∃ qq, y.d % 8 = qq := ⟨_, rfl⟩
          have hrr : y.d.tmod 8 = qq := hdt.trans hq
          by_cases hq4 : qq < 4
          · have hd4 : y.d % 8 < 4 := by omega
            rw [stepD_plain hd4] at hD
            have hst : Hid (∀ d1 d2, stepL y.d y.k y.v L d1 = stepL y.d y.k y.v L d2) := fun d1 d2 => stepL_plain hd4 _ _ _ _ _
            have hsd : Hid (∀ dd, stepD y.d L dd = dd) := fun dd => stepD_plain hd4 _ _
            clear hd4 hdt hq
            obtain ⟨f0, f1, f2⟩ := hcells.out _ (ba hX (.cells #[.slice none 0 0, .slice none 0 0] 31))
            go_wp2_with (first
              | (go_at_call 14; refine hD.mono ?_; clear hD; rintro e w7 ⟨⟨bb, rfl⟩, A7, q7, f7⟩; obtain ⟨r7, hdis7⟩ := f7.other r hdis; have hX7 := FrW.out hX f7 (fun n hn => Nat.le_trans hloA (q.foot n hn).1); obtain ⟨g0, g1, g2⟩ := hcells.out _ (ba hX7 (.cells #[.slice none 0 0, .slice none 0 0] 31)); have hE := does1 r7 (by omega) hX7 hloB hy hyl.1 hyl.2)
              | (go_at_call 14; refine hE.mono ?_; clear hE; rintro e w8 ⟨⟨bb2, rfl⟩, B8, r8, f8⟩))
            all_goals go_roundw
            case rel =>
              rw [hsd.out, hst.out ds0 (ds0 ++ [L0])] at r8
              obtain ⟨q8, hdis8⟩ := f8.other q7 (fun x hb ha => hdis7 x ha hb)
              exact ⟨t + 1, _, A7, B8, by omega, by go_num, q8, r8, fun x ha hb => hdis8 x hb ha, FrW.out hX7 f8 (fun n hn => Nat.le_trans hloB (r7.foot n hn).1)⟩
            case measure => (simp [intOf]; omega)
          · clear hD hdt hq hcells
            go_wp2
            all_goals go_roundw
            case rel => exact ⟨t + 1, L, A, B, by omega, by go_num, q.up (by omega), r.up (by omega), hdis, hX⟩
            case measure => (simp [intOf]; omega)
        · obtain rfl : t = len2 := by omega
          have hC := stdCom_all q (by omega)
          have hdl : (ds0 ++ [L0]).dropLast = ds0 := by simp
          have hne : (!(ds0 ++ [L0]).isEmpty) = true := by simp
          have hdd : decide (L = L) = true := decide_eq_true rfl
          rw [hdl, hne] at hC
          clear hdl hne
          go_wp2_with (first
            | (go_at_call 20; refine hC.mono ?_; clear hC; rintro e w7 ⟨rfl, A7, q7, f7⟩; obtain ⟨r7, hdis7⟩ := f7.w.other r hdis; have hX7 := FrW.out hX f7.w (fun n hn => Nat.le_trans hloA (q.foot n hn).1); have hS := stdSame q7 r7 (by omega) (by omega); rw [hdd] at hS)
            | (go_at_call 22; refine hS.mono ?_; clear hS; rintro e w8 ⟨rfl, hb8⟩; have hDa := stdDepth (q7.below hb8); have hDb := stdDepth (r7.below hb8))
            | (go_at_call 18; with_reducible refine hDa.mono ?_; rintro e w9 ⟨rfl, hw9⟩; obtain rfl := hw9.symm)
            | (go_at_call 18; with_reducible refine hDb.mono ?_; rintro e w10 ⟨rfl, hw10⟩; obtain rfl := hw10.symm))
          go_ret
          exact ⟨by simp, bt hX7 hb8⟩

theorem storeStays_own : ownKnob Try.prog.godebug = none := by kernel_rfl
theorem storeStays_laid : laidOutB Try.prog = true := by kernel_rfl

set_option maxRecDepth 100000 in
theorem storeStays_lifted (os : Os) (started : os.Started) (H : Type) (enc : TypeId × Value → H) :
    ReturnsInHanded {} Try.checked os 5 .any (Rows.storeStaysSpec.pre6 enc Try.prog Try.f5 Rows.storeStaysRow.domain false) (Rows.storeStaysSpec.post enc Try.prog Try.f5 false true false false) := by
  refine returnsInHanded_of_change (C := Try.checked) storeStays_own started (by kernel_rfl) Try.func5
    (ChangeSpec.witness6 (enc := enc) (C := Try.checked) false ⟨#[], #[.slice none 0 0, .slice none 0 0], []⟩ 8 (by kernel_rfl) (by kernel_rfl) (by kernel_rfl) (by kernel_rfl)) ?_
  intro W base args ds gs before hval0 hW hcnd _
  have hval : ∀ (j : Nat) t v, Try.f5.params[j]? = some t → args[j]? = some v → Value.okWide Try.prog W .any base t v := hval0
  have hW' := hW
  obtain ⟨p, q, hA0, hV, rfl, hfz, hnd⟩ := hW
  have hA : DataW.TrodAll enc Try.prog W 0 (fun _ => true) true Try.f5.params.toList args.toList ds p := hA0
  rw [Try.params5] at hA hval
  obtain ⟨v0, vs0, d0, ds0, p0, q0, hargs0, rfl, rfl, h0, r0⟩ := trodAll_cons hA
  obtain ⟨v1, vs1, d1, ds1, p1, q1, hargs1, rfl, rfl, h1, r1⟩ := trodAll_cons r0
  obtain ⟨rfl, rfl, rfl⟩ := trodAll_nil r1
  obtain rfl : args = #[v0, v1] := by cases args; simp_all
  obtain ⟨rfl, rfl⟩ := trodVars_none hV
  have k0 := h0
  have lt0 : ∀ x ∈ p0, x.block < W.heap.size := by obtain ⟨m, hm⟩ := k0; exact DataW.trod_lt m _ _ _ hm
  have k1 := h1
  have lt1 : ∀ x ∈ p1, x.block < W.heap.size := by obtain ⟨m, hm⟩ := k1; exact DataW.trod_lt m _ _ _ hm
  obtain ⟨a0, len0, cap0, rfl⟩ := okWide_slice Try.underlying22 (hval 0 22 v0 rfl rfl)
  obtain ⟨fuel0, hf0⟩ := h0
  simp only [Value.cells] at hf0
  obtain ⟨l0, hl0⟩ := acts_open hf0
  obtain ⟨a1, len1, cap1, rfl⟩ := okWide_slice Try.underlying22 (hval 1 22 v1 rfl rfl)
  obtain ⟨fuel1, hf1⟩ := h1
  simp only [Value.cells] at hf1
  obtain ⟨l1, hl1⟩ := acts_open hf1
  clear hA0 hval0
  have walk : Calls Try.prog 5 _ W fun e w' => e = .returned (.bool true) ∧ Below W.heap.size W w' := storeStays_any a0 len0 cap0 l0 a1 len1 cap1 l1 (slice_len Try.underlying22 hf0) hl0 (slice_len Try.underlying22 hf1) hl1
  refine walk.mono fun e W' ⟨he, bel⟩ => ?_
  subst he
  exact ⟨_, rfl, _, _, _, [], _, [], hW', trodAll_mk1 (shut_bool Try.underlying4 _), trodAll_cons_mk (Below.trod storeStays_laid (by kernel_rfl) (of_decide_eq_true (by kernel_rfl)) k0 bel lt0) (trodAll_cons_mk (Below.trod storeStays_laid (by kernel_rfl) (of_decide_eq_true (by kernel_rfl)) k1 bel lt1) (trodAll_mk0)), rfl, bel.frame _, fun h => by cases h⟩

theorem storeStays_holds : Rows.StoreStaysSaid :=
  OpenClaim.holds_of_wide 5 Try.f5 rfl rfl rfl rfl rfl rfl rfl ⟨rfl, rfl, rfl, rfl, rfl⟩ rfl rfl rfl rfl rfl (by kernel_rfl) Try.func5 (by kernel_rfl)
    (of_decide_eq_true (by kernel_rfl)) (by unfold Func.isWrapper; first | (rw [if_pos (by decide +kernel)]; kernel_rfl) | (rw [if_neg (by decide +kernel)]; exact ⟨rfl, rfl⟩))
    (fun os started H enc _ => storeStays_lifted os started H enc)
#print axioms storeStays_holds
end Go.Proofs.Ythajolagpnakkaa
