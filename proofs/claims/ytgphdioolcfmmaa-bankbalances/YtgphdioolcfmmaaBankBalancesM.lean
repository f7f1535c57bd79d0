
/- For all deeds and bytes jointurelaw09.BankBalances returns true and writes nothing that was there: behind any deeds any address has of any denomination as much as the document says, and the coins that it says. No condition. -/
import Derived.Test.YtgphdioolcfmmaaBM5
set_option linter.unusedSimpArgs false
set_option linter.unusedVariables false
set_option maxRecDepth 20000
namespace Go.Proofs.Ytgphdioolcfmmaa
open Go.ChangeShapes Go.WideShapes Go.ChangeAt Go.RowKit

set_option maxRecDepth 10000 in
set_option maxHeartbeats 8000000 in
theorem bankBalances_any {w : World} (a : Option Addr) (len cap : Nat) (l : List Ac) (n1 n2 : Int) (hm : len ≤ 9223372036854775807) (h : AcsIn w a len l) (h1 : 0 ≤ n1 ∧ n1 ≤ 255) (h2 : 0 ≤ n2 ∧ n2 ≤ 255) :
    Calls Try.prog 5 #[.slice a len cap, .int .u8 n1, .int .u8 n2] w fun e w' => e = .returned (.bool true) ∧ Below w.heap.size w w' := by
  obtain ⟨who, rfl⟩ := Int.eq_ofNat_of_zero_le h1.1
  obtain ⟨den, rfl⟩ := Int.eq_ofNat_of_zero_le h2.1
  have hw255 : who ≤ 255 := by omega
  have hd255 : den ≤ 255 := by omega
  have heq := eq_num
  have hes := eq4_self
  clear h1 h2
  cases hf : fewA l
  · have hF : Hid (∀ W, Below w.heap.size w W → Calls Try.prog 10 #[.slice a len cap] W fun e w' => e = .returned (.bool false) ∧ Below W.heap.size W w') := fun W hW => by rw [← hf]; exact few9_any hm h W hW
    clear hf
    go_enter Try.func5, Try.ntmps5
    go_upto_region 2 with (first
      | (go_at_call 9; refine (sends_any _).mono ?_; rintro e w1 ⟨rfl, hb1⟩)
      | (go_at_call 10; refine (hF.out _ hb1).mono ?_; rintro e w2 ⟨rfl, hb2⟩))
    go_wp2_with (go_at_call 9; refine (sends_any _).mono ?_; rintro e w3 ⟨rfl, hb3⟩)
    go_ret
    exact ⟨rfl, bt (bt hb1 hb2) hb3⟩
  · have hF : Hid (∀ W, Below w.heap.size w W → Calls Try.prog 10 #[.slice a len cap] W fun e w' => e = .returned (.bool true) ∧ Below W.heap.size W w') := fun W hW => by rw [← hf]; exact few9_any hm h W hW
    obtain ⟨hl30, hn12⟩ := fewA_t hf
    have hln := h.num
    clear hf
    go_enter Try.func5, Try.ntmps5
    go_wp2_with (first
      | (go_at_call 9; refine (sends_any _).mono ?_; rintro e w1 ⟨rfl, hb1⟩)
      | (go_at_call 10; refine (hF.out _ hb1).mono ?_; rintro e w2 ⟨rfl, hb2⟩; have hb12 := bt hb1 hb2; clear hb1 hb2 hF)
      | (go_at_call 11; refine (stdNew _).mono ?_; rintro e w3 ⟨rfl, h3, hb3⟩; have hP := bp_new hb12 h3 hb3; clear h3 hb3))
    go_loopw [9] (fun i X => ∃ (j : Nat) (b : Nat → Nat → Cn), j ≤ len ∧ i = .int .i64 (j : Int) ∧ BP w X w2.heap.size w3.heap.size b (16 * j)) (fun i _ => len - (intOf i).toNat)
    case atStart => exact ⟨0, _, by omega, rfl, hP⟩
    case round =>
      obtain ⟨j, b, hj, rfl, hB⟩ := hrel
      by_cases hlt : j < len
      · have hkl : j < l.length := by omega
        obtain ⟨blk, off, rfl, hb, c0, c1, c2, c3, c4⟩ := ac_at h hB.out hkl
        have hy := h.ok l[j] (List.getElem_mem hkl)
        have hy12 := hn12 l[j] (List.getElem_mem hkl)
        have hD := does9_any hB (by omega) hy hy12
        generalize l[j] = y at *
        obtain ⟨d, f, t, ya, yn, yc, yo, yL⟩ := y
        simp only at c0 c1 c2 c3 c4 hD hy12
        have hlt' : (j : Int) < (len : Int) := by omega
        clear hy hP h hB
        go_wp2_with (go_at_call 12; refine hD.mono ?_; clear hD; rintro e w4 ⟨rfl, b', hB4⟩)
        all_goals go_roundw
        case rel => exact ⟨j + 1, b', by omega, by go_num, hB4.up (by omega)⟩
        case measure => (simp [intOf] <;> omega)
      · have hjn : j = len := by omega
        subst hjn
        have hout := hB.out
        obtain ⟨A, L, base, B, base', vs, vb, M, hD, hBk, hI, hS, -, -, -, -⟩ := hB
        have hsm : who < 205 ∨ lst (b who) 8 = [] := by
          by_cases hc : who < 205
          · exact .inl hc
          · exact .inr (lst_nil (hI.pur who (by omega)) (fun d hd => hI.out who d (by omega) (by omega) hd))
        have hpw := hI.pur who (by omega)
        have hbal : Hid (∀ Y, Below wr.heap.size wr Y → Calls Try.prog 18 #[.pointer (some ⟨w2.heap.size, 0, none⟩), .int .u8 who, .int .u8 den] Y fun e w' => e = .returned (.agg #[.int .u64 (amt (lst (b who) 8) den).a, .int .u64 (amt (lst (b who) 8) den).b, .int .u64 (amt (lst (b who) 8) den).c, .int .u64 (amt (lst (b who) 8) den).e]) ∧ Below Y.heap.size Y w') := fun Y hY => balance_any (hD.below hY) hBk (by omega) hw255 hd255
        have hcR : Hid (∀ Y, Below wr.heap.size wr Y → Calls Try.prog 20 #[.pointer (some ⟨w3.heap.size, 0, none⟩), .int .u8 who] Y fun e w' => ∃ v, e = .returned v ∧ IsCoins w' v (lst (b who) 8) ∧ (∀ g, v.ownBlock = some g → B g) ∧ Below Y.heap.size Y w') := fun Y hY => coinsR9_any (hS.below hY) hsm
        have hcP : Hid (∀ Y, Below wr.heap.size wr Y → Calls Try.prog 21 #[.pointer (some ⟨w2.heap.size, 0, none⟩), .int .u8 who] Y fun e w' => ∃ v, e = .returned v ∧ IsCoins w' v (lst (b who) 8) ∧ Below Y.heap.size Y w') := fun Y hY => coinsB_any (hD.below hY) hBk (by omega) hw255
        have hAm : Hid (∀ (v : Value) Y, IsCoins Y v (lst (b who) 8) → Calls Try.prog 19 #[v, .int .u8 den] Y fun e w' => e = .returned (.agg #[.int .u64 (amt (lst (b who) 8) den).a, .int .u64 (amt (lst (b who) 8) den).b, .int .u64 (amt (lst (b who) 8) den).c, .int .u64 (amt (lst (b who) 8) den).e]) ∧ Below Y.heap.size Y w') := fun v Y hv => amountR_any hpw den (by omega) Y hv
        generalize amt (lst (b who) 8) den = x at *
        clear hD hBk hI hS hsm hpw hP h
        go_wp2_with (first
          | (go_at_call 18; refine (hbal.out _ (Below.refl _ _)).mono ?_; rintro e w4 ⟨rfl, hb4⟩)
          | (go_at_call 20; refine (hcR.out _ hb67).mono ?_; rintro e w8 ⟨v8, rfl, hv8, -, hb8⟩)
          | (go_at_call 20; refine (hcR.out _ hb4).mono ?_; rintro e w5 ⟨v5, rfl, hv5, -, hb5⟩)
          | (go_at_call 19; refine (hAm.out _ _ hv5).mono ?_; rintro e w6 ⟨rfl, hb6⟩; have hb46 := bt (bt hb4 hb5) hb6)
          | (go_at_call 21; refine (hcP.out _ hb46).mono ?_; rintro e w7 ⟨v7, rfl, hv7, hb7⟩; have hb67 := bt hb46 hb7)
          | (go_at_call 16; refine (sameC_any _ (hv7.below hb8) hv8).mono ?_; rintro e w9 ⟨rfl, hb9⟩))
        go_ret
        exact ⟨rfl, bt hout (bt (bt hb67 hb8) hb9)⟩

theorem bankBalances_own : ownKnob Try.prog.godebug = none := by kernel_rfl
theorem bankBalances_laid : laidOutB Try.prog = true := by kernel_rfl

set_option maxRecDepth 100000 in
theorem bankBalances_lifted (os : Os) (started : os.Started) (H : Type) (enc : TypeId × Value → H) :
    ReturnsInHanded {} Try.checked os 5 .any (Rows.bankBalancesSpec.pre6 enc Try.prog Try.f5 Rows.bankBalancesRow.domain false) (Rows.bankBalancesSpec.post enc Try.prog Try.f5 false true false false) := by
  refine returnsInHanded_of_change (C := Try.checked) bankBalances_own started (by kernel_rfl) Try.func5
    (ChangeSpec.witness6 (enc := enc) (C := Try.checked) false ⟨#[], #[.slice none 0 0, .int .u8 0, .int .u8 0], []⟩ 8 (by kernel_rfl) (by kernel_rfl) (by kernel_rfl) (by kernel_rfl)) ?_
  intro W base args ds gs before hval0 hW hcnd _
  have hval : ∀ (j : Nat) t v, Try.f5.params[j]? = some t → args[j]? = some v → Value.okWide Try.prog W .any base t v := hval0
  have hW' := hW
  obtain ⟨p, q, hA0, hV, rfl, hfz, hnd⟩ := hW
  have hA : DataW.TrodAll enc Try.prog W 0 (fun _ => true) true Try.f5.params.toList args.toList ds p := hA0
  rw [Try.params5] at hA hval
  obtain ⟨v0, vs0, d0, ds0, p0, q0, hargs0, rfl, rfl, h0, r0⟩ := trodAll_cons hA
  obtain ⟨v1, vs1, d1, ds1, p1, q1, hargs1, rfl, rfl, h1, r1⟩ := trodAll_cons r0
  obtain ⟨v2, vs2, d2, ds2, p2, q2, hargs2, rfl, rfl, h2, r2⟩ := trodAll_cons r1
  obtain ⟨rfl, rfl, rfl⟩ := trodAll_nil r2
  obtain rfl : args = #[v0, v1, v2] := by cases args; simp_all
  obtain ⟨rfl, rfl⟩ := trodVars_none hV
  have k0 := h0
  have lt0 : ∀ x ∈ p0, x.block < W.heap.size := by obtain ⟨m, hm⟩ := k0; exact DataW.trod_lt m _ _ _ hm
  have k1 := h1
  have lt1 : ∀ x ∈ p1, x.block < W.heap.size := by obtain ⟨m, hm⟩ := k1; exact DataW.trod_lt m _ _ _ hm
  have k2 := h2
  have lt2 : ∀ x ∈ p2, x.block < W.heap.size := by obtain ⟨m, hm⟩ := k2; exact DataW.trod_lt m _ _ _ hm
  obtain ⟨a0, len0, cap0, rfl⟩ := okWide_slice Try.underlying22 (hval 0 22 v0 rfl rfl)
  obtain ⟨fuel0, hf0⟩ := h0
  simp only [Value.cells] at hf0
  obtain ⟨l0, hl0⟩ := acts9_open hf0
  obtain ⟨n1, rfl⟩ := okWide_int Try.underlying5 (hval 1 5 v1 rfl rfl)
  obtain ⟨fuel1, hf1⟩ := h1
  simp only [Value.cells] at hf1
  obtain ⟨n2, rfl⟩ := okWide_int Try.underlying5 (hval 2 5 v2 rfl rfl)
  obtain ⟨fuel2, hf2⟩ := h2
  simp only [Value.cells] at hf2
  clear hA0 hval0
  have walk : Calls Try.prog 5 _ W fun e w' => e = .returned (.bool true) ∧ Below W.heap.size W w' := bankBalances_any a0 len0 cap0 l0 n1 n2 (slice_len Try.underlying22 hf0) hl0 (u8_in hf1) (u8_in hf2)
  refine walk.mono fun e W' ⟨he, bel⟩ => ?_
  subst he
  exact ⟨_, rfl, _, _, _, [], _, [], hW', trodAll_mk1 (shut_bool Try.underlying4 _), trodAll_cons_mk (Below.trod bankBalances_laid (by kernel_rfl) (of_decide_eq_true (by kernel_rfl)) k0 bel lt0) (trodAll_cons_mk (Below.trod bankBalances_laid (by kernel_rfl) (of_decide_eq_true (by kernel_rfl)) k1 bel lt1) (trodAll_cons_mk (Below.trod bankBalances_laid (by kernel_rfl) (of_decide_eq_true (by kernel_rfl)) k2 bel lt2) (trodAll_mk0))), rfl, bel.frame _, fun h => by cases h⟩

theorem bankBalances_holds : Rows.BankBalancesSaid :=
  OpenClaim.holds_of_wide 5 Try.f5 rfl rfl rfl rfl rfl rfl rfl ⟨rfl, rfl, rfl, rfl, rfl⟩ rfl rfl rfl rfl rfl (by kernel_rfl) Try.func5 (by kernel_rfl)
    (of_decide_eq_true (by kernel_rfl)) (by unfold Func.isWrapper; first | (rw [if_pos (by decide +kernel)]; kernel_rfl) | (rw [if_neg (by decide +kernel)]; exact ⟨rfl, rfl⟩))
    (fun os started H enc _ => bankBalances_lifted os started H enc)
#print axioms bankBalances_holds
end Go.Proofs.Ytgphdioolcfmmaa
