
/- For all deeds jointurelaw09.BankSums returns true and writes nothing that was there: behind each of any deeds all balances together are the supply. No condition. -/
import Derived.Test.YtgphdioolcfmmaaBK23M
set_option linter.unusedSimpArgs false
set_option linter.unusedVariables false
set_option maxRecDepth 20000
namespace Go.Proofs.Ytgphdioolcfmmaa
open Go.ChangeShapes Go.WideShapes Go.ChangeAt Go.RowKit

set_option maxRecDepth 10000 in
set_option maxHeartbeats 8000000 in
theorem bankSums_any {w : World} (a : Option Addr) (len cap : Nat) (l : List Ac) (hm : len ≤ 9223372036854775807) (h : AcsIn w a len l) :
    Calls Try.prog 4 #[.slice a len cap] w fun e w' => e = .returned (.bool true) ∧ Below w.heap.size w w' := by
  cases hf : fewA l
  · have hF : Hid (∀ W, Below w.heap.size w W → Calls Try.prog 10 #[.slice a len cap] W fun e w' => e = .returned (.bool false) ∧ Below W.heap.size W w') := fun W hW => by rw [← hf]; exact few9_any hm h W hW
    clear hf
    go_enter Try.func4, Try.ntmps4
    go_upto_region 2 with (first
      | (go_at_call 9; refine (sends_any _).mono ?_; rintro e w1 ⟨rfl, hb1⟩)
      | (go_at_call 10; refine (hF.out _ hb1).mono ?_; rintro e w2 ⟨rfl, hb2⟩))
    go_wp2_with (go_at_call 9; refine (sends_any _).mono ?_; rintro e w3 ⟨rfl, hb3⟩)
    go_ret
    exact ⟨rfl, bt (bt hb1 hb2) hb3⟩
  · have hF : Hid (∀ W, Below w.heap.size w W → Calls Try.prog 10 #[.slice a len cap] W fun e w' => e = .returned (.bool true) ∧ Below W.heap.size W w') := fun W hW => by rw [← hf]; exact few9_any hm h W hW
    obtain ⟨hl30, hn12⟩ := fewA_t hf
    have hln := h.num
    clear hf
    go_enter Try.func4, Try.ntmps4
    go_wp2_with (first
      | (go_at_call 9; refine (sends_any _).mono ?_; rintro e w1 ⟨rfl, hb1⟩)
      | (go_at_call 10; refine (hF.out _ hb1).mono ?_; rintro e w2 ⟨rfl, hb2⟩; have hb12 := bt hb1 hb2; clear hb1 hb2 hF)
      | (go_at_call 11; refine (stdNew _).mono ?_; rintro e w3 ⟨rfl, h3, hb3⟩; have hP := bp_new hb12 h3 hb3; clear h3 hb3))
    go_loopw [5] (fun i X => ∃ (j : Nat) (b : Nat → Nat → Cn), j ≤ len ∧ i = .int .i64 (j : Int) ∧ BP w X w2.heap.size w3.heap.size b (16 * j)) (fun i _ => len - (intOf i).toNat)
    case atStart => exact ⟨0, _, by omega, rfl, hP⟩
    case round =>
      obtain ⟨j, b, hj, rfl, hB⟩ := hrel
      by_cases hlt : j < len
      · have hkl : j < l.length := by omega
        obtain ⟨blk, off, rfl, hb, c0, c1, c2, c3, c4⟩ := ac_at h hB.out hkl
        have hy := h.ok l[j] (List.getElem_mem hkl)
        have hy12 := hn12 l[j] (List.getElem_mem hkl)
        have hD := does9_any hB (by omega) hy hy12
        generalize l[j] = y at *
        obtain ⟨d, f, t, ya, yn, yc, yo, yL⟩ := y
        simp only at c0 c1 c2 c3 c4 hD hy12
        have hlt' : (j : Int) < (len : Int) := by omega
        clear hy hP h hB
        go_upto_region 10 with (first
          | (go_at_call 12; refine hD.mono ?_; clear hD; rintro e w4 ⟨rfl, b', hB4⟩; have hB4' := hB4; obtain ⟨A, L, base, B, base', vs, vb, M, hSt, hBk, hI, -⟩ := hB4)
          | (go_at_call 14; refine (allB_any hSt hBk (by omega)).mono ?_; rintro e w5 ⟨ov, O, rfl, hO, hb5⟩; obtain ⟨ao, ko, rfl⟩ := row_slice hO.row))
        have hB5 := hB4'.below hb5
        have hsp : Hid (∀ Z, Below w5.heap.size w5 Z → Calls Try.prog 17 #[.pointer (some ⟨w2.heap.size, 0, none⟩)] Z fun e w' => ∃ v, e = .returned v ∧ IsCoins w' v (lst (b' 256) 8) ∧ Below Z.heap.size Z w') := fun Z hZ => supply_any (hSt.below (bt hb5 hZ)) hBk (by omega)
        have hadr := hO.adr
        have hol := hO.len
        clear hSt hBk hB4' hb5
        go_wp2
        go_loopw [6, 8] (fun sv kv Y => ∃ k : Nat, k ≤ O.length ∧ kv = .int .i64 (k : Int) ∧ IsCoins Y sv (lst (sumP b' ((O.map (·.1)).take k)) 8) ∧ Below w5.heap.size w5 Y) (fun _ kv _ => O.length - (intOf kv).toNat)
        case atStart => exact ⟨0, by omega, rfl, .inl ⟨by rw [List.take_zero]; exact sumP_nil, _, _, rfl⟩, Below.refl _ _⟩
        case round =>
          obtain ⟨k, hk, rfl, hsum, hY⟩ := hrel
          by_cases hkl : k < O.length
          · have hkl' : (k : Int) < (O.length : Int) := by omega
            obtain ⟨go, co, ev, hgo, f0, f1⟩ := hO.at hkl
            simp at ev
            obtain ⟨rfl, rfl⟩ := ev
            have q1 := (hO.all O[k] (List.getElem_mem hkl)).1
            have hps : (O.map (·.1)).take k ++ O[k].1 :: (O.map (·.1)).drop (k + 1) = asF b' 205 0 := by
              rw [← hadr]
              have e := List.take_append_drop k (O.map (·.1))
              rw [List.drop_eq_getElem_cons (by simpa using hkl)] at e
              simpa using e
            have htk : (O.map (·.1)).take (k + 1) = (O.map (·.1)).take k ++ [O[k].1] := by
              rw [List.take_succ_eq_append_getElem (by simpa using hkl)]
              simp
            have hp : O[k].1 ≤ 256 := by
              have h2 : O[k].1 ∈ asF b' 205 0 := by rw [← hadr]; exact List.mem_map.2 ⟨_, List.getElem_mem hkl, rfl⟩
              have := (asF_mem 205 0).1 h2
              omega
            obtain ⟨s1, s2⟩ := sumP_snoc hI hps
            obtain ⟨a1, n1, e1⟩ := cn_slice q1
            obtain ⟨a2, n2, e2⟩ := cn_slice hsum
            rw [e1] at q1 f1
            subst e2
            have q1r := q1.below hY
            have f1r := (hY.cell (p := ⟨go, k * 2 + 1, none⟩) hgo).trans f1
            have hAdd := fun Z (hZ : Below wr.heap.size wr Z) => addRC_fit (purse_sumP hI hps) (hI.pur _ hp) s1 Z (hsum.below hZ) (q1r.below hZ)
            rw [s2, ← htk] at hAdd
            obtain ⟨l1, hl1⟩ : ∃ l1, Hid (lst (sumP b' ((O.map (·.1)).take (k + 1))) 8 = l1) := ⟨_, rfl⟩
            rw [hl1.out] at hAdd
            clear s1 s2 hps htk q1 e1 f0 f1 hsum q1r
            generalize (lst (sumP b' ((O.map (·.1)).take k)) 8).length = m0 at hAdd ⊢
            generalize (lst (b' O[k].1) 8).length = m1 at hAdd f1r
            replace hAdd : Hid (∀ Z, Below wr.heap.size wr Z → _) := hAdd
            go_wp2_with (go_at_call 15; with_reducible refine (hAdd.out _ (Below.refl _ _)).mono ?_; clear hAdd; rintro e w6 ⟨u, rfl, hu, hb6⟩)
            all_goals go_roundw
            case rel => exact ⟨k + 1, by omega, by go_num, by rw [hl1.out]; exact hu, bt hY hb6⟩
            case measure => (simp [intOf] <;> omega)
          · have hkn : k = O.length := by omega
            subst hkn
            have e : (O.map (·.1)).take O.length = O.map (·.1) := List.take_of_length_le (by simp)
            rw [e, hadr, sumP_all hI] at hsum
            go_wp2_with (first
              | (go_at_call 17; refine (hsp.out _ hY).mono ?_; rintro e w7 ⟨v7, rfl, hv7, hb7⟩)
              | (go_at_call 16; refine (sameC_any _ (hsum.below hb7) hv7).mono ?_; rintro e w8 ⟨rfl, hb8⟩))
            all_goals go_roundw
            case rel => exact ⟨j + 1, b', by omega, by go_num, (hB5.below (bt (bt hY hb7) hb8)).up (by omega)⟩
            case measure => (simp [intOf] <;> omega)
      · have hjn : j = len := by omega
        subst hjn
        go_wp2
        go_ret
        exact ⟨rfl, hB.out⟩

theorem bankSums_own : ownKnob Try.prog.godebug = none := by kernel_rfl
theorem bankSums_laid : laidOutB Try.prog = true := by kernel_rfl

set_option maxRecDepth 100000 in
theorem bankSums_lifted (os : Os) (started : os.Started) (H : Type) (enc : TypeId × Value → H) :
    ReturnsInHanded {} Try.checked os 4 .any (Rows.bankSumsSpec.pre6 enc Try.prog Try.f4 Rows.bankSumsRow.domain false) (Rows.bankSumsSpec.post enc Try.prog Try.f4 false true false false) := by
  refine returnsInHanded_of_change (C := Try.checked) bankSums_own started (by kernel_rfl) Try.func4
    (ChangeSpec.witness6 (enc := enc) (C := Try.checked) false ⟨#[], #[.slice none 0 0], []⟩ 8 (by kernel_rfl) (by kernel_rfl) (by kernel_rfl) (by kernel_rfl)) ?_
  intro W base args ds gs before hval0 hW hcnd _
  have hval : ∀ (j : Nat) t v, Try.f4.params[j]? = some t → args[j]? = some v → Value.okWide Try.prog W .any base t v := hval0
  have hW' := hW
  obtain ⟨p, q, hA0, hV, rfl, hfz, hnd⟩ := hW
  have hA : DataW.TrodAll enc Try.prog W 0 (fun _ => true) true Try.f4.params.toList args.toList ds p := hA0
  rw [Try.params4] at hA hval
  obtain ⟨v0, vs0, d0, ds0, p0, q0, hargs0, rfl, rfl, h0, r0⟩ := trodAll_cons hA
  obtain ⟨rfl, rfl, rfl⟩ := trodAll_nil r0
  obtain rfl : args = #[v0] := by cases args; simp_all
  obtain ⟨rfl, rfl⟩ := trodVars_none hV
  have k0 := h0
  have lt0 : ∀ x ∈ p0, x.block < W.heap.size := by obtain ⟨m, hm⟩ := k0; exact DataW.trod_lt m _ _ _ hm
  obtain ⟨a0, len0, cap0, rfl⟩ := okWide_slice Try.underlying22 (hval 0 22 v0 rfl rfl)
  obtain ⟨fuel0, hf0⟩ := h0
  simp only [Value.cells] at hf0
  obtain ⟨l0, hl0⟩ := acts9_open hf0
  clear hA0 hval0
  have walk : Calls Try.prog 4 _ W fun e w' => e = .returned (.bool true) ∧ Below W.heap.size W w' := bankSums_any a0 len0 cap0 l0 (slice_len Try.underlying22 hf0) hl0
  refine walk.mono fun e W' ⟨he, bel⟩ => ?_
  subst he
  exact ⟨_, rfl, _, _, _, [], _, [], hW', trodAll_mk1 (shut_bool Try.underlying4 _), trodAll_cons_mk (Below.trod bankSums_laid (by kernel_rfl) (of_decide_eq_true (by kernel_rfl)) k0 bel lt0) (trodAll_mk0), rfl, bel.frame _, fun h => by cases h⟩

theorem bankSums_holds : Rows.BankSumsSaid :=
  OpenClaim.holds_of_wide 4 Try.f4 rfl rfl rfl rfl rfl rfl rfl ⟨rfl, rfl, rfl, rfl, rfl⟩ rfl rfl rfl rfl rfl (by kernel_rfl) Try.func4 (by kernel_rfl)
    (of_decide_eq_true (by kernel_rfl)) (by unfold Func.isWrapper; first | (rw [if_pos (by decide +kernel)]; kernel_rfl) | (rw [if_neg (by decide +kernel)]; exact ⟨rfl, rfl⟩))
    (fun os started H enc _ => bankSums_lifted os started H enc)
#print axioms bankSums_holds
end Go.Proofs.Ytgphdioolcfmmaa
