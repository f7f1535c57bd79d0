
/- For all deeds and any prefix jointurelaw05.StoreKeys returns true and writes nothing that was there: behind any deeds the keys that begin so are those that the document says, rising; all of them are those of no bytes. No condition. -/
import Derived.Test.YthajolagpnakkaaO27
import Derived.Test.YthajolagpnakkaaO28
set_option linter.unusedSimpArgs false
set_option linter.unusedVariables false
namespace Go.Proofs.Ythajolagpnakkaa
open Go.ChangeShapes Go.WideShapes Go.ChangeAt Go.RowKit

set_option maxRecDepth 10000 in
set_option maxHeartbeats 16000000 in
theorem storeKeys_any {w : World} (a : Option Addr) (len cap : Nat) (l : List Dd) (ka : Option Addr) (kn kc : Nat) (hm : len ≤ 9223372036854775807) (h : DdsIn w a len l) (hkn : kn ≤ 9223372036854775807) (hkey : kn ≤ 1048576 → ∃ q : List Int, q.length = kn ∧ ArgB w (.slice ka kn kc) q) :
    Calls Try.prog 6 #[.slice a len cap, .slice ka kn kc] w fun e w' => e = .returned (.bool true) ∧ Below w.heap.size w w' := by
  cases hf : fewD l
  · have hF : Hid (∀ W, Below w.heap.size w W → Calls Try.prog 12 #[.slice a len cap] W fun e w' => e = .returned (.bool false) ∧ Below W.heap.size W w') := fun W hW => by rw [← hf]; exact few_any hm h W hW
    clear hf hkey
    go_enter Try.func6, Try.ntmps6
    go_wp2_with (first
      | (go_at_call 11; refine (rolls_any w).mono ?_; rintro e w1 ⟨rfl, hb1⟩)
      | (go_at_call 12; refine (hF.out _ hb1).mono ?_; rintro e w2 ⟨rfl, hb2⟩)
      | (go_at_call 11; refine (rolls_any w2).mono ?_; rintro e w3 ⟨rfl, hb3⟩))
    go_ret
    exact ⟨rfl, bt (bt hb1 hb2) hb3⟩
  · have hF : Hid (∀ W, Below w.heap.size w W → Calls Try.prog 12 #[.slice a len cap] W fun e w' => e = .returned (.bool true) ∧ Below W.heap.size W w') := fun W hW => by rw [← hf]; exact few_any hm h W hW
    obtain ⟨hl40, hall⟩ := fewD_t hf
    have hnum := h.num
    have hlen' : (len : Int) ≤ 40 := by omega
    clear hf
    by_cases hk30 : 30 < kn
    · have hk' : (30 : Int) < (kn : Int) := by omega
      clear hkey
      go_enter Try.func6, Try.ntmps6
      go_wp2_with (first
        | (go_at_call 11; refine (rolls_any w).mono ?_; rintro e w1 ⟨rfl, hb1⟩)
        | (go_at_call 12; refine (hF.out _ hb1).mono ?_; rintro e w2 ⟨rfl, hb2⟩)
        | (go_at_call 11; refine (rolls_any w2).mono ?_; rintro e w3 ⟨rfl, hb3⟩))
      go_ret
      exact ⟨rfl, bt (bt hb1 hb2) hb3⟩
    · have hk' : ¬ (30 : Int) < (kn : Int) := by omega
      obtain ⟨key, hkl, hK⟩ := hkey (by omega)
      clear hkey
      go_enter Try.func6, Try.ntmps6
      go_wp2_with (first
        | (go_at_call 11; refine (rolls_any w).mono ?_; rintro e w1 ⟨rfl, hb1⟩)
        | (go_at_call 12; refine (hF.out _ hb1).mono ?_; rintro e w2 ⟨rfl, hb2⟩)
        | (go_at_call 13; refine (stdNew w2).mono ?_; rintro e w3 ⟨rfl, n3, hb3⟩))
      have hP := Pr.new (bt hb1 hb2) n3 hb3
      clear hb1 hb2 hb3 n3 hF
      generalize w2.heap.size = s at *
      generalize w3.heap.size = m at *
      generalize w3.alloc (.cells #[.slice none 0 0, .slice none 0 0] 31) = w4 at *
      go_loopw [7] (fun iv X => ∃ (i : Nat) (L : List (List Int × List Int)) (ds : List (List (List Int × List Int))) (A B : Nat → Prop), i ≤ len ∧ iv = .int .i64 (i : Int) ∧ Pr w X s m L L ds ds i i s m A B) (fun iv _ => len - (intOf iv).toNat)
      case atStart => exact ⟨0, [], [], _, _, by omega, rfl, hP⟩
      case round =>
        clear hP
        obtain ⟨i, L, ds, A, B, hi, rfl, hP⟩ := hrel
        by_cases hlt : i < len
        · have hlt' : (i : Int) < (len : Int) := by omega
          have hil : i < l.length := by omega
          obtain ⟨blk, off, rfl, hbl, c0, c1, c2⟩ := dd_at h hP.below hil
          have hmem := List.getElem_mem hil
          have hD := hP.does (by omega) (by omega) (h.ok _ hmem) (hall _ hmem).1 (hall _ hmem).2
          rw [ansD_same] at hD
          generalize l[i] = y at *
          go_wp2_with (go_at_call 14; refine hD.mono ?_; clear hD; rintro e w5 ⟨rfl, A5, B5, hP5, -⟩)
          all_goals go_roundw
          case rel => exact ⟨i + 1, _, _, A5, B5, by omega, by go_num, hP5⟩
          case measure => (simp [intOf]; omega)
        · obtain rfl : i = len := by omega
          have hKX := hK.below hP.below
          have hG := stdKeys hP.st (by omega) hKX.src hKX.byt hKX.len
          have hR : Hid (∀ X, Below wr.heap.size wr X → _) := fun X hX => rdKeys (hP.rd.below hX) (show i ≤ 1000 by omega) (hKX.isb.below hX) hKX.len
          have hsrt := keysS_srt hP.st.srt key
          have hin : ∀ x ∈ keysS L key, x.length ≤ 1048576 := fun x hx => by
            obtain ⟨vp, vj, vb, r, j, b, h1, h2, h3, -⟩ := hP.st
            rw [← h3, ← keysS_cont] at hx
            obtain ⟨y, hy, rfl⟩ := List.mem_map.1 hx
            exact (h1.recs y (List.mem_filter.1 hy).1).1.2.2
          have hKl : (keysS L key).length ≤ 1000 := by
            obtain ⟨vp, vj, vb, r, j, b, h1, h2, h3, h4, h5, -⟩ := hP.st
            unfold keysS
            rw [List.length_map]
            exact Nat.le_trans (List.length_filter_le _ _) (by omega)
          generalize keysS L key = K at *
          go_wp2_with (first
            | (go_at_call 23; refine hG.mono ?_; clear hG; rintro e w5 ⟨va, rfl, k5, hb5⟩; obtain ⟨⟨aa, ca, rfl⟩, -⟩ := id k5)
            | (go_at_call 24; refine (hR.out _ hb5).mono ?_; clear hR; rintro e w6 ⟨vb, rfl, k6, hb6⟩; obtain ⟨⟨ab, cb, rfl⟩, -⟩ := id k6))
          have k5' := k5.below hb6
          have hP6 := hP.down (bt hb5 hb6)
          have hK' : (K.length : Int) ≤ 1000 := by omega
          clear k5 hP hb5 hb6 hKX hK hall
          have hLK : Hid (∀ X, Below w6.heap.size w6 X → Kst X (.slice aa K.length ca) K ∧ Kst X (.slice ab K.length cb) K) := fun X hX => ⟨k5'.below hX, k6.below hX⟩
          clear k5' k6
          go_loopw [10] (fun iv X => ∃ (t : Nat), t ≤ K.length ∧ iv = .int .i64 (t : Int) ∧ Below w6.heap.size w6 X) (fun iv _ => K.length - (intOf iv).toNat)
          case atStart => exact ⟨0, by omega, rfl, Below.refl _ _⟩
          case round =>
            obtain ⟨t, ht, rfl, hX⟩ := hrel
            by_cases htl : t < K.length
            · have htl' : (t : Int) < (K.length : Int) := by omega
              obtain ⟨kA, kB⟩ := hLK.out _ hX
              obtain ⟨ga, cA, xa, ya, ev, hga, cellA, isA⟩ := kA.2 t htl
              simp at ev
              obtain ⟨rfl, rfl⟩ := ev
              obtain ⟨gb, cB, xb, yb, ev, hgb, cellB, isB⟩ := kB.2 t htl
              simp at ev
              obtain ⟨rfl, rfl⟩ := ev
              have hdn : ∀ q, Below wr.heap.size wr (wr.drewN q) := fun q => below_drewN (Below.refl _ _) q
              have hSm : ∀ q, Calls Try.prog 25 #[.slice xa K[t].length ya, .slice xb K[t].length yb] (wr.drewN q) fun e w' => e = .returned (.bool true) ∧ ∃ m, w' = (wr.drewN q).drewN m := fun q => by
                have := sameQ_any (wr.drewN q) (isA.below (hdn q)) (isB.below (hdn q))
                rwa [decide_eq_true rfl] at this
              rcases Nat.eq_zero_or_pos t with ht0 | ht0
              · have ht0' : decide ((0 : Int) < (t : Int)) = false := decide_eq_false (by omega)
                have ht0n : decide (0 < t) = false := decide_eq_false (by omega)
                have ht0m : ¬ 0 < t := by omega
                clear ht0 kA kB hLK isA isB
                generalize K[t].length = kt at *
                go_wp2
                go_quiet (first
                  | (go_at_call 25; exact Calls.quiet_of (hSm _)))
                go_wp2
                all_goals go_roundw
                case rel => exact ⟨t + 1, by omega, by go_num, bt hX (hdn nq)⟩
                case measure => (simp [intOf]; omega)
              · have ht0' : decide ((0 : Int) < (t : Int)) = true := decide_eq_true (by omega)
                obtain ⟨k, hk⟩ : ∃ k, t = k + 1 := ⟨t - 1, by omega⟩
                have hkl2 : k < K.length := by omega
                have hk1 : (t : Int) - 1 = (k : Int) := by omega
                have hkl' : (k : Int) < (K.length : Int) := by omega
                obtain ⟨gc, cC, xc, yc, ev, hgc, cellC, isC⟩ := kA.2 k hkl2
                simp at ev
                obtain ⟨rfl, rfl⟩ := ev
                have hlt2 : cmpB K[k] K[t] < 0 := List.pairwise_iff_getElem.1 hsrt k t hkl2 htl (by omega)
                have hLs : ∀ q, Calls Try.prog 26 #[.slice xc K[k].length yc, .slice xa K[t].length ya] (wr.drewN q) fun e w' => e = .returned (.bool true) ∧ ∃ m, w' = (wr.drewN q).drewN m := fun q => by
                  have := lessQ_any (wr.drewN q) (isC.below (hdn q)) (isA.below (hdn q)) (hin _ (List.getElem_mem _)) (hin _ (List.getElem_mem _))
                  rwa [decide_eq_true hlt2] at this
                have ht0n : decide (0 < t) = true := decide_eq_true (by omega)
                have ht0m : 0 < t := by omega
                clear hk kA kB hLK isA isB isC hlt2
                generalize K[t].length = kt at *
                generalize K[k].length = kk at *
                go_wp2
                go_quiet (first
                  | (go_at_call 25; exact Calls.quiet_of (hSm _))
                  | (go_at_call 26; exact Calls.quiet_of (hLs _)))
                go_wp2
                all_goals go_roundw
                case rel => exact ⟨t + 1, by omega, by go_num, bt hX (hdn nq)⟩
                case measure => (simp [intOf]; omega)
            · obtain rfl : t = K.length := by omega
              have hP7 := hP6.down hX
              have hG := stdKeys (u := .slice none 0 0) (p := []) hP7.st (by omega) (.inl ⟨rfl, rfl⟩) (by simp [Byte]) (by simp)
              have hle := keysS_all L
              have hLl : L.length ≤ 1000 := by
                obtain ⟨vp, vj, vb, r, j, b, h1, h2, h3, h4, h5, -⟩ := hP7.st
                omega
              go_wp2_with (first
                | (go_at_call 23; refine hG.mono ?_; clear hG; rintro e w7 ⟨vc, rfl, k7, hb7⟩; obtain ⟨⟨ac, cc, rfl⟩, -⟩ := id k7; have hLn := stdLen (hP7.down hb7).st; rw [hle])
                | (go_at_call 27; refine hLn.mono ?_; clear hLn; rintro e w8 ⟨rfl, hw⟩; obtain rfl := hw.symm))
              go_ret
              exact ⟨by simp, bt hP7.below hb7⟩

theorem storeKeys_own : ownKnob Try.prog.godebug = none := by kernel_rfl
theorem storeKeys_laid : laidOutB Try.prog = true := by kernel_rfl

set_option maxRecDepth 100000 in
theorem storeKeys_lifted (os : Os) (started : os.Started) (H : Type) (enc : TypeId × Value → H) :
    ReturnsInHanded {} Try.checked os 6 .any (Rows.storeKeysSpec.pre6 enc Try.prog Try.f6 Rows.storeKeysRow.domain false) (Rows.storeKeysSpec.post enc Try.prog Try.f6 false true false false) := by
  refine returnsInHanded_of_change (C := Try.checked) storeKeys_own started (by kernel_rfl) Try.func6
    (ChangeSpec.witness6 (enc := enc) (C := Try.checked) false ⟨#[], #[.slice none 0 0, .slice none 0 0], []⟩ 8 (by kernel_rfl) (by kernel_rfl) (by kernel_rfl) (by kernel_rfl)) ?_
  intro W base args ds gs before hval0 hW hcnd _
  have hval : ∀ (j : Nat) t v, Try.f6.params[j]? = some t → args[j]? = some v → Value.okWide Try.prog W .any base t v := hval0
  have hW' := hW
  obtain ⟨p, q, hA0, hV, rfl, hfz, hnd⟩ := hW
  have hA : DataW.TrodAll enc Try.prog W 0 (fun _ => true) true Try.f6.params.toList args.toList ds p := hA0
  rw [Try.params6] at hA hval
  obtain ⟨v0, vs0, d0, ds0, p0, q0, hargs0, rfl, rfl, h0, r0⟩ := trodAll_cons hA
  obtain ⟨v1, vs1, d1, ds1, p1, q1, hargs1, rfl, rfl, h1, r1⟩ := trodAll_cons r0
  obtain ⟨rfl, rfl, rfl⟩ := trodAll_nil r1
  obtain rfl : args = #[v0, v1] := by cases args; simp_all
  obtain ⟨rfl, rfl⟩ := trodVars_none hV
  have k0 := h0
  have lt0 : ∀ x ∈ p0, x.block < W.heap.size := by obtain ⟨m, hm⟩ := k0; exact DataW.trod_lt m _ _ _ hm
  have k1 := h1
  have lt1 : ∀ x ∈ p1, x.block < W.heap.size := by obtain ⟨m, hm⟩ := k1; exact DataW.trod_lt m _ _ _ hm
  obtain ⟨a0, len0, cap0, rfl⟩ := okWide_slice Try.underlying22 (hval 0 22 v0 rfl rfl)
  obtain ⟨fuel0, hf0⟩ := h0
  simp only [Value.cells] at hf0
  obtain ⟨l0, hl0⟩ := acts_open hf0
  obtain ⟨a1, len1, cap1, rfl⟩ := okWide_slice Try.underlying33 (hval 1 33 v1 rfl rfl)
  obtain ⟨fuel1, hf1⟩ := h1
  simp only [Value.cells] at hf1
  clear hA0 hval0
  have walk : Calls Try.prog 6 _ W fun e w' => e = .returned (.bool true) ∧ Below W.heap.size W w' := storeKeys_any a0 len0 cap0 l0 a1 len1 cap1 (slice_len Try.underlying22 hf0) hl0 (slice_len Try.underlying33 hf1) (fun hl => arg_of hf1 hl)
  refine walk.mono fun e W' ⟨he, bel⟩ => ?_
  subst he
  exact ⟨_, rfl, _, _, _, [], _, [], hW', trodAll_mk1 (shut_bool Try.underlying4 _), trodAll_cons_mk (Below.trod storeKeys_laid (by kernel_rfl) (of_decide_eq_true (by kernel_rfl)) k0 bel lt0) (trodAll_cons_mk (Below.trod storeKeys_laid (by kernel_rfl) (of_decide_eq_true (by kernel_rfl)) k1 bel lt1) (trodAll_mk0)), rfl, bel.frame _, fun h => by cases h⟩

theorem storeKeys_holds : Rows.StoreKeysSaid :=
  OpenClaim.holds_of_wide 6 Try.f6 rfl rfl rfl rfl rfl rfl rfl ⟨rfl, rfl, rfl, rfl, rfl⟩ rfl rfl rfl rfl rfl (by kernel_rfl) Try.func6 (by kernel_rfl)
    (of_decide_eq_true (by kernel_rfl)) (by unfold Func.isWrapper; first | (rw [if_pos (by decide +kernel)]; kernel_rfl) | (rw [if_neg (by decide +kernel)]; exact ⟨rfl, rfl⟩))
    (fun os started H enc _ => storeKeys_lifted os started H enc)
#print axioms storeKeys_holds
end Go.Proofs.Ythajolagpnakkaa
