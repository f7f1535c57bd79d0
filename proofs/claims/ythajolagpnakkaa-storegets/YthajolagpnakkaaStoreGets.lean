
/- For all deeds and any key jointurelaw05.StoreGets returns true and writes nothing that was there: behind any deeds a key's value, or that there is none, is what the document says. No condition. -/
import Derived.Test.YthajolagpnakkaaO25
set_option linter.unusedSimpArgs false
set_option linter.unusedVariables false
namespace Go.Proofs.Ythajolagpnakkaa
open Go.ChangeShapes Go.WideShapes Go.ChangeAt Go.RowKit

set_option maxRecDepth 10000 in
set_option maxHeartbeats 8000000 in
theorem storeGets_any {w : World} (a : Option Addr) (len cap : Nat) (l : List Dd) (ka : Option Addr) (kn kc : Nat) (hm : len ≤ 9223372036854775807) (h : DdsIn w a len l) (hkn : kn ≤ 9223372036854775807) (hkey : kn ≤ 1048576 → ∃ q : List Int, q.length = kn ∧ ArgB w (.slice ka kn kc) q) :
    Calls Try.prog 7 #[.slice a len cap, .slice ka kn kc] w fun e w' => e = .returned (.bool true) ∧ Below w.heap.size w w' := by
  cases hf : fewD l
  · have hF : Hid (∀ W, Below w.heap.size w W → Calls Try.prog 12 #[.slice a len cap] W fun e w' => e = .returned (.bool false) ∧ Below W.heap.size W w') := fun W hW => by rw [← hf]; exact few_any hm h W hW
    clear hf hkey
    go_enter Try.func7, Try.ntmps7
    go_wp2_with (first
      | (go_at_call 11; refine (rolls_any w).mono ?_; rintro e w1 ⟨rfl, hb1⟩)
      | (go_at_call 12; refine (hF.out _ hb1).mono ?_; rintro e w2 ⟨rfl, hb2⟩)
      | (go_at_call 11; refine (rolls_any w2).mono ?_; rintro e w3 ⟨rfl, hb3⟩))
    go_ret
    exact ⟨rfl, bt (bt hb1 hb2) hb3⟩
  · have hF : Hid (∀ W, Below w.heap.size w W → Calls Try.prog 12 #[.slice a len cap] W fun e w' => e = .returned (.bool true) ∧ Below W.heap.size W w') := fun W hW => by rw [← hf]; exact few_any hm h W hW
    obtain ⟨hl40, hall⟩ := fewD_t hf
    have hnum := h.num
    have hlen' : (len : Int) ≤ 40 := by omega
    clear hf
    by_cases hk30 : 30 < kn
    · have hk' : (30 : Int) < (kn : Int) := by omega
      clear hkey
      go_enter Try.func7, Try.ntmps7
      go_wp2_with (first
        | (go_at_call 11; refine (rolls_any w).mono ?_; rintro e w1 ⟨rfl, hb1⟩)
        | (go_at_call 12; refine (hF.out _ hb1).mono ?_; rintro e w2 ⟨rfl, hb2⟩)
        | (go_at_call 11; refine (rolls_any w2).mono ?_; rintro e w3 ⟨rfl, hb3⟩))
      go_ret
      exact ⟨rfl, bt (bt hb1 hb2) hb3⟩
    · have hk' : ¬ (30 : Int) < (kn : Int) := by omega
      obtain ⟨key, hkl, hK⟩ := hkey (by omega)
      clear hkey
      go_enter Try.func7, Try.ntmps7
      go_wp2_with (first
        | (go_at_call 11; refine (rolls_any w).mono ?_; rintro e w1 ⟨rfl, hb1⟩)
        | (go_at_call 12; refine (hF.out _ hb1).mono ?_; rintro e w2 ⟨rfl, hb2⟩)
        | (go_at_call 13; refine (stdNew w2).mono ?_; rintro e w3 ⟨rfl, n3, hb3⟩))
      have hP := Pr.new (bt hb1 hb2) n3 hb3
      clear hb1 hb2 hb3 n3 hF
      generalize w2.heap.size = s at *
      generalize w3.heap.size = m at *
      generalize w3.alloc (.cells #[.slice none 0 0, .slice none 0 0] 31) = w4 at *
      go_loopw [7] (fun iv X => ∃ (i : Nat) (L : List (List Int × List Int)) (ds : List (List (List Int × List Int))) (A B : Nat → Prop), i ≤ len ∧ iv = .int .i64 (i : Int) ∧ Pr w X s m L L ds ds i i s m A B) (fun iv _ => len - (intOf iv).toNat)
      case atStart => exact ⟨0, [], [], _, _, by omega, rfl, hP⟩
      case round =>
        clear hP
        obtain ⟨i, L, ds, A, B, hi, rfl, hP⟩ := hrel
        by_cases hlt : i < len
        · have hlt' : (i : Int) < (len : Int) := by omega
          have hil : i < l.length := by omega
          obtain ⟨blk, off, rfl, hbl, c0, c1, c2⟩ := dd_at h hP.below hil
          have hmem := List.getElem_mem hil
          have hD := hP.does (by omega) (by omega) (h.ok _ hmem) (hall _ hmem).1 (hall _ hmem).2
          rw [ansD_same] at hD
          generalize l[i] = y at *
          go_wp2_with (go_at_call 14; refine hD.mono ?_; clear hD; rintro e w5 ⟨rfl, A5, B5, hP5, -⟩)
          all_goals go_roundw
          case rel => exact ⟨i + 1, _, _, A5, B5, by omega, by go_num, hP5⟩
          case measure => (simp [intOf]; omega)
        · obtain rfl : i = len := by omega
          have hKX := hK.below hP.below
          have hG := stdGet hP.st (by omega) hKX.src hKX.byt
          have hR : Hid (∀ X, Below wr.heap.size wr X → _) := fun X hX => rdGet (hP.rd.below hX) (show i ≤ 1000 by omega) (hKX.isb.below hX)
          cases hg : getS L key with
          | none =>
            rw [hg] at hG hR
            clear hg
            go_wp2_with (first
              | (go_at_call 28; refine hG.mono ?_; clear hG; rintro e w5 ⟨hb5, h0⟩; (have h0' : e = .returned (.tuple #[.slice none 0 0, .bool false]) := (by rcases h0 with ⟨-, e⟩ | ⟨v, q, e1, -⟩; (exact e); (cases e1))); clear h0; subst h0')
              | (go_at_call 29; refine (hR.out _ hb5).mono ?_; clear hR; rintro e w6 ⟨hb6, h0⟩; (have h0' : e = .returned (.tuple #[.slice none 0 0, .bool false]) := (by rcases h0 with ⟨-, e⟩ | ⟨v, q, e1, -⟩; (exact e); (cases e1))); clear h0; subst h0')
              | (go_at_call 25; refine (same_nil _ _ _ _ _).mono ?_; rintro e w7 ⟨rfl, hb7⟩))
            go_ret
            exact ⟨rfl, bt hP.below (bt hb5 (bt hb6 hb7))⟩
          | some q =>
            rw [hg] at hG hR
            clear hg
            go_wp2_with (first
              | (go_at_call 28; refine hG.mono ?_; clear hG; rintro e w5 ⟨hb5, h0⟩; (have h0' : ∃ x y, e = .returned (.tuple #[.slice x q.length y, .bool true]) ∧ IsBytes w5 (.slice x q.length y) q := (by rcases h0 with ⟨e1, -⟩ | ⟨v, q', e1, e2, e3⟩; (cases e1); (simp at e1; subst e1; obtain ⟨x, y, rfl⟩ := e3.slice; exact ⟨x, y, e2, e3⟩))); clear h0; obtain ⟨x5, y5, rfl, hq5⟩ := h0')
              | (go_at_call 29; refine (hR.out _ hb5).mono ?_; clear hR; rintro e w6 ⟨hb6, h0⟩; (have h0' : ∃ x y, e = .returned (.tuple #[.slice x q.length y, .bool true]) ∧ IsBytes w6 (.slice x q.length y) q := (by rcases h0 with ⟨e1, -⟩ | ⟨v, q', e1, e2, e3⟩; (cases e1); (simp at e1; subst e1; obtain ⟨x, y, rfl⟩ := e3.slice; exact ⟨x, y, e2, e3⟩))); clear h0; obtain ⟨x6, y6, rfl, hq6⟩ := h0'; have hS := same_any w6 (hq5.below hb6) hq6; rw [decide_eq_true rfl] at hS)
              | (go_at_call 25; refine hS.mono ?_; rintro e w7 ⟨rfl, hb7⟩))
            go_ret
            exact ⟨rfl, bt hP.below (bt hb5 (bt hb6 hb7))⟩

theorem storeGets_own : ownKnob Try.prog.godebug = none := by kernel_rfl
theorem storeGets_laid : laidOutB Try.prog = true := by kernel_rfl

set_option maxRecDepth 100000 in
theorem storeGets_lifted (os : Os) (started : os.Started) (H : Type) (enc : TypeId × Value → H) :
    ReturnsInHanded {} Try.checked os 7 .any (Rows.storeGetsSpec.pre6 enc Try.prog Try.f7 Rows.storeGetsRow.domain false) (Rows.storeGetsSpec.post enc Try.prog Try.f7 false true false false) := by
  refine returnsInHanded_of_change (C := Try.checked) storeGets_own started (by kernel_rfl) Try.func7
    (ChangeSpec.witness6 (enc := enc) (C := Try.checked) false ⟨#[], #[.slice none 0 0, .slice none 0 0], []⟩ 8 (by kernel_rfl) (by kernel_rfl) (by kernel_rfl) (by kernel_rfl)) ?_
  intro W base args ds gs before hval0 hW hcnd _
  have hval : ∀ (j : Nat) t v, Try.f7.params[j]? = some t → args[j]? = some v → Value.okWide Try.prog W .any base t v := hval0
  have hW' := hW
  obtain ⟨p, q, hA0, hV, rfl, hfz, hnd⟩ := hW
  have hA : DataW.TrodAll enc Try.prog W 0 (fun _ => true) true Try.f7.params.toList args.toList ds p := hA0
  rw [Try.params7] at hA hval
  obtain ⟨v0, vs0, d0, ds0, p0, q0, hargs0, rfl, rfl, h0, r0⟩ := trodAll_cons hA
  obtain ⟨v1, vs1, d1, ds1, p1, q1, hargs1, rfl, rfl, h1, r1⟩ := trodAll_cons r0
  obtain ⟨rfl, rfl, rfl⟩ := trodAll_nil r1
  obtain rfl : args = #[v0, v1] := by cases args; simp_all
  obtain ⟨rfl, rfl⟩ := trodVars_none hV
  have k0 := h0
  have lt0 : ∀ x ∈ p0, x.block < W.heap.size := by obtain ⟨m, hm⟩ := k0; exact DataW.trod_lt m _ _ _ hm
  have k1 := h1
  have lt1 : ∀ x ∈ p1, x.block < W.heap.size := by obtain ⟨m, hm⟩ := k1; exact DataW.trod_lt m _ _ _ hm
  obtain ⟨a0, len0, cap0, rfl⟩ := okWide_slice Try.underlying22 (hval 0 22 v0 rfl rfl)
  obtain ⟨fuel0, hf0⟩ := h0
  simp only [Value.cells] at hf0
  obtain ⟨l0, hl0⟩ := acts_open hf0
  obtain ⟨a1, len1, cap1, rfl⟩ := okWide_slice Try.underlying33 (hval 1 33 v1 rfl rfl)
  obtain ⟨fuel1, hf1⟩ := h1
  simp only [Value.cells] at hf1
  clear hA0 hval0
  have walk : Calls Try.prog 7 _ W fun e w' => e = .returned (.bool true) ∧ Below W.heap.size W w' := storeGets_any a0 len0 cap0 l0 a1 len1 cap1 (slice_len Try.underlying22 hf0) hl0 (slice_len Try.underlying33 hf1) (fun hl => arg_of hf1 hl)
  refine walk.mono fun e W' ⟨he, bel⟩ => ?_
  subst he
  exact ⟨_, rfl, _, _, _, [], _, [], hW', trodAll_mk1 (shut_bool Try.underlying4 _), trodAll_cons_mk (Below.trod storeGets_laid (by kernel_rfl) (of_decide_eq_true (by kernel_rfl)) k0 bel lt0) (trodAll_cons_mk (Below.trod storeGets_laid (by kernel_rfl) (of_decide_eq_true (by kernel_rfl)) k1 bel lt1) (trodAll_mk0)), rfl, bel.frame _, fun h => by cases h⟩

theorem storeGets_holds : Rows.StoreGetsSaid :=
  OpenClaim.holds_of_wide 7 Try.f7 rfl rfl rfl rfl rfl rfl rfl ⟨rfl, rfl, rfl, rfl, rfl⟩ rfl rfl rfl rfl rfl (by kernel_rfl) Try.func7 (by kernel_rfl)
    (of_decide_eq_true (by kernel_rfl)) (by unfold Func.isWrapper; first | (rw [if_pos (by decide +kernel)]; kernel_rfl) | (rw [if_neg (by decide +kernel)]; exact ⟨rfl, rfl⟩))
    (fun os started H enc _ => storeGets_lifted os started H enc)
#print axioms storeGets_holds
end Go.Proofs.Ythajolagpnakkaa
