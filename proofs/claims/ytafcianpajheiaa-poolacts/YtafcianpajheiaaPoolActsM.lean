
/- For all deeds jointurelaw11.PoolActs returns true and writes nothing that was there: behind each of any deeds, which validators and delegations there are, all that is in them, in order, are as the document says. No condition. -/
import Derived.Test.YtafcianpajheiaaPQ7
import Derived.Deep.MidRow
set_option linter.unusedSimpArgs false
set_option linter.unusedVariables false
set_option maxRecDepth 20000
namespace Go.Proofs.Ytafcianpajheiaa
open Go.ChangeShapes Go.WideShapes Go.ChangeAt Go.RowKit

theorem fewP_t {l : List Pact} (h : fewP l = true) : l.length ≤ 30 := by
  simp only [fewP, Bool.and_eq_true, decide_eq_true_eq] at h; exact h.1
set_option maxRecDepth 20000 in
set_option maxHeartbeats 8000000 in
theorem poolActs_any {w : World} (a : Option Addr) (len cap : Nat) (l : List Pact) (hm : len ≤ 9223372036854775807) (h : PasIn w a len l) :
    Calls Try.prog 3 #[.slice a len cap] w fun e w' => e = .returned (.bool true) ∧ Below w.heap.size w w' := by
  cases hf : fewP l
  · have hF : Hid (∀ W, Below w.heap.size w W → Calls Try.prog 9 #[.slice a len cap] W fun e w' => e = .returned (.bool false) ∧ Below W.heap.size W w') := fun W hW => by rw [← hf]; exact few11_any hm h W hW
    clear hf
    go_enter Try.func3, Try.ntmps3
    go_upto_region 2 with (first
      | (go_at_call 8; refine (adds_any _).mono ?_; rintro e w1 ⟨rfl, hb1⟩)
      | (go_at_call 9; refine (hF.out _ hb1).mono ?_; rintro e w2 ⟨rfl, hb2⟩))
    go_wp2_with (go_at_call 8; refine (adds_any _).mono ?_; rintro e w3 ⟨rfl, hb3⟩)
    go_ret
    exact ⟨rfl, bt (bt hb1 hb2) hb3⟩
  · have hF : Hid (∀ W, Below w.heap.size w W → Calls Try.prog 9 #[.slice a len cap] W fun e w' => e = .returned (.bool true) ∧ Below W.heap.size W w') := fun W hW => by rw [← hf]; exact few11_any hm h W hW
    have hl30 := fewP_t hf
    have hln := h.num
    clear hf
    go_enter Try.func3, Try.ntmps3
    go_wp2_with (first
      | (go_at_call 8; refine (adds_any _).mono ?_; rintro e w1 ⟨rfl, hb1⟩)
      | (go_at_call 9; refine (hF.out _ hb1).mono ?_; rintro e w2 ⟨rfl, hb2⟩; have hb12 := bt hb1 hb2; clear hb1 hb2 hF)
      | (go_at_call 10; refine (stdNew _).mono ?_; rintro e w3 ⟨rfl, h3, hb3⟩; have hP := pp_new hb12 h3 hb3; clear h3 hb3))
    go_loopw [5] (fun i X => ∃ (j : Nat) (V : List Vd) (D : List Dg), j ≤ len ∧ i = .int .i64 (j : Int) ∧ PP w X w2.heap.size w3.heap.size V D j) (fun i _ => len - (intOf i).toNat)
    case atStart => exact ⟨0, _, _, by omega, rfl, hP⟩
    case round =>
      obtain ⟨j, V, D, hj, rfl, hB⟩ := hrel
      by_cases hlt : j < len
      · have hkl : j < l.length := by omega
        obtain ⟨blk, off, rfl, hb, hc⟩ := pac_at h hB.out hkl
        have hy := h.ok l[j] (List.getElem_mem hkl)
        have hD := does11_any hB (by omega) hy
        have hD' : Hid (Calls Try.prog 11 #[.pointer (some ⟨w2.heap.size, 0, none⟩), .pointer (some ⟨w3.heap.size, 0, none⟩), .agg (paC l[j]).toArray] wr fun e w' => e = .returned (.bool true) ∧ ∃ V' D', PP w w' w2.heap.size w3.heap.size V' D' (j + 1)) := hD
        have hc : Hid (wr.rangeAt blk (off + j * 22) (paC l[j])) := fun t v ht => hc t v ht
        clear hD
        generalize l[j] = y at *
        have hlt' : (j : Int) < (len : Int) := by omega
        clear hy hP h hB
        go_wp2_with (first
          | (refine wpList_load_mid rfl 47 _ rfl blk (off + j * 22) rfl (paC y) _ hc.out Try.underlying47 rfl (by kernel_rfl) ?_)
          | (go_at_call 11; refine (Calls.mono hD'.out ?_); rintro e w4 ⟨rfl, V', D', hB4⟩)
          | (go_at_call 12; refine (same11p_any hB4 (by omega)).mono ?_; rintro e w5 ⟨rfl, hb5⟩))
        all_goals go_roundw
        case rel => exact ⟨j + 1, V', D', by omega, by go_num, hB4.below hb5⟩
        case measure => (simp [intOf] <;> omega)
      · have hjn : j = len := by omega
        subst hjn
        go_wp2
        go_ret
        exact ⟨rfl, hB.out⟩

theorem poolActs_own : ownKnob Try.prog.godebug = none := by kernel_rfl
theorem poolActs_laid : laidOutB Try.prog = true := by kernel_rfl

set_option maxRecDepth 100000 in
theorem poolActs_lifted (os : Os) (started : os.Started) (H : Type) (enc : TypeId × Value → H) :
    ReturnsInHanded {} Try.checked os 3 .any (Rows.poolActsSpec.pre6 enc Try.prog Try.f3 Rows.poolActsRow.domain false) (Rows.poolActsSpec.post enc Try.prog Try.f3 false true false false) := by
  refine returnsInHanded_of_change (C := Try.checked) poolActs_own started (by kernel_rfl) Try.func3
    (ChangeSpec.witness6 (enc := enc) (C := Try.checked) false ⟨#[], #[.slice none 0 0], []⟩ 8 (by kernel_rfl) (by kernel_rfl) (by kernel_rfl) (by kernel_rfl)) ?_
  intro W base args ds gs before hval0 hW hcnd _
  have hval : ∀ (j : Nat) t v, Try.f3.params[j]? = some t → args[j]? = some v → Value.okWide Try.prog W .any base t v := hval0
  have hW' := hW
  obtain ⟨p, q, hA0, hV, rfl, hfz, hnd⟩ := hW
  have hA : DataW.TrodAll enc Try.prog W 0 (fun _ => true) true Try.f3.params.toList args.toList ds p := hA0
  rw [Try.params3] at hA hval
  obtain ⟨v0, vs0, d0, ds0, p0, q0, hargs0, rfl, rfl, h0, r0⟩ := trodAll_cons hA
  obtain ⟨rfl, rfl, rfl⟩ := trodAll_nil r0
  obtain rfl : args = #[v0] := by cases args; simp_all
  obtain ⟨rfl, rfl⟩ := trodVars_none hV
  have k0 := h0
  have lt0 : ∀ x ∈ p0, x.block < W.heap.size := by obtain ⟨m, hm⟩ := k0; exact DataW.trod_lt m _ _ _ hm
  obtain ⟨a0, len0, cap0, rfl⟩ := okWide_slice Try.underlying22 (hval 0 22 v0 rfl rfl)
  obtain ⟨fuel0, hf0⟩ := h0
  simp only [Value.cells] at hf0
  obtain ⟨l0, hl0⟩ := acts11_open hf0
  clear hA0 hval0
  have walk : Calls Try.prog 3 _ W fun e w' => e = .returned (.bool true) ∧ Below W.heap.size W w' := poolActs_any a0 len0 cap0 l0 (slice_len Try.underlying22 hf0) hl0
  refine walk.mono fun e W' ⟨he, bel⟩ => ?_
  subst he
  exact ⟨_, rfl, _, _, _, [], _, [], hW', trodAll_mk1 (shut_bool Try.underlying4 _), trodAll_cons_mk (Below.trod poolActs_laid (by kernel_rfl) (of_decide_eq_true (by kernel_rfl)) k0 bel lt0) (trodAll_mk0), rfl, bel.frame _, fun h => by cases h⟩

theorem poolActs_holds : Rows.PoolActsSaid :=
  OpenClaim.holds_of_wide 3 Try.f3 rfl rfl rfl rfl rfl rfl rfl ⟨rfl, rfl, rfl, rfl, rfl⟩ rfl rfl rfl rfl rfl (by kernel_rfl) Try.func3 (by kernel_rfl)
    (of_decide_eq_true (by kernel_rfl)) (by unfold Func.isWrapper; first | (rw [if_pos (by decide +kernel)]; kernel_rfl) | (rw [if_neg (by decide +kernel)]; exact ⟨rfl, rfl⟩))
    (fun os started H enc _ => poolActs_lifted os started H enc)
#print axioms poolActs_holds
end Go.Proofs.Ytafcianpajheiaa
