
/- For all keys and values jointurelaw05.StoreNil returns true and writes nothing that was there: each call of a nil store answers nothing and does nothing, and a nil store is as one of no keys. No condition. -/
import Derived.Test.YtaikhdgbeikflaaO12
import Derived.Test.YtaikhdgbeikflaaV6
set_option linter.unusedSimpArgs false
set_option linter.unusedVariables false
namespace Go.Proofs.Ytaikhdgbeikflaa
open Go.ChangeShapes Go.WideShapes Go.ChangeAt Go.RowKit

set_option maxHeartbeats 4000000 in
theorem storeNil_long (a b : Option Addr) (la lb ca cb : Nat) (h : 100 < la ∨ 100 < lb) (hm : la ≤ 9223372036854775807) (hn : lb ≤ 9223372036854775807) (w : World) :
    Calls Try.prog 10 #[.slice a la ca, .slice b lb cb] w fun e w' => e = .returned (.bool true) ∧ Below w.heap.size w w' := by
  by_cases h1 : 100 < la
  · have h' : (100 : Int) < (la : Int) := by omega
    go_enter Try.func10, Try.ntmps10
    go_wp2_with (first
      | (go_at_call 11; refine (rolls_any w).mono ?_; rintro e w1 ⟨rfl, hb1⟩)
      | (go_at_call 11; refine (rolls_any w1).mono ?_; rintro e w2 ⟨rfl, hb2⟩))
    go_ret
    exact ⟨rfl, bt hb1 hb2⟩
  · have h' : ¬ (100 : Int) < (la : Int) := by omega
    have h'' : (100 : Int) < (lb : Int) := by omega
    go_enter Try.func10, Try.ntmps10
    go_wp2_with (first
      | (go_at_call 11; refine (rolls_any w).mono ?_; rintro e w1 ⟨rfl, hb1⟩)
      | (go_at_call 11; refine (rolls_any w1).mono ?_; rintro e w2 ⟨rfl, hb2⟩))
    go_ret
    exact ⟨rfl, bt hb1 hb2⟩
set_option maxRecDepth 10000 in
set_option maxHeartbeats 8000000 in
theorem storeNil_w (a b : Option Addr) (la lb ca cb : Nat) (h1 : la ≤ 100) (h2 : lb ≤ 100) (w : World) (k : List Int) (hk : Src w (.slice a la ca) k) (hkb : Byte k) :
    Calls Try.prog 10 #[.slice a la ca, .slice b lb cb] w fun e w' => e = .returned (.bool true) ∧ Below w.heap.size w w' := by
  have h' : ¬ (100 : Int) < (la : Int) := by omega
  have h'' : ¬ (100 : Int) < (lb : Int) := by omega
  go_enter Try.func10, Try.ntmps10
  go_wp2_with (first
    | (go_at_call 11; refine (rolls_any w).mono ?_; rintro e w1 ⟨rfl, hb1⟩; have k1 := hk.kept (grown_none hb1))
    | (go_at_call 32; refine (set_nil _ _ _).mono ?_; rintro e w9 ⟨rfl, hw⟩; obtain rfl := hw.symm)
    | (go_at_call 33; refine (del_nil k1 hkb).mono ?_; rintro e w2 ⟨rfl, hb2⟩; have k2 := k1.kept (grown_none hb2); have B2 := bt hb1 hb2)
    | (go_at_call 19; refine (begin_nil _).mono ?_; rintro e w9 ⟨rfl, hw⟩; obtain rfl := hw.symm)
    | (go_at_call 28; refine (get_nil k2 hkb).mono ?_; rintro e w3 ⟨rfl, hb3⟩; have k3 := k2.kept (grown_none hb3); have B3 := bt B2 hb3)
    | (go_at_call 23; refine (keys_nil k3 hkb).mono ?_; rintro e w4 ⟨rfl, hb4⟩; have B4 := bt B3 hb4)
    | (go_at_call 20; refine (commit_nil _).mono ?_; rintro e w9 ⟨rfl, hw⟩; obtain rfl := hw.symm)
    | (go_at_call 21; refine (rollback_nil _).mono ?_; rintro e w9 ⟨rfl, hw⟩; obtain rfl := hw.symm)
    | (go_at_call 18; refine (depth_nil _).mono ?_; rintro e w9 ⟨rfl, hw⟩; obtain rfl := hw.symm)
    | (go_at_call 27; refine (len_nil _).mono ?_; rintro e w9 ⟨rfl, hw⟩; obtain rfl := hw.symm)
    | (go_at_call 17; refine (copy_nil _).mono ?_; rintro e w9 ⟨rfl, hw⟩; obtain rfl := hw.symm)
    | (go_at_call 13; refine (new_any w4).mono ?_; rintro e w5 ⟨rfl, h5, hb5⟩; have B5 := bt B4 hb5)
    | (go_at_call 22; refine (same_new h5).mono ?_; rintro e w6 ⟨rfl, hb6⟩; have B6 := bt B5 hb6)
    | (go_at_call 22; refine (same_nil2 _).mono ?_; rintro e w7 ⟨rfl, hb7⟩))
  go_ret
  exact ⟨rfl, bt B6 hb7⟩
theorem storeNil_any {w : World} (a : Option Addr) (la ca : Nat) (b : Option Addr) (lb cb : Nat) (hm : la ≤ 9223372036854775807) (ho : la ≤ 1048576 → ∃ l : List Int, ∃ E : Option Nat, Src w (.slice a la ca) l ∧ Byt w E (.slice a la ca) l ∧ (∀ d, E = some d → d < w.heap.size) ∧ l.length = la ∧ ∀ b ∈ l, 0 ≤ b ∧ b ≤ 255) (hn : lb ≤ 9223372036854775807) (_ : lb ≤ 1048576 → ∃ l : List Int, ∃ E : Option Nat, Src w (.slice b lb cb) l ∧ Byt w E (.slice b lb cb) l ∧ (∀ d, E = some d → d < w.heap.size) ∧ l.length = lb ∧ ∀ b ∈ l, 0 ≤ b ∧ b ≤ 255) :
    Calls Try.prog 10 #[.slice a la ca, .slice b lb cb] w fun e w' => e = .returned (.bool true) ∧ Below w.heap.size w w' := by
  by_cases h : 100 < la ∨ 100 < lb
  · exact storeNil_long a b la lb ca cb h hm hn w
  · obtain ⟨l, E, i1, i2, i3, i4, i5⟩ := ho (by omega)
    exact storeNil_w a b la lb ca cb (by omega) (by omega) w l i1 i5

theorem storeNil_own : ownKnob Try.prog.godebug = none := by kernel_rfl
theorem storeNil_laid : laidOutB Try.prog = true := by kernel_rfl

set_option maxRecDepth 100000 in
theorem storeNil_lifted (os : Os) (started : os.Started) (H : Type) (enc : TypeId × Value → H) :
    ReturnsInHanded {} Try.checked os 10 .any (Rows.storeNilSpec.pre6 enc Try.prog Try.f10 Rows.storeNilRow.domain false) (Rows.storeNilSpec.post enc Try.prog Try.f10 false true false false) := by
  refine returnsInHanded_of_change (C := Try.checked) storeNil_own started (by kernel_rfl) Try.func10
    (ChangeSpec.witness6 (enc := enc) (C := Try.checked) false ⟨#[], #[.slice none 0 0, .slice none 0 0], []⟩ 8 (by kernel_rfl) (by kernel_rfl) (by kernel_rfl) (by kernel_rfl)) ?_
  intro W base args ds gs before hval0 hW hcnd _
  have hval : ∀ (j : Nat) t v, Try.f10.params[j]? = some t → args[j]? = some v → Value.okWide Try.prog W .any base t v := hval0
  have hW' := hW
  obtain ⟨p, q, hA0, hV, rfl, hfz, hnd⟩ := hW
  have hA : DataW.TrodAll enc Try.prog W 0 (fun _ => true) true Try.f10.params.toList args.toList ds p := hA0
  rw [Try.params10] at hA hval
  obtain ⟨v0, vs0, d0, ds0, p0, q0, hargs0, rfl, rfl, h0, r0⟩ := trodAll_cons hA
  obtain ⟨v1, vs1, d1, ds1, p1, q1, hargs1, rfl, rfl, h1, r1⟩ := trodAll_cons r0
  obtain ⟨rfl, rfl, rfl⟩ := trodAll_nil r1
  obtain rfl : args = #[v0, v1] := by cases args; simp_all
  obtain ⟨rfl, rfl⟩ := trodVars_none hV
  have k0 := h0
  have lt0 : ∀ x ∈ p0, x.block < W.heap.size := by obtain ⟨m, hm⟩ := k0; exact DataW.trod_lt m _ _ _ hm
  have k1 := h1
  have lt1 : ∀ x ∈ p1, x.block < W.heap.size := by obtain ⟨m, hm⟩ := k1; exact DataW.trod_lt m _ _ _ hm
  obtain ⟨a0, len0, cap0, rfl⟩ := okWide_slice Try.underlying33 (hval 0 33 v0 rfl rfl)
  obtain ⟨fuel0, hf0⟩ := h0
  simp only [Value.cells] at hf0
  obtain ⟨a1, len1, cap1, rfl⟩ := okWide_slice Try.underlying33 (hval 1 33 v1 rfl rfl)
  obtain ⟨fuel1, hf1⟩ := h1
  simp only [Value.cells] at hf1
  clear hA0 hval0
  have walk : Calls Try.prog 10 _ W fun e w' => e = .returned (.bool true) ∧ Below W.heap.size W w' := storeNil_any a0 len0 cap0 a1 len1 cap1 (slice_len Try.underlying33 hf0) (fun hl => bytes_open2 hf0 hl) (slice_len Try.underlying33 hf1) (fun hl => bytes_open2 hf1 hl)
  refine walk.mono fun e W' ⟨he, bel⟩ => ?_
  subst he
  exact ⟨_, rfl, _, _, _, [], _, [], hW', trodAll_mk1 (shut_bool Try.underlying4 _), trodAll_cons_mk (Below.trod storeNil_laid (by kernel_rfl) (of_decide_eq_true (by kernel_rfl)) k0 bel lt0) (trodAll_cons_mk (Below.trod storeNil_laid (by kernel_rfl) (of_decide_eq_true (by kernel_rfl)) k1 bel lt1) (trodAll_mk0)), rfl, bel.frame _, fun h => by cases h⟩

theorem storeNil_holds : Rows.StoreNilSaid :=
  OpenClaim.holds_of_wide 10 Try.f10 rfl rfl rfl rfl rfl rfl rfl ⟨rfl, rfl, rfl, rfl, rfl⟩ rfl rfl rfl rfl rfl (by kernel_rfl) Try.func10 (by kernel_rfl)
    (of_decide_eq_true (by kernel_rfl)) (by unfold Func.isWrapper; first | (rw [if_pos (by decide +kernel)]; kernel_rfl) | (rw [if_neg (by decide +kernel)]; exact ⟨rfl, rfl⟩))
    (fun os started H enc _ => storeNil_lifted os started H enc)
#print axioms storeNil_holds
end Go.Proofs.Ytaikhdgbeikflaa
