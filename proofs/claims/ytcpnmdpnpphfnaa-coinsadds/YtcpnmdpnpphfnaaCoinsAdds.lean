
/- For every two lists jointurelaw02.CoinsAdds returns true and writes nothing that was there: both lists together are the document's, or it is too much. No condition. -/
import Derived.Test.YtcpnmdpnpphfnaaC14
import Derived.Test.YtcpnmdpnpphfnaaC15
set_option linter.unusedSimpArgs false
set_option linter.unusedVariables false
namespace Go.Proofs.Ytcpnmdpnpphfnaa
open Go.ChangeShapes Go.WideShapes Go.ChangeAt Go.RowKit

set_option maxHeartbeats 1000000 in
theorem coinsAdds_long (a b : Option Addr) (la lb ca cb : Nat) (h : 100 < la ∨ 100 < lb) (hm : la ≤ 9223372036854775807) (hn : lb ≤ 9223372036854775807) (w : World) :
    Calls Try.prog 5 #[.slice a la ca, .slice b lb cb] w fun e w' => e = .returned (.bool true) ∧ Below w.heap.size w w' := by
  by_cases h1 : 100 < la
  · have h' : (100 : Int) < (la : Int) := by omega
    go_enter Try.func5, Try.ntmps5
    go_wp2_with (go_at_call 10; refine (little_any _).mono ?_; rintro e w1 ⟨rfl, hb⟩)
    go_ret
    exact ⟨rfl, hb⟩
  · have h' : ¬ (100 : Int) < (la : Int) := by omega
    have h'' : (100 : Int) < (lb : Int) := by omega
    go_enter Try.func5, Try.ntmps5
    go_wp2_with (go_at_call 10; refine (little_any _).mono ?_; rintro e w1 ⟨rfl, hb⟩)
    go_ret
    exact ⟨rfl, hb⟩

set_option maxRecDepth 100000 in
set_option maxHeartbeats 4000000 in
theorem coinsAdds_over (a b : Option Addr) (la lb ca cb : Nat) (h1 : la ≤ 100) (h2 : lb ≤ 100) (pa pb : List Cn) (hwa : ∀ y ∈ pa, CnWf y) (hwb : ∀ y ∈ pb, CnWf y) (h : ∃ d, d < 8 ∧ 115792089237316195423570985008687907853269984665640564039457584007913129639936 ≤ vl (ofP pa d) + vl (ofP pb d)) (w : World) (hA0 : IsCoins w (.slice a la ca) pa) (hC0 : IsCoins w (.slice b lb cb) pb) :
    Calls Try.prog 5 #[.slice a la ca, .slice b lb cb] w fun e w' => e = .returned (.bool true) ∧ Below w.heap.size w w' := by
  have hl1 : ¬ (100 : Int) < (la : Int) := by omega
  have hl2 : ¬ (100 : Int) < (lb : Int) := by omega
  have hz : Purse (ofP pa) := purse_of pa (fun y hy => (hwa y hy).2)
  have hy : Purse (ofP pb) := purse_of pb (fun y hy => (hwb y hy).2)
  have B0 : Below w.heap.size w w := Below.refl _ _
  go_enter Try.func5, Try.ntmps5
  go_wp2_with (first
      | (go_at_call 13; refine (ofC_any _ hA0 hwa).mono ?_; rintro e w1 ⟨uP, rfl, hP1, hb1⟩; have hA1 := hA0.below hb1; have hC1 := hC0.below hb1; have B1 := bt B0 hb1; clear hb1 B0 hA0 hC0)
      | (go_at_call 13; refine (ofC_any _ hC1 hwb).mono ?_; rintro e w2 ⟨uQ, rfl, hQ2, hb2⟩; have hA2 := hA1.below hb2; have hC2 := hC1.below hb2; have hP2 := hP1.below hb2; have B2 := bt B1 hb2; clear hb2 B1 hA1 hC1 hP1)
      | (go_at_call 19; refine (addC_no hz hy h _ hP2 hQ2).mono ?_; rintro e w3 ⟨rfl, hb3⟩; have hA3 := hA2.below hb3; have hC3 := hC2.below hb3; have hP3 := hP2.below hb3; have hQ3 := hQ2.below hb3; have B3 := bt B2 hb3; clear hb3 B2 hA2 hC2 hP2 hQ2)
      | (go_at_call 13; refine (ofC_any _ hA3 hwa).mono ?_; rintro e w4 ⟨uS, rfl, hS4, hb4⟩; have hA4 := hA3.below hb4; have hC4 := hC3.below hb4; have hP4 := hP3.below hb4; have hQ4 := hQ3.below hb4; have B4 := bt B3 hb4; clear hb4 B3 hA3 hC3 hP3 hQ3)
      | (go_at_call 13; refine (ofC_any _ hC4 hwb).mono ?_; rintro e w5 ⟨uT, rfl, hT5, hb5⟩; have hA5 := hA4.below hb5; have hC5 := hC4.below hb5; have hP5 := hP4.below hb5; have hQ5 := hQ4.below hb5; have hS5 := hS4.below hb5; have B5 := bt B4 hb5; clear hb5 B4 hA4 hC4 hP4 hQ4 hS4)
      | (go_at_call 20; refine (addRC_no hz hy h _ hS5 hT5).mono ?_; rintro e w6 ⟨rfl, hb6⟩; have hA6 := hA5.below hb6; have hC6 := hC5.below hb6; have hP6 := hP5.below hb6; have hQ6 := hQ5.below hb6; have hS6 := hS5.below hb6; have hT6 := hT5.below hb6; have B6 := bt B5 hb6; clear hb6 B5 hA5 hC5 hP5 hQ5 hS5 hT5)
      | (go_at_call 10; refine (little_any _).mono ?_; rintro e w7 ⟨rfl, hb7⟩; have hA7 := hA6.below hb7; have hC7 := hC6.below hb7; have hP7 := hP6.below hb7; have hQ7 := hQ6.below hb7; have hS7 := hS6.below hb7; have hT7 := hT6.below hb7; have B7 := bt B6 hb7; clear hb7 B6 hA6 hC6 hP6 hQ6 hS6 hT6))
  all_goals go_ret
  all_goals exact ⟨rfl, B7⟩

set_option maxRecDepth 100000 in
set_option maxHeartbeats 4000000 in
theorem coinsAdds_fit (a b : Option Addr) (la lb ca cb : Nat) (h1 : la ≤ 100) (h2 : lb ≤ 100) (pa pb : List Cn) (hwa : ∀ y ∈ pa, CnWf y) (hwb : ∀ y ∈ pb, CnWf y) (h : ∀ d, d < 8 → vl (ofP pa d) + vl (ofP pb d) < 115792089237316195423570985008687907853269984665640564039457584007913129639936) (w : World) (hA0 : IsCoins w (.slice a la ca) pa) (hC0 : IsCoins w (.slice b lb cb) pb) :
    Calls Try.prog 5 #[.slice a la ca, .slice b lb cb] w fun e w' => e = .returned (.bool true) ∧ Below w.heap.size w w' := by
  have hl1 : ¬ (100 : Int) < (la : Int) := by omega
  have hl2 : ¬ (100 : Int) < (lb : Int) := by omega
  have hz : Purse (ofP pa) := purse_of pa (fun y hy => (hwa y hy).2)
  have hy : Purse (ofP pb) := purse_of pb (fun y hy => (hwb y hy).2)
  have B0 : Below w.heap.size w w := Below.refl _ _
  have hs : Purse (opP (· + ·) (ofP pa) (ofP pb)) := purse_sum hz hy h
  go_enter Try.func5, Try.ntmps5
  go_wp2_with (first
      | (go_at_call 13; refine (ofC_any _ hA0 hwa).mono ?_; rintro e w1 ⟨uP, rfl, hP1, hb1⟩; have hA1 := hA0.below hb1; have hC1 := hC0.below hb1; have B1 := bt B0 hb1; clear hb1 B0 hA0 hC0)
      | (go_at_call 13; refine (ofC_any _ hC1 hwb).mono ?_; rintro e w2 ⟨uQ, rfl, hQ2, hb2⟩; have hA2 := hA1.below hb2; have hC2 := hC1.below hb2; have hP2 := hP1.below hb2; have B2 := bt B1 hb2; clear hb2 B1 hA1 hC1 hP1)
      | (go_at_call 19; refine (addC_fit hz hy h _ hP2 hQ2).mono ?_; rintro e w3 ⟨uX, rfl, hX3, hb3⟩; have hA3 := hA2.below hb3; have hC3 := hC2.below hb3; have hP3 := hP2.below hb3; have hQ3 := hQ2.below hb3; have B3 := bt B2 hb3; clear hb3 B2 hA2 hC2 hP2 hQ2)
      | (go_at_call 13; refine (ofC_any _ hA3 hwa).mono ?_; rintro e w4 ⟨uS, rfl, hS4, hb4⟩; have hA4 := hA3.below hb4; have hC4 := hC3.below hb4; have hP4 := hP3.below hb4; have hQ4 := hQ3.below hb4; have hX4 := hX3.below hb4; have B4 := bt B3 hb4; clear hb4 B3 hA3 hC3 hP3 hQ3 hX3)
      | (go_at_call 13; refine (ofC_any _ hC4 hwb).mono ?_; rintro e w5 ⟨uT, rfl, hT5, hb5⟩; have hA5 := hA4.below hb5; have hC5 := hC4.below hb5; have hP5 := hP4.below hb5; have hQ5 := hQ4.below hb5; have hX5 := hX4.below hb5; have hS5 := hS4.below hb5; have B5 := bt B4 hb5; clear hb5 B4 hA4 hC4 hP4 hQ4 hX4 hS4)
      | (go_at_call 20; refine (addRC_fit hz hy h _ hS5 hT5).mono ?_; rintro e w6 ⟨uY, rfl, hY6, hb6⟩; have hA6 := hA5.below hb6; have hC6 := hC5.below hb6; have hP6 := hP5.below hb6; have hQ6 := hQ5.below hb6; have hX6 := hX5.below hb6; have hS6 := hS5.below hb6; have hT6 := hT5.below hb6; have B6 := bt B5 hb6; clear hb6 B5 hA5 hC5 hP5 hQ5 hX5 hS5 hT5)
      | (go_at_call 10; refine (little_any _).mono ?_; rintro e w7 ⟨rfl, hb7⟩; have hA7 := hA6.below hb7; have hC7 := hC6.below hb7; have hP7 := hP6.below hb7; have hQ7 := hQ6.below hb7; have hX7 := hX6.below hb7; have hS7 := hS6.below hb7; have hT7 := hT6.below hb7; have hY7 := hY6.below hb7; have B7 := bt B6 hb7; clear hb7 B6 hA6 hC6 hP6 hQ6 hX6 hS6 hT6 hY6)
      | (go_at_call 16; refine (sameC_any _ hX7 hY7).mono ?_; rintro e w8 ⟨rfl, hb8⟩; have hA8 := hA7.below hb8; have hC8 := hC7.below hb8; have hP8 := hP7.below hb8; have hQ8 := hQ7.below hb8; have hX8 := hX7.below hb8; have hS8 := hS7.below hb8; have hT8 := hT7.below hb8; have hY8 := hY7.below hb8; have B8 := bt B7 hb8; clear hb8 B7 hA7 hC7 hP7 hQ7 hX7 hS7 hT7 hY7)
      | (go_at_call 11; refine (rightL_any hs _ hX8).mono ?_; rintro e w9 ⟨rfl, hb9⟩; have hA9 := hA8.below hb9; have hC9 := hC8.below hb9; have hP9 := hP8.below hb9; have hQ9 := hQ8.below hb9; have hX9 := hX8.below hb9; have hS9 := hS8.below hb9; have hT9 := hT8.below hb9; have hY9 := hY8.below hb9; have B9 := bt B8 hb9; clear hb9 B8 hA8 hC8 hP8 hQ8 hX8 hS8 hT8 hY8))
  all_goals go_ret
  all_goals exact ⟨rfl, B9⟩

theorem coinsAdds_any {w : World} (a : Option Addr) (la ca : Nat) (b : Option Addr) (lb cb : Nat) (hm : la ≤ 9223372036854775807) (ho : la ≤ 1048576 → ∃ l : List Cn, IsCoins w (.slice a la ca) l ∧ l.length = la ∧ ∀ y ∈ l, CnWf y) (hn : lb ≤ 9223372036854775807) (hp : lb ≤ 1048576 → ∃ l : List Cn, IsCoins w (.slice b lb cb) l ∧ l.length = lb ∧ ∀ y ∈ l, CnWf y) :
    Calls Try.prog 5 #[.slice a la ca, .slice b lb cb] w fun e w' => e = .returned (.bool true) ∧ Below w.heap.size w w' := by
  by_cases h : 100 < la ∨ 100 < lb
  · exact coinsAdds_long a b la lb ca cb h hm hn w
  · obtain ⟨pa, i1, -, i3⟩ := ho (by omega)
    obtain ⟨pb, j1, -, j3⟩ := hp (by omega)
    by_cases hf : ∀ d, d < 8 → vl (ofP pa d) + vl (ofP pb d) < 115792089237316195423570985008687907853269984665640564039457584007913129639936
    · exact coinsAdds_fit a b la lb ca cb (by omega) (by omega) pa pb i3 j3 hf w i1 j1
    · refine coinsAdds_over a b la lb ca cb (by omega) (by omega) pa pb i3 j3 ?_ w i1 j1
      apply Classical.byContradiction
      intro hn
      exact hf (fun d hd => Classical.byContradiction (fun h => hn ⟨d, hd, by omega⟩))

theorem coinsAdds_own : ownKnob Try.prog.godebug = none := by kernel_rfl
theorem coinsAdds_laid : laidOutB Try.prog = true := by kernel_rfl

set_option maxRecDepth 100000 in
theorem coinsAdds_lifted (os : Os) (started : os.Started) (H : Type) (enc : TypeId × Value → H) :
    ReturnsInHanded {} Try.checked os 5 .any (Rows.coinsAddsSpec.pre6 enc Try.prog Try.f5 Rows.coinsAddsRow.domain false) (Rows.coinsAddsSpec.post enc Try.prog Try.f5 false true false false) := by
  refine returnsInHanded_of_change (C := Try.checked) coinsAdds_own started (by kernel_rfl) Try.func5
    (ChangeSpec.witness6 (enc := enc) (C := Try.checked) false ⟨#[], #[.slice none 0 0, .slice none 0 0], []⟩ 8 (by kernel_rfl) (by kernel_rfl) (by kernel_rfl) (by kernel_rfl)) ?_
  intro W base args ds gs before hval0 hW hcnd _
  have hval : ∀ (j : Nat) t v, Try.f5.params[j]? = some t → args[j]? = some v → Value.okWide Try.prog W .any base t v := hval0
  have hW' := hW
  obtain ⟨p, q, hA0, hV, rfl, hfz, hnd⟩ := hW
  have hA : DataW.TrodAll enc Try.prog W 0 (fun _ => true) true Try.f5.params.toList args.toList ds p := hA0
  rw [Try.params5] at hA hval
  obtain ⟨v0, vs0, d0, ds0, p0, q0, hargs0, rfl, rfl, h0, r0⟩ := trodAll_cons hA
  obtain ⟨v1, vs1, d1, ds1, p1, q1, hargs1, rfl, rfl, h1, r1⟩ := trodAll_cons r0
  obtain ⟨rfl, rfl, rfl⟩ := trodAll_nil r1
  obtain rfl : args = #[v0, v1] := by cases args; simp_all
  obtain ⟨rfl, rfl⟩ := trodVars_none hV
  have k0 := h0
  have lt0 : ∀ x ∈ p0, x.block < W.heap.size := by obtain ⟨m, hm⟩ := k0; exact DataW.trod_lt m _ _ _ hm
  have k1 := h1
  have lt1 : ∀ x ∈ p1, x.block < W.heap.size := by obtain ⟨m, hm⟩ := k1; exact DataW.trod_lt m _ _ _ hm
  obtain ⟨a0, len0, cap0, rfl⟩ := okWide_slice Try.underlying25 (hval 0 25 v0 rfl rfl)
  obtain ⟨fuel0, hf0⟩ := h0
  simp only [Value.cells] at hf0
  obtain ⟨a1, len1, cap1, rfl⟩ := okWide_slice Try.underlying25 (hval 1 25 v1 rfl rfl)
  obtain ⟨fuel1, hf1⟩ := h1
  simp only [Value.cells] at hf1
  clear hA0 hval0
  have walk : Calls Try.prog 5 _ W fun e w' => e = .returned (.bool true) ∧ Below W.heap.size W w' := coinsAdds_any a0 len0 cap0 a1 len1 cap1 (slice_len' Try.underlying25 hf0) (fun hl => somes_open hf0 hl) (slice_len' Try.underlying25 hf1) (fun hl => somes_open hf1 hl)
  refine walk.mono fun e W' ⟨he, bel⟩ => ?_
  subst he
  exact ⟨_, rfl, _, _, _, [], _, [], hW', trodAll_mk1 (shut_bool Try.underlying4 _), trodAll_cons_mk (Below.trod coinsAdds_laid (by kernel_rfl) (of_decide_eq_true (by kernel_rfl)) k0 bel lt0) (trodAll_cons_mk (Below.trod coinsAdds_laid (by kernel_rfl) (of_decide_eq_true (by kernel_rfl)) k1 bel lt1) (trodAll_mk0)), rfl, bel.frame _, fun h => by cases h⟩

theorem coinsAdds_holds : Rows.CoinsAddsSaid :=
  OpenClaim.holds_of_wide 5 Try.f5 rfl rfl rfl rfl rfl rfl rfl ⟨rfl, rfl, rfl, rfl, rfl⟩ rfl rfl rfl rfl rfl (by kernel_rfl) Try.func5 (by kernel_rfl)
    (of_decide_eq_true (by kernel_rfl)) (by unfold Func.isWrapper; first | (rw [if_pos (by decide +kernel)]; kernel_rfl) | (rw [if_neg (by decide +kernel)]; exact ⟨rfl, rfl⟩))
    (fun os started H enc _ => coinsAdds_lifted os started H enc)
#print axioms coinsAdds_holds
end Go.Proofs.Ytcpnmdpnpphfnaa
