
/- For every two lists jointurelaw02.CoinsTakes returns true and writes nothing that was there: one less the other one, what is left of each and the less of each are the document's. No condition. -/
import Derived.Test.YtcpnmdpnpphfnaaC10
import Derived.Test.YtcpnmdpnpphfnaaC11
import Derived.Test.YtcpnmdpnpphfnaaC12
set_option linter.unusedSimpArgs false
set_option linter.unusedVariables false
namespace Go.Proofs.Ytcpnmdpnpphfnaa
open Go.ChangeShapes Go.WideShapes Go.ChangeAt Go.RowKit

set_option maxHeartbeats 1000000 in
theorem coinsTakes_long (a b : Option Addr) (la lb ca cb : Nat) (h : 100 < la ∨ 100 < lb) (hm : la ≤ 9223372036854775807) (hn : lb ≤ 9223372036854775807) (w : World) :
    Calls Try.prog 6 #[.slice a la ca, .slice b lb cb] w fun e w' => e = .returned (.bool true) ∧ Below w.heap.size w w' := by
  by_cases h1 : 100 < la
  · have h' : (100 : Int) < (la : Int) := by omega
    go_enter Try.func6, Try.ntmps6
    go_wp2_with (go_at_call 10; refine (little_any _).mono ?_; rintro e w1 ⟨rfl, hb⟩)
    go_ret
    exact ⟨rfl, hb⟩
  · have h' : ¬ (100 : Int) < (la : Int) := by omega
    have h'' : (100 : Int) < (lb : Int) := by omega
    go_enter Try.func6, Try.ntmps6
    go_wp2_with (go_at_call 10; refine (little_any _).mono ?_; rintro e w1 ⟨rfl, hb⟩)
    go_ret
    exact ⟨rfl, hb⟩

set_option maxRecDepth 100000 in
set_option maxHeartbeats 4000000 in
theorem coinsTakes_no (a b : Option Addr) (la lb ca cb : Nat) (h1 : la ≤ 100) (h2 : lb ≤ 100) (pa pb : List Cn) (hwa : ∀ y ∈ pa, CnWf y) (hwb : ∀ y ∈ pb, CnWf y) (h : ∃ d, d < 8 ∧ vl (ofP pa d) < vl (ofP pb d)) (w : World) (hA0 : IsCoins w (.slice a la ca) pa) (hC0 : IsCoins w (.slice b lb cb) pb) :
    Calls Try.prog 6 #[.slice a la ca, .slice b lb cb] w fun e w' => e = .returned (.bool true) ∧ Below w.heap.size w w' := by
  have hl1 : ¬ (100 : Int) < (la : Int) := by omega
  have hl2 : ¬ (100 : Int) < (lb : Int) := by omega
  have hz : Purse (ofP pa) := purse_of pa (fun y hy => (hwa y hy).2)
  have hy : Purse (ofP pb) := purse_of pb (fun y hy => (hwb y hy).2)
  have B0 : Below w.heap.size w w := Below.refl _ _
  go_enter Try.func6, Try.ntmps6
  go_wp2_with (first
      | (go_at_call 13; refine (ofC_any _ hA0 hwa).mono ?_; rintro e w1 ⟨uP, rfl, hP1, hb1⟩; have hA1 := hA0.below hb1; have hC1 := hC0.below hb1; have B1 := bt B0 hb1; clear hb1 B0 hA0 hC0)
      | (go_at_call 13; refine (ofC_any _ hC1 hwb).mono ?_; rintro e w2 ⟨uQ, rfl, hQ2, hb2⟩; have hA2 := hA1.below hb2; have hC2 := hC1.below hb2; have hP2 := hP1.below hb2; have B2 := bt B1 hb2; clear hb2 B1 hA1 hC1 hP1)
      | (go_at_call 21; refine (subC_no hz hy h _ hP2 hQ2).mono ?_; rintro e w3 ⟨rfl, hb3⟩; have hA3 := hA2.below hb3; have hC3 := hC2.below hb3; have hP3 := hP2.below hb3; have hQ3 := hQ2.below hb3; have B3 := bt B2 hb3; clear hb3 B2 hA2 hC2 hP2 hQ2)
      | (go_at_call 22; refine (restC_any hz hy _ hP3 hQ3).mono ?_; rintro e w4 ⟨uR, rfl, hR4, hb4⟩; have hA4 := hA3.below hb4; have hC4 := hC3.below hb4; have hP4 := hP3.below hb4; have hQ4 := hQ3.below hb4; have B4 := bt B3 hb4; clear hb4 B3 hA3 hC3 hP3 hQ3)
      | (go_at_call 23; refine (restRC_any hz hy _ hP4 hQ4).mono ?_; rintro e w5 ⟨uS, rfl, hS5, hb5⟩; have hA5 := hA4.below hb5; have hC5 := hC4.below hb5; have hP5 := hP4.below hb5; have hQ5 := hQ4.below hb5; have hR5 := hR4.below hb5; have B5 := bt B4 hb5; clear hb5 B4 hA4 hC4 hP4 hQ4 hR4)
      | (go_at_call 16; refine (sameC_any _ hR5 hS5).mono ?_; rintro e w6 ⟨rfl, hb6⟩; have hA6 := hA5.below hb6; have hC6 := hC5.below hb6; have hP6 := hP5.below hb6; have hQ6 := hQ5.below hb6; have hR6 := hR5.below hb6; have hS6 := hS5.below hb6; have B6 := bt B5 hb6; clear hb6 B5 hA5 hC5 hP5 hQ5 hR5 hS5)
      | (go_at_call 24; refine (leastC_any hz hy _ hP6 hQ6).mono ?_; rintro e w7 ⟨uE, rfl, hE7, hb7⟩; have hA7 := hA6.below hb7; have hC7 := hC6.below hb7; have hP7 := hP6.below hb7; have hQ7 := hQ6.below hb7; have hR7 := hR6.below hb7; have hS7 := hS6.below hb7; have B7 := bt B6 hb7; clear hb7 B6 hA6 hC6 hP6 hQ6 hR6 hS6)
      | (go_at_call 25; refine (leastRC_any hz hy _ hP7 hQ7).mono ?_; rintro e w8 ⟨uF, rfl, hF8, hb8⟩; have hA8 := hA7.below hb8; have hC8 := hC7.below hb8; have hP8 := hP7.below hb8; have hQ8 := hQ7.below hb8; have hR8 := hR7.below hb8; have hS8 := hS7.below hb8; have hE8 := hE7.below hb8; have B8 := bt B7 hb8; clear hb8 B7 hA7 hC7 hP7 hQ7 hR7 hS7 hE7)
      | (go_at_call 16; refine (sameC_any _ hE8 hF8).mono ?_; rintro e w9 ⟨rfl, hb9⟩; have hA9 := hA8.below hb9; have hC9 := hC8.below hb9; have hP9 := hP8.below hb9; have hQ9 := hQ8.below hb9; have hR9 := hR8.below hb9; have hS9 := hS8.below hb9; have hE9 := hE8.below hb9; have hF9 := hF8.below hb9; have B9 := bt B8 hb9; clear hb9 B8 hA8 hC8 hP8 hQ8 hR8 hS8 hE8 hF8)
      | (go_at_call 26; refine (withinR_any hy hz false (.inr ⟨rfl, h⟩) _ hQ9 hP9).mono ?_; rintro e w10 ⟨rfl, hb10⟩; have hA10 := hA9.below hb10; have hC10 := hC9.below hb10; have hP10 := hP9.below hb10; have hQ10 := hQ9.below hb10; have hR10 := hR9.below hb10; have hS10 := hS9.below hb10; have hE10 := hE9.below hb10; have hF10 := hF9.below hb10; have B10 := bt B9 hb10; clear hb10 B9 hA9 hC9 hP9 hQ9 hR9 hS9 hE9 hF9)
      | (go_at_call 10; refine (little_any _).mono ?_; rintro e w11 ⟨rfl, hb11⟩; have hA11 := hA10.below hb11; have hC11 := hC10.below hb11; have hP11 := hP10.below hb11; have hQ11 := hQ10.below hb11; have hR11 := hR10.below hb11; have hS11 := hS10.below hb11; have hE11 := hE10.below hb11; have hF11 := hF10.below hb11; have B11 := bt B10 hb11; clear hb11 B10 hA10 hC10 hP10 hQ10 hR10 hS10 hE10 hF10)
      | (go_at_call 27; refine (withinC_no hy hz h _ hQ11 hP11).mono ?_; rintro e w12 ⟨rfl, hb12⟩; have hA12 := hA11.below hb12; have hC12 := hC11.below hb12; have hP12 := hP11.below hb12; have hQ12 := hQ11.below hb12; have hR12 := hR11.below hb12; have hS12 := hS11.below hb12; have hE12 := hE11.below hb12; have hF12 := hF11.below hb12; have B12 := bt B11 hb12; clear hb12 B11 hA11 hC11 hP11 hQ11 hR11 hS11 hE11 hF11))
  all_goals go_ret
  all_goals exact ⟨rfl, B12⟩

set_option maxRecDepth 100000 in
set_option maxHeartbeats 4000000 in
theorem coinsTakes_yes (a b : Option Addr) (la lb ca cb : Nat) (h1 : la ≤ 100) (h2 : lb ≤ 100) (pa pb : List Cn) (hwa : ∀ y ∈ pa, CnWf y) (hwb : ∀ y ∈ pb, CnWf y) (h : ∀ d, d < 8 → vl (ofP pb d) ≤ vl (ofP pa d)) (w : World) (hA0 : IsCoins w (.slice a la ca) pa) (hC0 : IsCoins w (.slice b lb cb) pb) :
    Calls Try.prog 6 #[.slice a la ca, .slice b lb cb] w fun e w' => e = .returned (.bool true) ∧ Below w.heap.size w w' := by
  have hl1 : ¬ (100 : Int) < (la : Int) := by omega
  have hl2 : ¬ (100 : Int) < (lb : Int) := by omega
  have hz : Purse (ofP pa) := purse_of pa (fun y hy => (hwa y hy).2)
  have hy : Purse (ofP pb) := purse_of pb (fun y hy => (hwb y hy).2)
  have B0 : Below w.heap.size w w := Below.refl _ _
  go_enter Try.func6, Try.ntmps6
  go_wp2_with (first
      | (go_at_call 13; refine (ofC_any _ hA0 hwa).mono ?_; rintro e w1 ⟨uP, rfl, hP1, hb1⟩; have hA1 := hA0.below hb1; have hC1 := hC0.below hb1; have B1 := bt B0 hb1; clear hb1 B0 hA0 hC0)
      | (go_at_call 13; refine (ofC_any _ hC1 hwb).mono ?_; rintro e w2 ⟨uQ, rfl, hQ2, hb2⟩; have hA2 := hA1.below hb2; have hC2 := hC1.below hb2; have hP2 := hP1.below hb2; have B2 := bt B1 hb2; clear hb2 B1 hA1 hC1 hP1)
      | (go_at_call 21; refine (subC_fit hz hy h _ hP2 hQ2).mono ?_; rintro e w3 ⟨uX, rfl, hX3, hb3⟩; have hA3 := hA2.below hb3; have hC3 := hC2.below hb3; have hP3 := hP2.below hb3; have hQ3 := hQ2.below hb3; have B3 := bt B2 hb3; clear hb3 B2 hA2 hC2 hP2 hQ2)
      | (go_at_call 22; refine (restC_any hz hy _ hP3 hQ3).mono ?_; rintro e w4 ⟨uR, rfl, hR4, hb4⟩; have hA4 := hA3.below hb4; have hC4 := hC3.below hb4; have hP4 := hP3.below hb4; have hQ4 := hQ3.below hb4; have hX4 := hX3.below hb4; have B4 := bt B3 hb4; clear hb4 B3 hA3 hC3 hP3 hQ3 hX3)
      | (go_at_call 23; refine (restRC_any hz hy _ hP4 hQ4).mono ?_; rintro e w5 ⟨uS, rfl, hS5, hb5⟩; have hA5 := hA4.below hb5; have hC5 := hC4.below hb5; have hP5 := hP4.below hb5; have hQ5 := hQ4.below hb5; have hX5 := hX4.below hb5; have hR5 := hR4.below hb5; have B5 := bt B4 hb5; clear hb5 B4 hA4 hC4 hP4 hQ4 hX4 hR4)
      | (go_at_call 16; refine (sameC_any _ hR5 hS5).mono ?_; rintro e w6 ⟨rfl, hb6⟩; have hA6 := hA5.below hb6; have hC6 := hC5.below hb6; have hP6 := hP5.below hb6; have hQ6 := hQ5.below hb6; have hX6 := hX5.below hb6; have hR6 := hR5.below hb6; have hS6 := hS5.below hb6; have B6 := bt B5 hb6; clear hb6 B5 hA5 hC5 hP5 hQ5 hX5 hR5 hS5)
      | (go_at_call 24; refine (leastC_any hz hy _ hP6 hQ6).mono ?_; rintro e w7 ⟨uE, rfl, hE7, hb7⟩; have hA7 := hA6.below hb7; have hC7 := hC6.below hb7; have hP7 := hP6.below hb7; have hQ7 := hQ6.below hb7; have hX7 := hX6.below hb7; have hR7 := hR6.below hb7; have hS7 := hS6.below hb7; have B7 := bt B6 hb7; clear hb7 B6 hA6 hC6 hP6 hQ6 hX6 hR6 hS6)
      | (go_at_call 25; refine (leastRC_any hz hy _ hP7 hQ7).mono ?_; rintro e w8 ⟨uF, rfl, hF8, hb8⟩; have hA8 := hA7.below hb8; have hC8 := hC7.below hb8; have hP8 := hP7.below hb8; have hQ8 := hQ7.below hb8; have hX8 := hX7.below hb8; have hR8 := hR7.below hb8; have hS8 := hS7.below hb8; have hE8 := hE7.below hb8; have B8 := bt B7 hb8; clear hb8 B7 hA7 hC7 hP7 hQ7 hX7 hR7 hS7 hE7)
      | (go_at_call 16; refine (sameC_any _ hE8 hF8).mono ?_; rintro e w9 ⟨rfl, hb9⟩; have hA9 := hA8.below hb9; have hC9 := hC8.below hb9; have hP9 := hP8.below hb9; have hQ9 := hQ8.below hb9; have hX9 := hX8.below hb9; have hR9 := hR8.below hb9; have hS9 := hS8.below hb9; have hE9 := hE8.below hb9; have hF9 := hF8.below hb9; have B9 := bt B8 hb9; clear hb9 B8 hA8 hC8 hP8 hQ8 hX8 hR8 hS8 hE8 hF8)
      | (go_at_call 26; refine (withinR_any hy hz true (.inl ⟨rfl, h⟩) _ hQ9 hP9).mono ?_; rintro e w10 ⟨rfl, hb10⟩; have hA10 := hA9.below hb10; have hC10 := hC9.below hb10; have hP10 := hP9.below hb10; have hQ10 := hQ9.below hb10; have hX10 := hX9.below hb10; have hR10 := hR9.below hb10; have hS10 := hS9.below hb10; have hE10 := hE9.below hb10; have hF10 := hF9.below hb10; have B10 := bt B9 hb10; clear hb10 B9 hA9 hC9 hP9 hQ9 hX9 hR9 hS9 hE9 hF9)
      | (go_at_call 10; refine (little_any _).mono ?_; rintro e w11 ⟨rfl, hb11⟩; have hA11 := hA10.below hb11; have hC11 := hC10.below hb11; have hP11 := hP10.below hb11; have hQ11 := hQ10.below hb11; have hX11 := hX10.below hb11; have hR11 := hR10.below hb11; have hS11 := hS10.below hb11; have hE11 := hE10.below hb11; have hF11 := hF10.below hb11; have B11 := bt B10 hb11; clear hb11 B10 hA10 hC10 hP10 hQ10 hX10 hR10 hS10 hE10 hF10)
      | (go_at_call 23; refine (restRC_any hz hy _ hP11 hQ11).mono ?_; rintro e w12 ⟨uT, rfl, hT12, hb12⟩; have hA12 := hA11.below hb12; have hC12 := hC11.below hb12; have hP12 := hP11.below hb12; have hQ12 := hQ11.below hb12; have hX12 := hX11.below hb12; have hR12 := hR11.below hb12; have hS12 := hS11.below hb12; have hE12 := hE11.below hb12; have hF12 := hF11.below hb12; have B12 := bt B11 hb12; clear hb12 B11 hA11 hC11 hP11 hQ11 hX11 hR11 hS11 hE11 hF11)
      | (go_at_call 16; refine (sameC_any _ hX12 hT12).mono ?_; rintro e w13 ⟨rfl, hb13⟩; have hA13 := hA12.below hb13; have hC13 := hC12.below hb13; have hP13 := hP12.below hb13; have hQ13 := hQ12.below hb13; have hX13 := hX12.below hb13; have hR13 := hR12.below hb13; have hS13 := hS12.below hb13; have hE13 := hE12.below hb13; have hF13 := hF12.below hb13; have hT13 := hT12.below hb13; have B13 := bt B12 hb13; clear hb13 B12 hA12 hC12 hP12 hQ12 hX12 hR12 hS12 hE12 hF12 hT12)
      | (go_at_call 27; refine (withinC_yes hy hz h _ hQ13 hP13).mono ?_; rintro e w14 ⟨rfl, hb14⟩; have hA14 := hA13.below hb14; have hC14 := hC13.below hb14; have hP14 := hP13.below hb14; have hQ14 := hQ13.below hb14; have hX14 := hX13.below hb14; have hR14 := hR13.below hb14; have hS14 := hS13.below hb14; have hE14 := hE13.below hb14; have hF14 := hF13.below hb14; have hT14 := hT13.below hb14; have B14 := bt B13 hb14; clear hb14 B13 hA13 hC13 hP13 hQ13 hX13 hR13 hS13 hE13 hF13 hT13))
  all_goals go_ret
  all_goals exact ⟨rfl, B14⟩

theorem coinsTakes_any {w : World} (a : Option Addr) (la ca : Nat) (b : Option Addr) (lb cb : Nat) (hm : la ≤ 9223372036854775807) (ho : la ≤ 1048576 → ∃ l : List Cn, IsCoins w (.slice a la ca) l ∧ l.length = la ∧ ∀ y ∈ l, CnWf y) (hn : lb ≤ 9223372036854775807) (hp : lb ≤ 1048576 → ∃ l : List Cn, IsCoins w (.slice b lb cb) l ∧ l.length = lb ∧ ∀ y ∈ l, CnWf y) :
    Calls Try.prog 6 #[.slice a la ca, .slice b lb cb] w fun e w' => e = .returned (.bool true) ∧ Below w.heap.size w w' := by
  by_cases h : 100 < la ∨ 100 < lb
  · exact coinsTakes_long a b la lb ca cb h hm hn w
  · obtain ⟨pa, i1, -, i3⟩ := ho (by omega)
    obtain ⟨pb, j1, -, j3⟩ := hp (by omega)
    by_cases hf : ∀ d, d < 8 → vl (ofP pb d) ≤ vl (ofP pa d)
    · exact coinsTakes_yes a b la lb ca cb (by omega) (by omega) pa pb i3 j3 hf w i1 j1
    · refine coinsTakes_no a b la lb ca cb (by omega) (by omega) pa pb i3 j3 ?_ w i1 j1
      apply Classical.byContradiction
      intro hn
      exact hf (fun d hd => Classical.byContradiction (fun h => hn ⟨d, hd, by omega⟩))

theorem coinsTakes_own : ownKnob Try.prog.godebug = none := by kernel_rfl
theorem coinsTakes_laid : laidOutB Try.prog = true := by kernel_rfl

set_option maxRecDepth 100000 in
theorem coinsTakes_lifted (os : Os) (started : os.Started) (H : Type) (enc : TypeId × Value → H) :
    ReturnsInHanded {} Try.checked os 6 .any (Rows.coinsTakesSpec.pre6 enc Try.prog Try.f6 Rows.coinsTakesRow.domain false) (Rows.coinsTakesSpec.post enc Try.prog Try.f6 false true false false) := by
  refine returnsInHanded_of_change (C := Try.checked) coinsTakes_own started (by kernel_rfl) Try.func6
    (ChangeSpec.witness6 (enc := enc) (C := Try.checked) false ⟨#[], #[.slice none 0 0, .slice none 0 0], []⟩ 8 (by kernel_rfl) (by kernel_rfl) (by kernel_rfl) (by kernel_rfl)) ?_
  intro W base args ds gs before hval0 hW hcnd _
  have hval : ∀ (j : Nat) t v, Try.f6.params[j]? = some t → args[j]? = some v → Value.okWide Try.prog W .any base t v := hval0
  have hW' := hW
  obtain ⟨p, q, hA0, hV, rfl, hfz, hnd⟩ := hW
  have hA : DataW.TrodAll enc Try.prog W 0 (fun _ => true) true Try.f6.params.toList args.toList ds p := hA0
  rw [Try.params6] at hA hval
  obtain ⟨v0, vs0, d0, ds0, p0, q0, hargs0, rfl, rfl, h0, r0⟩ := trodAll_cons hA
  obtain ⟨v1, vs1, d1, ds1, p1, q1, hargs1, rfl, rfl, h1, r1⟩ := trodAll_cons r0
  obtain ⟨rfl, rfl, rfl⟩ := trodAll_nil r1
  obtain rfl : args = #[v0, v1] := by cases args; simp_all
  obtain ⟨rfl, rfl⟩ := trodVars_none hV
  have k0 := h0
  have lt0 : ∀ x ∈ p0, x.block < W.heap.size := by obtain ⟨m, hm⟩ := k0; exact DataW.trod_lt m _ _ _ hm
  have k1 := h1
  have lt1 : ∀ x ∈ p1, x.block < W.heap.size := by obtain ⟨m, hm⟩ := k1; exact DataW.trod_lt m _ _ _ hm
  obtain ⟨a0, len0, cap0, rfl⟩ := okWide_slice Try.underlying25 (hval 0 25 v0 rfl rfl)
  obtain ⟨fuel0, hf0⟩ := h0
  simp only [Value.cells] at hf0
  obtain ⟨a1, len1, cap1, rfl⟩ := okWide_slice Try.underlying25 (hval 1 25 v1 rfl rfl)
  obtain ⟨fuel1, hf1⟩ := h1
  simp only [Value.cells] at hf1
  clear hA0 hval0
  have walk : Calls Try.prog 6 _ W fun e w' => e = .returned (.bool true) ∧ Below W.heap.size W w' := coinsTakes_any a0 len0 cap0 a1 len1 cap1 (slice_len' Try.underlying25 hf0) (fun hl => somes_open hf0 hl) (slice_len' Try.underlying25 hf1) (fun hl => somes_open hf1 hl)
  refine walk.mono fun e W' ⟨he, bel⟩ => ?_
  subst he
  exact ⟨_, rfl, _, _, _, [], _, [], hW', trodAll_mk1 (shut_bool Try.underlying4 _), trodAll_cons_mk (Below.trod coinsTakes_laid (by kernel_rfl) (of_decide_eq_true (by kernel_rfl)) k0 bel lt0) (trodAll_cons_mk (Below.trod coinsTakes_laid (by kernel_rfl) (of_decide_eq_true (by kernel_rfl)) k1 bel lt1) (trodAll_mk0)), rfl, bel.frame _, fun h => by cases h⟩

theorem coinsTakes_holds : Rows.CoinsTakesSaid :=
  OpenClaim.holds_of_wide 6 Try.f6 rfl rfl rfl rfl rfl rfl rfl ⟨rfl, rfl, rfl, rfl, rfl⟩ rfl rfl rfl rfl rfl (by kernel_rfl) Try.func6 (by kernel_rfl)
    (of_decide_eq_true (by kernel_rfl)) (by unfold Func.isWrapper; first | (rw [if_pos (by decide +kernel)]; kernel_rfl) | (rw [if_neg (by decide +kernel)]; exact ⟨rfl, rfl⟩))
    (fun os started H enc _ => coinsTakes_lifted os started H enc)
#print axioms coinsTakes_holds
end Go.Proofs.Ytcpnmdpnpphfnaa
