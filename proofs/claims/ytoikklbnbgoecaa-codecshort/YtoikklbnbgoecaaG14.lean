
/- The reference's reader: coins. -/
import Derived.Test.YtoikklbnbgoecaaG13
set_option linter.unusedSimpArgs false
set_option linter.unusedVariables false
namespace Go.Proofs.Ytoikklbnbgoecaa
open Go.RowKit

theorem InAt.rng {W : World} {b : Nat} {D : Option Nat} {s : Option (List Int)} (h : InAt W b D s) : Rng s := by
  obtain ⟨a, cap, p, k, bad, hblk, hB, hk, h1, h2, rfl, -⟩ := h.opn
  obtain ⟨-, -, -, -, -, h3, -⟩ := hB
  intro p' hp' x hx
  cases bad with
  | true => simp at hp'
  | false => simp at hp'; subst hp'; exact h3 x (List.mem_of_mem_drop hx)

set_option maxRecDepth 100000 in
set_option maxHeartbeats 8000000 in
theorem inCoins_any (s : Option (List Int)) : ICo s (coinsS s).1 (coinsS s).2 := by
  intro W b D hD hDl hR
  obtain ⟨i0, hi, hz0, hz1, hz2⟩ := info_parts coin_info
  have hbl := hR.lt
  have hT1 := inByte_any hD hR
  have hlim := byteS_lim hR.rng
  obtain ⟨m, hm0⟩ := Int.eq_ofNat_of_zero_le hlim.1
  have hcS : coinsS s = if (cl m [] (byteS s).2).2.isSome && rightFrom 0 (cl m [] (byteS s).2).1 then cl m [] (byteS s).2 else ([], none) := by
    unfold coinsS; rw [hm0, Int.toNat_natCast]
  obtain ⟨Lf, hLf⟩ : ∃ Lf, (coinsS s).1 = Lf := ⟨_, rfl⟩
  obtain ⟨sf, hsf⟩ : ∃ sf, (coinsS s).2 = sf := ⟨_, rfl⟩
  rw [hm0] at hT1 hlim
  obtain ⟨R, hR0⟩ : ∃ R, cl m [] (byteS s).2 = R := ⟨_, rfl⟩
  rw [hR0] at hcS
  have hres : Hid ((if R.2.isSome && rightFrom 0 R.1 then R else ([], none)) = (Lf, sf)) := by
    unfold Hid; rw [← hcS, ← hLf, ← hsf]
  rw [hLf, hsf]
  clear hcS hLf hsf hm0
  generalize (byteS s).2 = s1 at *
  have hm255 : m ≤ 255 := by omega
  have hm255' : (m : Int) ≤ 255 := by omega
  have hR0' : Hid (cl (m - 0) [] s1 = R) := hR0
  clear hR0 hlim
  go_enter Try.func45, Try.ntmps45
  go_wp2_with (first
    | (go_at_call 41; refine hT1.mono ?_; rintro e w1 ⟨rfl, hI1, hG1⟩))
  go_loopw [3, 5] (fun lv i X => ∃ (a0 : Option Addr) (cap0 : Nat) (l : List Cn) (s1 : Option (List Int)), lv = .slice a0 l.length cap0 ∧ i = .int .i64 (l.length : Int) ∧ InAt X b D s1 ∧ X.ownsRow W.heap.size 74 5 (.slice a0 l.length cap0) l.length (cellsL l) ∧ W.grownBy X (some b) ∧ (∀ y ∈ l, CnWf y) ∧ l.length ≤ m ∧ Hid (cl (m - l.length) l s1 = R)) (fun _ i _ => m - (intOf i).toNat)
  case atStart => exact ⟨none, 0, [], s1, rfl, rfl, hI1, World.ownsRow_nil _ _ _ _, hG1, by simp, by simp, hR0'⟩
  case round =>
    clear hI1 hG1 hR0'
    obtain ⟨a0, cap0, l, s1, rfl, rfl, hr, hrow, hG, hwf, hlen, hcl⟩ := hrel
    have hbad := hr.bad
    by_cases hm : l.length < m ∧ s1 ≠ none
    · obtain ⟨hm, hs1⟩ := hm
      obtain ⟨q, rfl⟩ : ∃ q, s1 = some q := by cases s1 with | none => exact absurd rfl hs1 | some q => exact ⟨q, rfl⟩
      have hm' : (l.length : Int) < (m : Int) := by omega
      rw [show (some q : Option (List Int)).isNone = false from rfl] at hbad
      have hbd := byteS_lim hr.rng
      have hT2 := inByte_any hD hr
      have hcl2 : Hid (cl (m - (l.length + 1)) (l ++ [cnI (byteS (some q)).1 (nS (byteS (some q)).2).1]) (nS (byteS (some q)).2).2 = R) := by
        have h := hcl.out
        rw [show m - l.length = (m - (l.length + 1)) + 1 by omega] at h
        exact h
      generalize (byteS (some q)).1 = d at *
      generalize (byteS (some q)).2 = s2 at *
      go_wp2_with (first
        | (go_at_call 41; refine hT2.mono ?_; rintro e w2 ⟨rfl, hr2, hg2⟩; have hrow2 := hrow.kept hg2 (by cases he : (Value.slice a0 l.length cap0).ownBlock with | none => exact .inl rfl | some g => (right; intro e2; have := hrow.lt g he; simp at e2; omega)); have hG2 := grown_tr hG hg2)
        | (go_at_call 44; refine (inNum_any hD (fun d hd => Nat.lt_of_lt_of_le (hDl d hd) hG2.size) hr2).mono ?_; rintro e w3 ⟨z0, z1, z2, z3, rfl, hz, hv, hr3, hg3⟩; have hrow3 := hrow2.kept hg3 (by cases he : (Value.slice a0 l.length cap0).ownBlock with | none => exact .inl rfl | some g => (right; intro e2; have := hrow2.lt g he; simp at e2; omega)); have hG3 := grown_tr hG2 hg3; have hz3 := hG3.size)
        | (at_builtin; refine wpList_append_own _ rfl _ _ 34 rfl W.heap.size 74 i0 _ 5 40 Try.underlying34 hi hz0 hz1 hz2 rfl (by decide) _ _ _ rfl ((hrow3.alloc _).alloc _) ⟨w3.heap.size + 1, 0, none⟩ 1 1 [.int .u8 d, .int .u64 z0, .int .u64 z1, .int .u64 z2, .int .u64 z3] rfl rfl (new_cells w3 _ #[.int .u8 d, .int .u64 z0, .int .u64 z1, .int .u64 z2, .int .u64 z3] 74) (by simp [Value.oneCell']) (by unfold maxLen; omega) (by omega) (by simp; omega) ?_; intro v' w4 hown' hgrow _; obtain ⟨a4, cap4, rfl⟩ := row_slice hown'))
      have hgA : w3.grownBy ((w3.alloc (.cells #[.int .u64 z0, .int .u64 z1, .int .u64 z2, .int .u64 z3] 33)).alloc (.cells #[.int .u8 d, .int .u64 z0, .int .u64 z1, .int .u64 z2, .int .u64 z3] 74)) none := World.grownBy.trans (World.grownBy_alloc _ _ none) (World.grownBy_alloc _ _ none)
      have hlt4 := (none_row hrow3 hgA).lt
      have hr4 : InAt w4 b D (nS s2).2 := (hr3.nn hgA).kept hgrow (fun e => by have := hlt4 b e.symm; omega) (by cases he : D with | none => exact .inl rfl | some d' => (right; intro e; have := hlt4 d' e.symm; have := hDl d' he; omega))
      have hG4 : W.grownBy w4 (some b) := grown_own (grown_tr hG3 (grown_up hgA)) hgrow (fun g e => (hlt4 g e).1)
      have hcn := nS_val hz hv.out d
      have hwf4 : ∀ y ∈ l ++ [cnI d (nS s2).1], CnWf y := by
        intro y hy
        rcases List.mem_append.1 hy with h | h
        · exact hwf y h
        · rw [List.mem_singleton] at h; subst h; rw [hcn]; exact ⟨hbd, hz⟩
      have hrow4 : w4.ownsRow W.heap.size 74 5 (.slice a4 (l.length + 1) cap4) (l ++ [cnI d (nS s2).1]).length (cellsL (l ++ [cnI d (nS s2).1])) := by
        rw [List.length_append, cellsL_append, hcn]; exact hown'
      all_goals go_roundw
      case rel => exact ⟨a4, cap4, l ++ [cnI d (nS s2).1], (nS s2).2, by rw [List.length_append]; rfl, by rw [List.length_append]; go_num, hr4, by rw [List.length_append] at hrow4 ⊢; exact hrow4, hG4, hwf4, by rw [List.length_append]; exact hm, by rw [List.length_append]; exact hcl2⟩
      case measure => (simp [intOf]; omega)
    · have hend : R = (l, s1) := by
        have h := hcl.out
        by_cases hs1 : s1 = none
        · subst hs1; rw [cl_none] at h; exact h.symm
        · have : m - l.length = 0 := by
            have hh : ¬ l.length < m := fun c => hm ⟨c, hs1⟩
            omega
          rw [this] at h; exact h.symm
      have hres' := hres.out
      rw [hend] at hres'
      clear hres hcl hend
      have hcoin := own_coins hrow (by omega)
      have hRt := rightR_any _ hcoin hwf
      cases s1 with
      | none =>
        obtain ⟨rfl, rfl⟩ : Lf = [] ∧ sf = none := by simpa [eq_comm] using hres'
        obtain ⟨a, cap, p, k, hblk, hB, hk, c0, c1, c2, f⟩ := hr.opnN
        have hg2 := grown_se hG 2 (.bool true)
        have hfin : InAt (wr.setCell ⟨b, 2, none⟩ (.bool true)) b D none := ⟨_, p, k, true, by rw [block_set _ hblk]; rfl, hB.kept (grown_se (grown_ref _ _) _ _) (.inr hD), hk, rfl⟩
        by_cases hdm : (l.length : Int) < (m : Int)
        all_goals
          go_wp2
          go_ret
          exact ⟨_, rfl, World.ownsRow_nil _ _ _ _, hfin, hg2⟩
      | some q =>
        have hdm : ¬ (l.length : Int) < (m : Int) := by
          have hh : ¬ l.length < m := fun c => hm ⟨c, by simp⟩
          omega
        rw [show (some q : Option (List Int)).isNone = false from rfl] at hbad
        rcases Bool.eq_false_or_eq_true (rightFrom 0 l) with hrt | hrt
        · rw [hrt] at hRt hres'
          obtain ⟨rfl, rfl⟩ : Lf = l ∧ sf = some q := by simpa [eq_comm] using hres'
          go_wp2_with (first
            | (go_at_call 57; refine hRt.mono ?_; rintro e w5 ⟨rfl, hb5⟩; have hr5 := hr.nn (grown_none hb5); have hG5 := grown_tr hG (grown_up (grown_none hb5)))
            | fail)
          go_ret
          exact ⟨_, rfl, none_row hrow (grown_none hb5), hr5, hG5⟩
        · rw [hrt] at hRt hres'
          obtain ⟨rfl, rfl⟩ : Lf = [] ∧ sf = none := by simpa [eq_comm] using hres'
          go_wp2_with (first
            | (go_at_call 57; refine hRt.mono ?_; rintro e w5 ⟨rfl, hb5⟩; have hr5 := hr.nn (grown_none hb5); have hG5 := grown_tr hG (grown_up (grown_none hb5)); obtain ⟨a, cap, p, k, hblk, hB, hk, h1', h2, hss, c0, c1, c2, f⟩ := hr5.opnS (by simp))
            | fail)
          go_ret
          have hg2 := grown_se hG5 2 (.bool true)
          exact ⟨_, rfl, World.ownsRow_nil _ _ _ _, ⟨_, p, k, true, by rw [block_set _ hblk]; rfl, hB.kept (grown_se (grown_ref _ _) _ _) (.inr hD), hk, rfl⟩, hg2⟩
end Go.Proofs.Ytoikklbnbgoecaa
