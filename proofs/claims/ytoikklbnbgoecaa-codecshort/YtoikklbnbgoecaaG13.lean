
/- codec's reader: coins. -/
import Derived.Test.YtoikklbnbgoecaaG12
import Derived.ScopeJumps
set_option linter.unusedSimpArgs false
set_option linter.unusedVariables false
namespace Go.Proofs.Ytoikklbnbgoecaa
open Go.RowKit

/-- A coin of a denomination and a number. -/
def cnI (d n : Int) : Cn := ⟨d, n % 18446744073709551616, n / 18446744073709551616 % 18446744073709551616, n / 340282366920938463463374607431768211456 % 18446744073709551616, n / 6277101735386680763835789423207666416102355444464034512896⟩
/-- So many coins more, up to a fault. -/
def cl : Nat → List Cn → Option (List Int) → List Cn × Option (List Int)
  | 0, l, s => (l, s)
  | _ + 1, l, none => (l, none)
  | k + 1, l, some p => cl k (l ++ [cnI (byteS (some p)).1 (nS (byteS (some p)).2).1]) (nS (byteS (some p)).2).2
theorem cl_none (k : Nat) (l : List Cn) : cl k l none = (l, none) := by cases k <;> rfl
/-- What reading coins comes to. -/
def coinsS (s : Option (List Int)) : List Cn × Option (List Int) :=
  if (cl (byteS s).1.toNat [] (byteS s).2).2.isSome && rightFrom 0 (cl (byteS s).1.toNat [] (byteS s).2).1 then cl (byteS s).1.toNat [] (byteS s).2 else ([], none)
theorem nS_rng {s : Option (List Int)} (h : Rng s) : Rng (nS s).2 := by
  unfold nS; split
  · exact takeS_rng2 (takeS_rng2 h 1) _
  · intro p hp; simp at hp
theorem nS_val {s : Option (List Int)} {z0 z1 z2 z3 : Int} (hz : Lim z0 z1 z2 z3) (hv : val z0 z1 z2 z3 = (nS s).1) (d : Int) : cnI d (nS s).1 = ⟨d, z0, z1, z2, z3⟩ := by
  rw [← hv]
  unfold cnI val
  unfold Lim at hz
  simp only [Cn.mk.injEq, true_and]
  omega
def slen : Value → Nat
  | .slice _ n _ => n
  | _ => 0
theorem grown_own {A B C : World} {r q : Option Nat} (h : A.grownBy B r) (k : B.grownBy C q) (hq : ∀ g, q = some g → A.heap.size ≤ g) : A.grownBy C r :=
  ⟨k.os.trans h.os, k.tape.trans h.tape, k.output.trans h.output, Nat.le_trans h.size k.size, fun n hn hne => (k.block n (Nat.lt_of_lt_of_le hn h.size) (fun e => by have := hq n e.symm; omega)).trans (h.block n hn hne)⟩

set_option maxRecDepth 100000 in
set_option maxHeartbeats 8000000 in
theorem rCoins_any (s : Option (List Int)) : RCo s (coinsS s).1 (coinsS s).2 := by
  intro W b D hD hDl hR
  obtain ⟨i0, hi, hz0, hz1, hz2⟩ := info_parts coin_info
  have hbl := hR.lt
  have hT1 := rByte_any hD hR
  have hlim := byteS_lim hR.rng
  obtain ⟨m, hm0⟩ := Int.eq_ofNat_of_zero_le hlim.1
  have hcS : coinsS s = if (cl m [] (byteS s).2).2.isSome && rightFrom 0 (cl m [] (byteS s).2).1 then cl m [] (byteS s).2 else ([], none) := by
    unfold coinsS; rw [hm0, Int.toNat_natCast]
  obtain ⟨Lf, hLf⟩ : ∃ Lf, (coinsS s).1 = Lf := ⟨_, rfl⟩
  obtain ⟨sf, hsf⟩ : ∃ sf, (coinsS s).2 = sf := ⟨_, rfl⟩
  rw [hm0] at hT1 hlim
  obtain ⟨R, hR0⟩ : ∃ R, cl m [] (byteS s).2 = R := ⟨_, rfl⟩
  rw [hR0] at hcS
  have hres : Hid ((if R.2.isSome && rightFrom 0 R.1 then R else ([], none)) = (Lf, sf)) := by
    unfold Hid; rw [← hcS, ← hLf, ← hsf]
  rw [hLf, hsf]
  clear hcS hLf hsf hm0
  generalize (byteS s).2 = s1 at *
  have hm255 : m ≤ 255 := by omega
  have hm255' : (m : Int) ≤ 255 := by omega
  have hR0' : Hid (cl (m - 0) [] s1 = R) := hR0
  clear hR0 hlim
  go_enter Try.func20, Try.ntmps20
  go_wp2
  refine wp_scope_jumps 0 (fun a' w' => ∃ (lv : Value) (l : List Cn) (s1 : Option (List Int)) (u5 u9 u10 u11 u12 u13 u14 u15 u16 u17 u18 u19 u20 u21 u22 u23 u24 u25 u26 : Value), a' = { tmps := #[.pointer (some ⟨b, 0, none⟩), undef, .slice none 0 0, lv, .int .i64 (m : Int), u5, .pointer (some ⟨b, 0, none⟩), .int .u8 (m : Int), .int .i64 (m : Int), u9, u10, u11, u12, u13, u14, u15, u16, u17, u18, u19, u20, u21, u22, u23, u24, u25, u26, undef, undef, undef, undef, undef, undef, undef, undef], defers := [] } ∧ RdAt w' b D s1 ∧ w'.ownsRow W.heap.size 74 5 lv l.length (cellsL l) ∧ W.grownBy w' (some b) ∧ (∀ y ∈ l, CnWf y) ∧ l.length ≤ m ∧ Hid (cl (m - l.length) l s1 = R)) (fun a' _ => m - slen (a'.tmps.getD 3 undef)) rfl ?_ ?_
  · go_wp2_with (first
      | (go_at_call 26; refine hT1.mono ?_; rintro e w1 ⟨rfl, hr, hG⟩))
    go_step3
    have hcl := hR0'
    have hrow : w1.ownsRow W.heap.size 74 5 (.slice none 0 0) ([] : List Cn).length (cellsL []) := World.ownsRow_nil _ _ _ _
    have hwf : ∀ y ∈ ([] : List Cn), CnWf y := by simp
    have hlen : ([] : List Cn).length ≤ m := by simp
    by_cases hm : 0 < m ∧ s1 ≠ none
    · obtain ⟨hm, hs1⟩ := hm
      obtain ⟨q, rfl⟩ : ∃ q, s1 = some q := by cases s1 with | none => exact absurd rfl hs1 | some q => exact ⟨q, rfl⟩
      have hm' : (0 : Int) < (m : Int) := by omega
      have hsn : (some q : Option (List Int)).isNone = false := rfl
      have hbd := byteS_lim hr.rng
      have hT2 := rByte_any hD hr
      have hcl2 : Hid (cl (m - (0 + 1)) ([] ++ [cnI (byteS (some q)).1 (nS (byteS (some q)).2).1]) (nS (byteS (some q)).2).2 = R) := by
        have h := hcl.out
        rw [show m - 0 = (m - (0 + 1)) + 1 by omega] at h
        exact h
      generalize (byteS (some q)).1 = d at *
      generalize (byteS (some q)).2 = s2 at *
      go_wp2_with (first
        | (go_at_call 17; refine (rBad_any hr).mono ?_; rintro e w9 ⟨rfl, rfl⟩)
        | (go_at_call 26; refine hT2.mono ?_; rintro e w2 ⟨rfl, hr2, hg2⟩; have hrow2 := hrow.kept hg2 (by cases he : (Value.slice none 0 0).ownBlock with | none => exact .inl rfl | some g => (right; intro e2; have := hrow.lt g he; simp at e2; omega)); have hG2 := grown_tr hG hg2)
        | (go_at_call 34; refine (rNum_any hD (fun d hd => Nat.lt_of_lt_of_le (hDl d hd) hG2.size) hr2).mono ?_; rintro e w3 ⟨z0, z1, z2, z3, rfl, hz, hv, hr3, hg3⟩; have hrow3 := hrow2.kept hg3 (by cases he : (Value.slice none 0 0).ownBlock with | none => exact .inl rfl | some g => (right; intro e2; have := hrow2.lt g he; simp at e2; omega)); have hG3 := grown_tr hG2 hg3; have hz3 := hG3.size)
        | (at_builtin; refine wpList_append_own _ rfl _ _ 34 rfl W.heap.size 74 i0 _ 5 40 Try.underlying34 hi hz0 hz1 hz2 rfl (by decide) _ _ _ rfl (hrow3.alloc _) ⟨w3.heap.size, 0, none⟩ 1 1 [.int .u8 d, .int .u64 z0, .int .u64 z1, .int .u64 z2, .int .u64 z3] rfl rfl (new_cells0 w3 #[.int .u8 d, .int .u64 z0, .int .u64 z1, .int .u64 z2, .int .u64 z3] 74) (by simp [Value.oneCell']) (by unfold maxLen; omega) (by omega) (by simp; omega) ?_; intro v' w4 hown' hgrow _; obtain ⟨a4, cap4, rfl⟩ := row_slice hown'))
      go_step3
      have hlt4 := (hrow3.alloc (.cells #[.int .u8 d, .int .u64 z0, .int .u64 z1, .int .u64 z2, .int .u64 z3] 74)).lt
      have hr4 : RdAt w4 b D (nS s2).2 := (hr3.nn (World.grownBy_alloc w3 (.cells #[.int .u8 d, .int .u64 z0, .int .u64 z1, .int .u64 z2, .int .u64 z3] 74) none)).kept hgrow (fun e => by have := hlt4 b e.symm; omega) (by cases he : D with | none => exact .inl rfl | some d' => (right; intro e; have := hlt4 d' e.symm; have := hDl d' he; omega))
      have hG4 : W.grownBy w4 (some b) := grown_own (grown_al hG3 _) hgrow (fun g e => (hlt4 g e).1)
      have hcn := nS_val hz hv.out d
      have hwf4 : ∀ y ∈ [] ++ [cnI d (nS s2).1], CnWf y := by
        intro y hy
        rcases List.mem_append.1 hy with h | h
        · exact hwf y h
        · rw [List.mem_singleton] at h; subst h; rw [hcn]; exact ⟨hbd, hz⟩
      have hrow4 : w4.ownsRow W.heap.size 74 5 (.slice a4 (0 + 1) cap4) ([] ++ [cnI d (nS s2).1]).length (cellsL ([] ++ [cnI d (nS s2).1])) := by
        rw [List.length_append, cellsL_append, hcn]; exact hown'
      exact ⟨rfl, ⟨_, [] ++ [cnI d (nS s2).1], (nS s2).2, _, _, _, _, _, _, _, _, _, _, _, _, _, _, _, _, _, _, _, rfl, hr4, hrow4, hG4, hwf4, by rw [List.length_append]; exact hm, by rw [List.length_append]; exact hcl2⟩⟩
    · have hend : R = (([] : List Cn), s1) := by
        have h := hcl.out
        by_cases hs1 : s1 = none
        · subst hs1; rw [cl_none] at h; exact h.symm
        · have : m - 0 = 0 := by
            have hh : ¬ 0 < m := fun c => hm ⟨c, hs1⟩
            omega
          rw [this] at h; exact h.symm
      have hres' := hres.out
      rw [hend] at hres'
      clear hres hcl hend
      have hcoin := own_coins hrow (by omega)
      have hRt := right_any _ hcoin hwf
      cases s1 with
      | none =>
        obtain ⟨rfl, rfl⟩ : Lf = [] ∧ sf = none := by simpa [eq_comm] using hres'
        by_cases hdm : (0 : Int) < (m : Int)
        all_goals
          rcases Bool.eq_false_or_eq_true (rightFrom 0 []) with hrt | hrt
          all_goals
            rw [hrt] at hRt
            go_wp2_with (first
              | (go_at_call 17; refine (rBad_any hr).mono ?_; rintro e w9 ⟨rfl, rfl⟩)
              | (go_at_call 48; refine hRt.mono ?_; rintro e w5 ⟨rfl, hb5⟩; have hr5 := hr.nn (grown_none hb5); have hG5 := grown_tr hG (grown_up (grown_none hb5)))
              | (go_at_call 23; refine (rFail_any hr5).mono ?_; rintro e w6 ⟨rfl, hr6, hg6⟩; have hG6 := grown_tr hG5 hg6)
              | (go_at_call 17; refine (rBad_any hr6).mono ?_; rintro e w9 ⟨rfl, rfl⟩)
              | (go_at_call 17; refine (rBad_any hr5).mono ?_; rintro e w9 ⟨rfl, rfl⟩))
            all_goals try simp only [Exit.jump]
            all_goals try rw [Exit.noGoto_ret]
            all_goals go_ret
            all_goals first | exact ⟨_, rfl, World.ownsRow_nil _ _ _ _, hr6, hG6⟩ | exact ⟨_, rfl, World.ownsRow_nil _ _ _ _, hr5, hG5⟩
      | some q =>
        have hdm : ¬ (0 : Int) < (m : Int) := by
          have hh : ¬ 0 < m := fun c => hm ⟨c, by simp⟩
          omega
        rcases Bool.eq_false_or_eq_true (rightFrom 0 []) with hrt | hrt
        · rw [hrt] at hRt hres'
          obtain ⟨rfl, rfl⟩ : Lf = [] ∧ sf = some q := by simpa [eq_comm] using hres'
          go_wp2_with (first
            | (go_at_call 48; refine hRt.mono ?_; rintro e w5 ⟨rfl, hb5⟩; have hr5 := hr.nn (grown_none hb5); have hG5 := grown_tr hG (grown_up (grown_none hb5)))
            | (go_at_call 17; refine (rBad_any hr5).mono ?_; rintro e w9 ⟨rfl, rfl⟩))
          all_goals try simp only [Exit.jump]
          all_goals try rw [Exit.noGoto_ret]
          all_goals go_ret
          exact ⟨_, rfl, none_row hrow (grown_none hb5), hr5, hG5⟩
        · rw [hrt] at hRt hres'
          obtain ⟨rfl, rfl⟩ : Lf = [] ∧ sf = none := by simpa [eq_comm] using hres'
          go_wp2_with (first
            | (go_at_call 48; refine hRt.mono ?_; rintro e w5 ⟨rfl, hb5⟩; have hr5 := hr.nn (grown_none hb5); have hG5 := grown_tr hG (grown_up (grown_none hb5)))
            | (go_at_call 23; refine (rFail_any hr5).mono ?_; rintro e w6 ⟨rfl, hr6, hg6⟩; have hG6 := grown_tr hG5 hg6)
            | (go_at_call 17; refine (rBad_any hr6).mono ?_; rintro e w9 ⟨rfl, rfl⟩))
          all_goals try simp only [Exit.jump]
          all_goals try rw [Exit.noGoto_ret]
          all_goals go_ret
          all_goals exact ⟨_, rfl, World.ownsRow_nil _ _ _ _, hr6, hG6⟩
  · rintro a' X ⟨lv, l, s1, u5, u9, u10, u11, u12, u13, u14, u15, u16, u17, u18, u19, u20, u21, u22, u23, u24, u25, u26, rfl, hr, hrow, hG, hwf, hlen, hcl⟩
    obtain ⟨a0, cap0, rfl⟩ := row_slice hrow
    by_cases hm : l.length < m ∧ s1 ≠ none
    · obtain ⟨hm, hs1⟩ := hm
      obtain ⟨q, rfl⟩ : ∃ q, s1 = some q := by cases s1 with | none => exact absurd rfl hs1 | some q => exact ⟨q, rfl⟩
      have hm' : (l.length : Int) < (m : Int) := by omega
      have hsn : (some q : Option (List Int)).isNone = false := rfl
      have hbd := byteS_lim hr.rng
      have hT2 := rByte_any hD hr
      have hcl2 : Hid (cl (m - (l.length + 1)) (l ++ [cnI (byteS (some q)).1 (nS (byteS (some q)).2).1]) (nS (byteS (some q)).2).2 = R) := by
        have h := hcl.out
        rw [show m - l.length = (m - (l.length + 1)) + 1 by omega] at h
        exact h
      generalize (byteS (some q)).1 = d at *
      generalize (byteS (some q)).2 = s2 at *
      go_wp2_with (first
        | (go_at_call 17; refine (rBad_any hr).mono ?_; rintro e w9 ⟨rfl, rfl⟩)
        | (go_at_call 26; refine hT2.mono ?_; rintro e w2 ⟨rfl, hr2, hg2⟩; have hrow2 := hrow.kept hg2 (by cases he : (Value.slice a0 l.length cap0).ownBlock with | none => exact .inl rfl | some g => (right; intro e2; have := hrow.lt g he; simp at e2; omega)); have hG2 := grown_tr hG hg2)
        | (go_at_call 34; refine (rNum_any hD (fun d hd => Nat.lt_of_lt_of_le (hDl d hd) hG2.size) hr2).mono ?_; rintro e w3 ⟨z0, z1, z2, z3, rfl, hz, hv, hr3, hg3⟩; have hrow3 := hrow2.kept hg3 (by cases he : (Value.slice a0 l.length cap0).ownBlock with | none => exact .inl rfl | some g => (right; intro e2; have := hrow2.lt g he; simp at e2; omega)); have hG3 := grown_tr hG2 hg3; have hz3 := hG3.size)
        | (at_builtin; refine wpList_append_own _ rfl _ _ 34 rfl W.heap.size 74 i0 _ 5 40 Try.underlying34 hi hz0 hz1 hz2 rfl (by decide) _ _ _ rfl (hrow3.alloc _) ⟨w3.heap.size, 0, none⟩ 1 1 [.int .u8 d, .int .u64 z0, .int .u64 z1, .int .u64 z2, .int .u64 z3] rfl rfl (new_cells0 w3 #[.int .u8 d, .int .u64 z0, .int .u64 z1, .int .u64 z2, .int .u64 z3] 74) (by simp [Value.oneCell']) (by unfold maxLen; omega) (by omega) (by simp; omega) ?_; intro v' w4 hown' hgrow _; obtain ⟨a4, cap4, rfl⟩ := row_slice hown'))
      go_step3
      have hlt4 := (hrow3.alloc (.cells #[.int .u8 d, .int .u64 z0, .int .u64 z1, .int .u64 z2, .int .u64 z3] 74)).lt
      have hr4 : RdAt w4 b D (nS s2).2 := (hr3.nn (World.grownBy_alloc w3 (.cells #[.int .u8 d, .int .u64 z0, .int .u64 z1, .int .u64 z2, .int .u64 z3] 74) none)).kept hgrow (fun e => by have := hlt4 b e.symm; omega) (by cases he : D with | none => exact .inl rfl | some d' => (right; intro e; have := hlt4 d' e.symm; have := hDl d' he; omega))
      have hG4 : W.grownBy w4 (some b) := grown_own (grown_al hG3 _) hgrow (fun g e => (hlt4 g e).1)
      have hcn := nS_val hz hv.out d
      have hwf4 : ∀ y ∈ l ++ [cnI d (nS s2).1], CnWf y := by
        intro y hy
        rcases List.mem_append.1 hy with h | h
        · exact hwf y h
        · rw [List.mem_singleton] at h; subst h; rw [hcn]; exact ⟨hbd, hz⟩
      have hrow4 : w4.ownsRow W.heap.size 74 5 (.slice a4 (l.length + 1) cap4) (l ++ [cnI d (nS s2).1]).length (cellsL (l ++ [cnI d (nS s2).1])) := by
        rw [List.length_append, cellsL_append, hcn]; exact hown'
      exact ⟨rfl, ⟨_, l ++ [cnI d (nS s2).1], (nS s2).2, _, _, _, _, _, _, _, _, _, _, _, _, _, _, _, _, _, _, _, rfl, hr4, hrow4, hG4, hwf4, by rw [List.length_append]; exact hm, by rw [List.length_append]; exact hcl2⟩, by simp only [Array.getD_eq_getD_getElem?, slen]; simp [slen]; omega⟩
    · have hend : R = (l, s1) := by
        have h := hcl.out
        by_cases hs1 : s1 = none
        · subst hs1; rw [cl_none] at h; exact h.symm
        · have : m - l.length = 0 := by
            have hh : ¬ l.length < m := fun c => hm ⟨c, hs1⟩
            omega
          rw [this] at h; exact h.symm
      have hres' := hres.out
      rw [hend] at hres'
      clear hres hcl hend
      have hcoin := own_coins hrow (by omega)
      have hRt := right_any _ hcoin hwf
      cases s1 with
      | none =>
        obtain ⟨rfl, rfl⟩ : Lf = [] ∧ sf = none := by simpa [eq_comm] using hres'
        by_cases hdm : (l.length : Int) < (m : Int)
        all_goals
          rcases Bool.eq_false_or_eq_true (rightFrom 0 l) with hrt | hrt
          all_goals
            rw [hrt] at hRt
            go_wp2_with (first
              | (go_at_call 17; refine (rBad_any hr).mono ?_; rintro e w9 ⟨rfl, rfl⟩)
              | (go_at_call 48; refine hRt.mono ?_; rintro e w5 ⟨rfl, hb5⟩; have hr5 := hr.nn (grown_none hb5); have hG5 := grown_tr hG (grown_up (grown_none hb5)))
              | (go_at_call 23; refine (rFail_any hr5).mono ?_; rintro e w6 ⟨rfl, hr6, hg6⟩; have hG6 := grown_tr hG5 hg6)
              | (go_at_call 17; refine (rBad_any hr6).mono ?_; rintro e w9 ⟨rfl, rfl⟩)
              | (go_at_call 17; refine (rBad_any hr5).mono ?_; rintro e w9 ⟨rfl, rfl⟩))
            try simp only [Exit.jump]
            try rw [Exit.noGoto_ret]
            go_ret
            first | exact ⟨_, rfl, World.ownsRow_nil _ _ _ _, hr6, hG6⟩ | exact ⟨_, rfl, World.ownsRow_nil _ _ _ _, hr5, hG5⟩
      | some q =>
        have hdm : ¬ (l.length : Int) < (m : Int) := by
          have hh : ¬ l.length < m := fun c => hm ⟨c, by simp⟩
          omega
        rcases Bool.eq_false_or_eq_true (rightFrom 0 l) with hrt | hrt
        · rw [hrt] at hRt hres'
          obtain ⟨rfl, rfl⟩ : Lf = l ∧ sf = some q := by simpa [eq_comm] using hres'
          go_wp2_with (first
            | (go_at_call 48; refine hRt.mono ?_; rintro e w5 ⟨rfl, hb5⟩; have hr5 := hr.nn (grown_none hb5); have hG5 := grown_tr hG (grown_up (grown_none hb5)))
            | (go_at_call 17; refine (rBad_any hr5).mono ?_; rintro e w9 ⟨rfl, rfl⟩))
          try simp only [Exit.jump]
          try rw [Exit.noGoto_ret]
          go_ret
          exact ⟨_, rfl, none_row hrow (grown_none hb5), hr5, hG5⟩
        · rw [hrt] at hRt hres'
          obtain ⟨rfl, rfl⟩ : Lf = [] ∧ sf = none := by simpa [eq_comm] using hres'
          go_wp2_with (first
            | (go_at_call 48; refine hRt.mono ?_; rintro e w5 ⟨rfl, hb5⟩; have hr5 := hr.nn (grown_none hb5); have hG5 := grown_tr hG (grown_up (grown_none hb5)))
            | (go_at_call 23; refine (rFail_any hr5).mono ?_; rintro e w6 ⟨rfl, hr6, hg6⟩; have hG6 := grown_tr hG5 hg6)
            | (go_at_call 17; refine (rBad_any hr6).mono ?_; rintro e w9 ⟨rfl, rfl⟩))
          try simp only [Exit.jump]
          try rw [Exit.noGoto_ret]
          go_ret
          exact ⟨_, rfl, World.ownsRow_nil _ _ _ _, hr6, hG6⟩
end Go.Proofs.Ytoikklbnbgoecaa
