
/- plan's some and gives; Right of a plan without periods. -/
import Derived.Test.YtjhjgncnadhbhaaPL1
import Derived.Test.YtjhjgncnadhbhaaR
set_option linter.unusedSimpArgs false
set_option linter.unusedVariables false
set_option maxRecDepth 20000
namespace Go.Proofs.Ytjhjgncnadhbhaa
open Go.RowKit

theorem rightCL_any {v : Value} {l : List Cn} (w : World) (h : IsCL w v l) (hwf : ∀ x ∈ l, CnWf x) :
    Calls Try.prog 76 #[v] w fun e w' => e = .returned (.bool (rightFrom 0 l)) ∧ Below w.heap.size w w' := by
  rcases h with ⟨rfl, a, cap, rfl⟩ | ⟨blk, off, cap, rfl, _, hlen, hlt, hall⟩
  · exact right_none a cap w
  · exact right_some blk off cap l w hlen hlt hall hwf
theorem rightRCL_any {v : Value} {l : List Cn} (w : World) (h : IsCL w v l) (hwf : ∀ x ∈ l, CnWf x) :
    Calls Try.prog 78 #[v] w fun e w' => e = .returned (.bool (rightFrom 0 l)) ∧ Below w.heap.size w w' := by
  rcases h with ⟨rfl, a, cap, rfl⟩ | ⟨blk, off, cap, rfl, _, hlen, hlt, hall⟩
  · exact rightR_none a cap w
  · exact rightR_some blk off cap l w hlen hlt hall hwf
theorem IsCL.len {W : World} {v : Value} {l : List Cn} (h : IsCL W v l) : l.length ≤ 9223372036854775807 := by
  rcases h with ⟨rfl, -⟩ | ⟨_, _, _, _, _, h, _⟩
  · simp
  · exact h
theorem IsPds.len {W : World} {v : Value} {l : List Pd} (h : IsPds W v l) : l.length ≤ 9223372036854775807 := by
  rcases h with ⟨rfl, -⟩ | ⟨_, _, _, _, _, h, _⟩
  · simp
  · exact h
/-- Coins that may be, and not none. -/
def someB (l : List Cn) : Bool := !l.isEmpty && rightFrom 0 l
set_option maxHeartbeats 4000000 in
theorem some_any {v : Value} {l : List Cn} (w : World) (h : IsCL w v l) (hwf : ∀ x ∈ l, CnWf x) :
    Calls Try.prog 62 #[v] w fun e w' => e = .returned (.bool (someB l)) ∧ Below w.heap.size w w' := by
  have hR := rightCL_any w h hwf
  have hlen := h.len
  obtain ⟨a, c, rfl⟩ := h.slice
  by_cases hl : l = []
  · subst hl
    clear hR
    go_enter Try.func62, Try.ntmps62
    go_wp2
    go_ret
    exact ⟨rfl, Below.refl _ _⟩
  · have hl0 : 0 < l.length := by cases l with | nil => exact absurd rfl hl | cons _ _ => simp
    have hl1 : (0 : Int) < (l.length : Int) := by omega
    have hd : decide (0 < l.length) = true := decide_eq_true hl0
    have hs : Hid (someB l = rightFrom 0 l) := by unfold Hid someB; cases l with | nil => exact absurd rfl hl | cons _ _ => rfl
    clear hl
    go_enter Try.func62, Try.ntmps62
    go_wp2_with (go_at_call 76; refine hR.mono ?_; rintro e w1 ⟨rfl, hb1⟩)
    go_ret
    rw [hs.out]
    exact ⟨by simp, hb1⟩
/-- A plan whose parts are what they may be, but for whether it may be. -/
structure PnWf (x : Pn) : Prop where
  k : 0 ≤ x.k ∧ x.k ≤ 255
  s : 0 ≤ x.s ∧ x.s < 18446744073709551616
  e : 0 ≤ x.e ∧ x.e < 18446744073709551616
  al : ∀ y ∈ x.al, CnWf y
def givesB (x : Pn) : Bool := someB x.al && decide (x.e ≤ 1099511627776)
set_option maxHeartbeats 4000000 in
theorem gives_any {x : Pn} (w : World) (h : PnAt w x) (hw : PnWf x) :
    Calls Try.prog 38 #[pnV x] w fun e w' => e = .returned (.bool (givesB x)) ∧ Below w.heap.size w w' := by
  obtain ⟨k, s, t, av, pv, al, pl⟩ := x
  obtain ⟨h1, h2⟩ := h
  simp only at h1 h2
  have hwf := hw.al
  simp only at hwf
  obtain ⟨a1, c1, rfl⟩ := h1.slice
  obtain ⟨a2, c2, rfl⟩ := h2.slice
  show Calls Try.prog 38 #[.agg #[.int .u8 k, .int .u64 s, .int .u64 t, .slice a1 al.length c1, .slice a2 pl.length c2]] w _
  have hb : Below w.heap.size w (w.alloc (.cells #[.int .u8 k, .int .u64 s, .int .u64 t, .slice a1 al.length c1, .slice a2 pl.length c2] 33)) := ba (Below.refl _ _) _
  have hS := some_any _ (h1.below hb) hwf
  have hg : Hid (givesB ⟨k, s, t, .slice a1 al.length c1, .slice a2 pl.length c2, al, pl⟩ = (someB al && decide (t ≤ 1099511627776))) := rfl
  have hkeep : Hid (∀ X, Below (w.alloc (.cells #[.int .u8 k, .int .u64 s, .int .u64 t, .slice a1 al.length c1, .slice a2 pl.length c2] 33)).heap.size (w.alloc (.cells #[.int .u8 k, .int .u64 s, .int .u64 t, .slice a1 al.length c1, .slice a2 pl.length c2] 33)) X → X.cell? ⟨w.heap.size, 2, none⟩ = some (.int .u64 t)) := fun X hX => by
    have q1 := (hX.block w.heap.size (by simp)).trans (al_at rfl)
    exact (cells_of_block q1).1 2
  cases hs : someB al
  · rw [hs] at hS hg
    clear hs
    go_enter Try.func38, Try.ntmps38
    go_wp2_with (go_at_call 62; refine hS.mono ?_; rintro e w1 ⟨rfl, hb1⟩)
    go_ret
    rw [hg.out]
    exact ⟨by simp, bt hb hb1⟩
  · rw [hs] at hS hg
    clear hs
    go_enter Try.func38, Try.ntmps38
    go_wp2_with (go_at_call 62; refine hS.mono ?_; rintro e w1 ⟨rfl, hb1⟩; have q := hkeep.out _ hb1)
    go_ret
    rw [hg.out]
    exact ⟨by simp, bt hb hb1⟩
/-- May a plan without periods be? (Kinds 3 and 5 aside.) -/
def rightN (x : Pn) : Bool :=
  if x.k = 0 then x.s == 0 && x.e == 0 && x.al.isEmpty && x.pl.isEmpty
  else if x.k = 1 then decide (x.s < x.e) && givesB x && x.pl.isEmpty
  else if x.k = 2 then x.s == 0 && givesB x && x.pl.isEmpty
  else if x.k = 4 then x.s == 0 && x.e == 0 && givesB x && x.pl.isEmpty
  else false
theorem clB_nil (l : List Cn) : clB l [] = l.isEmpty := by cases l <;> rfl
theorem plB_nil (l : List Pd) : plB l [] = l.isEmpty := by cases l <;> rfl
def pnZ : Pn := ⟨0, 0, 0, .slice none 0 0, .slice none 0 0, [], []⟩
theorem pnZ_at (W : World) : PnAt W pnZ := ⟨.inl ⟨rfl, _, _, rfl⟩, .inl ⟨rfl, _, _, rfl⟩⟩
section
variable {s t : Int} {a1 a2 : Option Addr} {c1 c2 : Nat} {al : List Cn} {pl : List Pd}
set_option maxHeartbeats 4000000 in
theorem planRight_0 (w : World) (h : PnAt w ⟨0, s, t, .slice a1 al.length c1, .slice a2 pl.length c2, al, pl⟩) :
    Calls Try.prog 12 #[.agg #[.int .u8 0, .int .u64 s, .int .u64 t, .slice a1 al.length c1, .slice a2 pl.length c2]] w fun e w' => e = .returned (.bool (s == 0 && t == 0 && al.isEmpty && pl.isEmpty)) ∧ Below w.heap.size w w' := by
  have hb : Below w.heap.size w (w.alloc (.cells #[.int .u8 0, .int .u64 s, .int .u64 t, .slice a1 al.length c1, .slice a2 pl.length c2] 33)) := ba (Below.refl _ _) _
  have hS := planSame_any (h.below hb) (pnZ_at _)
  have hr : Hid (pnB ⟨0, s, t, .slice a1 al.length c1, .slice a2 pl.length c2, al, pl⟩ pnZ = (s == 0 && t == 0 && al.isEmpty && pl.isEmpty)) := by
    unfold Hid pnB pnZ; simp [clB_nil, plB_nil]
  rw [hr.out] at hS
  have hS' : Calls Try.prog 26 #[.agg #[.int .u8 0, .int .u64 s, .int .u64 t, .slice a1 al.length c1, .slice a2 pl.length c2], .agg #[.int .u8 0, .int .u64 0, .int .u64 0, .slice none 0 0, .slice none 0 0]] _ _ := hS
  clear hS hr
  go_enter Try.func12, Try.ntmps12
  go_wp2_with (go_at_call 26; refine hS'.mono ?_; rintro e w1 ⟨rfl, hb1⟩)
  go_ret
  exact ⟨rfl, bt hb hb1⟩
set_option maxHeartbeats 4000000 in
theorem planRight_1 (w : World) (h : PnAt w ⟨1, s, t, .slice a1 al.length c1, .slice a2 pl.length c2, al, pl⟩) (hw : PnWf ⟨1, s, t, .slice a1 al.length c1, .slice a2 pl.length c2, al, pl⟩) :
    Calls Try.prog 12 #[.agg #[.int .u8 1, .int .u64 s, .int .u64 t, .slice a1 al.length c1, .slice a2 pl.length c2]] w fun e w' => e = .returned (.bool (decide (s < t) && givesB ⟨1, s, t, .slice a1 al.length c1, .slice a2 pl.length c2, al, pl⟩ && pl.isEmpty)) ∧ Below w.heap.size w w' := by
  have hb : Below w.heap.size w (w.alloc (.cells #[.int .u8 1, .int .u64 s, .int .u64 t, .slice a1 al.length c1, .slice a2 pl.length c2] 33)) := ba (Below.refl _ _) _
  have hG := gives_any _ (h.below hb) hw
  have hG' : Calls Try.prog 38 #[.agg #[.int .u8 1, .int .u64 s, .int .u64 t, .slice a1 al.length c1, .slice a2 pl.length c2]] _ _ := hG
  have hkeep : Hid (∀ X, Below (w.alloc (.cells #[.int .u8 1, .int .u64 s, .int .u64 t, .slice a1 al.length c1, .slice a2 pl.length c2] 33)).heap.size (w.alloc (.cells #[.int .u8 1, .int .u64 s, .int .u64 t, .slice a1 al.length c1, .slice a2 pl.length c2] 33)) X → X.cell? ⟨w.heap.size, 4, none⟩ = some (.slice a2 pl.length c2)) := fun X hX => by
    have q1 := (hX.block w.heap.size (by simp)).trans (al_at rfl)
    exact (cells_of_block q1).1 4
  have hpn := h.2.len
  clear hG
  by_cases hst : s < t
  · have hd : decide (s < t) = true := decide_eq_true hst
    cases hg : givesB ⟨1, s, t, .slice a1 al.length c1, .slice a2 pl.length c2, al, pl⟩
    · rw [hg] at hG'
      go_enter Try.func12, Try.ntmps12
      go_wp2_with (go_at_call 38; refine hG'.mono ?_; rintro e w1 ⟨rfl, hb1⟩)
      go_ret
      exact ⟨by simp, bt hb hb1⟩
    · rw [hg] at hG'
      go_enter Try.func12, Try.ntmps12
      go_wp2_with (go_at_call 38; refine hG'.mono ?_; rintro e w1 ⟨rfl, hb1⟩; have q := hkeep.out _ hb1)
      go_ret
      refine ⟨?_, bt hb hb1⟩
      cases pl with
      | nil => simp [hst]
      | cons y pl => simp; omega
  · have hd : decide (s < t) = false := decide_eq_false hst
    clear hG' hkeep
    go_enter Try.func12, Try.ntmps12
    go_wp2
    go_ret
    exact ⟨by simp, hb⟩
set_option maxHeartbeats 4000000 in
theorem planRight_6 (k : Int) (hk : 5 < k) (hk2 : k ≤ 255) (w : World) (v1 v2 : Value) :
    Calls Try.prog 12 #[.agg #[.int .u8 k, .int .u64 s, .int .u64 t, v1, v2]] w fun e w' => e = .returned (.bool false) ∧ Below w.heap.size w w' := by
  have h0 : ¬ k = 0 := by omega
  have h1 : ¬ k = 1 := by omega
  have h2 : ¬ k = 2 := by omega
  have h3 : ¬ k = 3 := by omega
  have h4 : ¬ k = 4 := by omega
  have h5 : ¬ k = 5 := by omega
  go_enter Try.func12, Try.ntmps12
  go_wp2
  go_ret
  exact ⟨rfl, ba (Below.refl _ _) _⟩
end
end Go.Proofs.Ytjhjgncnadhbhaa
