
/- The reference's Right of plans, but for those with periods. -/
import Derived.Test.YtmfnfnegnfpkiaaPL10
set_option linter.unusedSimpArgs false
set_option linter.unusedVariables false
set_option maxRecDepth 20000
namespace Go.Proofs.Ytmfnfnegnfpkiaa
open Go.RowKit
section
variable {k s t : Int} {a1 a2 : Option Addr} {c1 c2 : Nat} {al : List Cn} {pl : List Pd}
set_option maxHeartbeats 4000000 in
theorem rightR6_0 (w : World) (h : PnAt w ⟨0, s, t, .slice a1 al.length c1, .slice a2 pl.length c2, al, pl⟩) :
    Calls Try.prog 14 #[.agg #[.int .u8 0, .int .u64 s, .int .u64 t, .slice a1 al.length c1, .slice a2 pl.length c2]] w fun e w' => e = .returned (.bool (s == 0 && t == 0 && al.isEmpty && pl.isEmpty)) ∧ Below w.heap.size w w' := by
  have hb : Below w.heap.size w (w.alloc (.cells #[.int .u8 0, .int .u64 s, .int .u64 t, .slice a1 al.length c1, .slice a2 pl.length c2] 26)) := ba (Below.refl _ _) _
  have hl1 := h.1.len
  have hl2 := h.2.len
  clear h
  by_cases hs : s = 0
  · subst hs
    by_cases ht : t = 0
    · subst ht
      cases al with
      | nil =>
        cases pl with
        | nil =>
          go_enter Try.func14, Try.ntmps14
          go_wp2
          go_ret
          exact ⟨rfl, hb⟩
        | cons y pl =>
          generalize hn : (y :: pl).length = n at *
          have hn0 : 0 < n := by rw [← hn]; simp
          have hd : ((n : Int) == 0) = false := by simp; omega
          have hd' : ¬ (n : Int) = 0 := by omega
          clear hn
          go_enter Try.func14, Try.ntmps14
          go_wp2
          go_ret
          exact ⟨by simp, hb⟩
      | cons y al =>
        generalize hn : (y :: al).length = n at *
        have hn0 : 0 < n := by rw [← hn]; simp
        have hd : ((n : Int) == 0) = false := by simp; omega
        have hd' : ¬ (n : Int) = 0 := by omega
        clear hn
        go_enter Try.func14, Try.ntmps14
        go_wp2
        go_ret
        exact ⟨by simp, hb⟩
    · have hd : (t == 0) = false := by simpa using ht
      go_enter Try.func14, Try.ntmps14
      go_wp2
      go_ret
      exact ⟨by simp [hd], hb⟩
  · have hd : (s == 0) = false := by simpa using hs
    go_enter Try.func14, Try.ntmps14
    go_wp2
    go_ret
    exact ⟨by simp [hd], hb⟩
set_option maxHeartbeats 4000000 in
theorem rightR6_6 (hk : 5 < k) (w : World) (v1 v2 : Value) :
    Calls Try.prog 14 #[.agg #[.int .u8 k, .int .u64 s, .int .u64 t, v1, v2]] w fun e w' => e = .returned (.bool false) ∧ Below w.heap.size w w' := by
  have h0 : ¬ k = 0 := by omega
  go_enter Try.func14, Try.ntmps14
  go_wp2
  go_ret
  exact ⟨rfl, ba (Below.refl _ _) _⟩
set_option maxHeartbeats 4000000 in
theorem rightR6_no (hk0 : 0 < k) (hk5 : k ≤ 5) (w : World) (h : PnAt w ⟨k, s, t, .slice a1 al.length c1, .slice a2 pl.length c2, al, pl⟩) (hw : PnWf ⟨k, s, t, .slice a1 al.length c1, .slice a2 pl.length c2, al, pl⟩) (hg : givesB ⟨k, s, t, .slice a1 al.length c1, .slice a2 pl.length c2, al, pl⟩ = false) :
    Calls Try.prog 14 #[.agg #[.int .u8 k, .int .u64 s, .int .u64 t, .slice a1 al.length c1, .slice a2 pl.length c2]] w fun e w' => e = .returned (.bool false) ∧ Below w.heap.size w w' := by
  have h0 : ¬ k = 0 := by omega
  have h5 : ¬ 5 < k := by omega
  have hb : Below w.heap.size w (w.alloc (.cells #[.int .u8 k, .int .u64 s, .int .u64 t, .slice a1 al.length c1, .slice a2 pl.length c2] 26)) := ba (Below.refl _ _) _
  have hR := rightRCL_any _ (h.1.below hb) hw.al
  have hkeep : Hid (∀ X, Below (w.alloc (.cells #[.int .u8 k, .int .u64 s, .int .u64 t, .slice a1 al.length c1, .slice a2 pl.length c2] 26)).heap.size (w.alloc (.cells #[.int .u8 k, .int .u64 s, .int .u64 t, .slice a1 al.length c1, .slice a2 pl.length c2] 26)) X → X.cell? ⟨w.heap.size, 0, none⟩ = some (.int .u8 k) ∧ X.cell? ⟨w.heap.size, 1, none⟩ = some (.int .u64 s) ∧ X.cell? ⟨w.heap.size, 2, none⟩ = some (.int .u64 t) ∧ X.cell? ⟨w.heap.size, 3, none⟩ = some (.slice a1 al.length c1) ∧ X.cell? ⟨w.heap.size, 4, none⟩ = some (.slice a2 pl.length c2)) := fun X hX => by
    have q1 := (hX.block w.heap.size (by simp)).trans (al_at rfl)
    exact ⟨(cells_of_block q1).1 0, (cells_of_block q1).1 1, (cells_of_block q1).1 2, (cells_of_block q1).1 3, (cells_of_block q1).1 4⟩
  have hl1 := h.1.len
  have hg' : Hid ((!al.isEmpty && rightFrom 0 al && decide (t ≤ 1099511627776)) = false) := hg
  clear hg h hw
  simp only at hR
  by_cases ha : al = []
  · subst ha
    clear hR hkeep hg'
    go_enter Try.func14, Try.ntmps14
    go_wp2
    go_ret
    exact ⟨rfl, hb⟩
  · have he : al.isEmpty = false := by cases al with | nil => exact absurd rfl ha | cons _ _ => rfl
    have hd : ((al.length : Int) == 0) = false := by have : al.length ≠ 0 := fun e => ha (List.eq_nil_of_length_eq_zero e); simp; omega
    have hd' : ¬ (al.length : Int) = 0 := by simpa using hd
    rw [he] at hg'
    cases hr : rightFrom 0 al
    · rw [hr] at hR
      clear hg' he hkeep
      go_enter Try.func14, Try.ntmps14
      go_wp2_with (go_at_call 24; refine hR.mono ?_; rintro e w1 ⟨rfl, hb1⟩)
      go_ret
      exact ⟨rfl, bt hb hb1⟩
    · rw [hr] at hR hg'
      have ht : 1099511627776 < t := by have := hg'.out; simp at this; omega
      clear hg' he
      go_enter Try.func14, Try.ntmps14
      go_wp2_with (go_at_call 24; refine hR.mono ?_; rintro e w1 ⟨rfl, hb1⟩; obtain ⟨q0, q1, q2, q3, q4⟩ := hkeep.out _ hb1)
      go_ret
      exact ⟨rfl, bt hb hb1⟩
theorem gives_parts {x : Pn} (h : givesB x = true) : x.al ≠ [] ∧ rightFrom 0 x.al = true ∧ x.e ≤ 1099511627776 := by
  unfold givesB someB at h
  simp only [Bool.and_eq_true, Bool.not_eq_true', decide_eq_true_eq, List.isEmpty_eq_false_iff] at h
  exact ⟨h.1.1, h.1.2, h.2⟩
set_option maxHeartbeats 4000000 in
theorem rightR6_pl (h0 : ¬ k = 0) (h5 : ¬ 5 < k) (hk3 : ¬ k = 3) (hk5 : ¬ k = 5) (w : World) (h : PnAt w ⟨k, s, t, .slice a1 al.length c1, .slice a2 pl.length c2, al, pl⟩) (hw : PnWf ⟨k, s, t, .slice a1 al.length c1, .slice a2 pl.length c2, al, pl⟩) (hg : givesB ⟨k, s, t, .slice a1 al.length c1, .slice a2 pl.length c2, al, pl⟩ = true) (hpl : pl ≠ []) :
    Calls Try.prog 14 #[.agg #[.int .u8 k, .int .u64 s, .int .u64 t, .slice a1 al.length c1, .slice a2 pl.length c2]] w fun e w' => e = .returned (.bool false) ∧ Below w.heap.size w w' := by
  have hb : Below w.heap.size w (w.alloc (.cells #[.int .u8 k, .int .u64 s, .int .u64 t, .slice a1 al.length c1, .slice a2 pl.length c2] 26)) := ba (Below.refl _ _) _
  have hR := rightRCL_any _ (h.1.below hb) hw.al
  have hkeep : Hid (∀ X, Below (w.alloc (.cells #[.int .u8 k, .int .u64 s, .int .u64 t, .slice a1 al.length c1, .slice a2 pl.length c2] 26)).heap.size (w.alloc (.cells #[.int .u8 k, .int .u64 s, .int .u64 t, .slice a1 al.length c1, .slice a2 pl.length c2] 26)) X → X.cell? ⟨w.heap.size, 0, none⟩ = some (.int .u8 k) ∧ X.cell? ⟨w.heap.size, 1, none⟩ = some (.int .u64 s) ∧ X.cell? ⟨w.heap.size, 2, none⟩ = some (.int .u64 t) ∧ X.cell? ⟨w.heap.size, 3, none⟩ = some (.slice a1 al.length c1) ∧ X.cell? ⟨w.heap.size, 4, none⟩ = some (.slice a2 pl.length c2)) := fun X hX => by
    have q1 := (hX.block w.heap.size (by simp)).trans (al_at rfl)
    exact ⟨(cells_of_block q1).1 0, (cells_of_block q1).1 1, (cells_of_block q1).1 2, (cells_of_block q1).1 3, (cells_of_block q1).1 4⟩
  have hl1 := h.1.len
  have hl2 := h.2.len
  obtain ⟨he, hr, ht⟩ := gives_parts hg
  simp only at hR he hr ht
  have hd : ((al.length : Int) == 0) = false := by have : al.length ≠ 0 := fun e => he (List.eq_nil_of_length_eq_zero e); simp; omega
  have hd' : ¬ (al.length : Int) = 0 := by simpa using hd
  have ht' : ¬ 1099511627776 < t := by omega
  rw [hr] at hR
  clear hg h hw
  have hp1 : 0 < pl.length := by cases pl with | nil => exact absurd rfl hpl | cons _ _ => simp
  clear hpl
  generalize pl.length = n at *
  have hp2 : decide (0 < n) = true := decide_eq_true hp1
  have hp0 : (0 : Int) < (n : Int) := by omega
  have hk3b : (k != 3) = true := bne_iff_ne.2 hk3
  have hk5b : (k != 5) = true := bne_iff_ne.2 hk5
  clear hk3 hk5
  go_enter Try.func14, Try.ntmps14
  go_wp2_with (go_at_call 24; refine hR.mono ?_; rintro e w1 ⟨rfl, hb1⟩; obtain ⟨q0, q1, q2, q3, q4⟩ := hkeep.out _ hb1)
  go_ret
  exact ⟨rfl, bt hb hb1⟩
set_option maxHeartbeats 4000000 in
theorem rightR6_1 (w : World) (h : PnAt w ⟨1, s, t, .slice a1 al.length c1, .slice a2 ([] : List Pd).length c2, al, []⟩) (hw : PnWf ⟨1, s, t, .slice a1 al.length c1, .slice a2 ([] : List Pd).length c2, al, []⟩) (hg : givesB ⟨1, s, t, .slice a1 al.length c1, .slice a2 ([] : List Pd).length c2, al, []⟩ = true) :
    Calls Try.prog 14 #[.agg #[.int .u8 1, .int .u64 s, .int .u64 t, .slice a1 al.length c1, .slice a2 0 c2]] w fun e w' => e = .returned (.bool (decide (s < t))) ∧ Below w.heap.size w w' := by
  have hb : Below w.heap.size w (w.alloc (.cells #[.int .u8 1, .int .u64 s, .int .u64 t, .slice a1 al.length c1, .slice a2 0 c2] 26)) := ba (Below.refl _ _) _
  have hR := rightRCL_any _ (h.1.below hb) hw.al
  have hkeep : Hid (∀ X, Below (w.alloc (.cells #[.int .u8 1, .int .u64 s, .int .u64 t, .slice a1 al.length c1, .slice a2 0 c2] 26)).heap.size (w.alloc (.cells #[.int .u8 1, .int .u64 s, .int .u64 t, .slice a1 al.length c1, .slice a2 0 c2] 26)) X → X.cell? ⟨w.heap.size, 0, none⟩ = some (.int .u8 1) ∧ X.cell? ⟨w.heap.size, 1, none⟩ = some (.int .u64 s) ∧ X.cell? ⟨w.heap.size, 2, none⟩ = some (.int .u64 t) ∧ X.cell? ⟨w.heap.size, 3, none⟩ = some (.slice a1 al.length c1) ∧ X.cell? ⟨w.heap.size, 4, none⟩ = some (.slice a2 0 c2)) := fun X hX => by
    have q1 := (hX.block w.heap.size (by simp)).trans (al_at rfl)
    exact ⟨(cells_of_block q1).1 0, (cells_of_block q1).1 1, (cells_of_block q1).1 2, (cells_of_block q1).1 3, (cells_of_block q1).1 4⟩
  have hl1 := h.1.len
  have hl2 := h.2.len
  obtain ⟨he, hr, ht⟩ := gives_parts hg
  simp only at hR he hr ht
  have hd : ((al.length : Int) == 0) = false := by have : al.length ≠ 0 := fun e => he (List.eq_nil_of_length_eq_zero e); simp; omega
  have hd' : ¬ (al.length : Int) = 0 := by simpa using hd
  have ht' : ¬ 1099511627776 < t := by omega
  rw [hr] at hR
  clear hg h hw
  by_cases hs : s < t
  · have hd2 : decide (s < t) = true := decide_eq_true hs
    go_enter Try.func14, Try.ntmps14
    go_wp2_with (go_at_call 24; refine hR.mono ?_; rintro e w1 ⟨rfl, hb1⟩; obtain ⟨q0, q1, q2, q3, q4⟩ := hkeep.out _ hb1)
    go_ret
    exact ⟨by simp [hd2], bt hb hb1⟩
  · have hd2 : decide (s < t) = false := decide_eq_false hs
    go_enter Try.func14, Try.ntmps14
    go_wp2_with (go_at_call 24; refine hR.mono ?_; rintro e w1 ⟨rfl, hb1⟩; obtain ⟨q0, q1, q2, q3, q4⟩ := hkeep.out _ hb1)
    go_ret
    exact ⟨by simp [hd2], bt hb hb1⟩
set_option maxHeartbeats 4000000 in
theorem rightR6_2 (w : World) (h : PnAt w ⟨2, s, t, .slice a1 al.length c1, .slice a2 ([] : List Pd).length c2, al, []⟩) (hw : PnWf ⟨2, s, t, .slice a1 al.length c1, .slice a2 ([] : List Pd).length c2, al, []⟩) (hg : givesB ⟨2, s, t, .slice a1 al.length c1, .slice a2 ([] : List Pd).length c2, al, []⟩ = true) :
    Calls Try.prog 14 #[.agg #[.int .u8 2, .int .u64 s, .int .u64 t, .slice a1 al.length c1, .slice a2 0 c2]] w fun e w' => e = .returned (.bool (s == 0)) ∧ Below w.heap.size w w' := by
  have hb : Below w.heap.size w (w.alloc (.cells #[.int .u8 2, .int .u64 s, .int .u64 t, .slice a1 al.length c1, .slice a2 0 c2] 26)) := ba (Below.refl _ _) _
  have hR := rightRCL_any _ (h.1.below hb) hw.al
  have hkeep : Hid (∀ X, Below (w.alloc (.cells #[.int .u8 2, .int .u64 s, .int .u64 t, .slice a1 al.length c1, .slice a2 0 c2] 26)).heap.size (w.alloc (.cells #[.int .u8 2, .int .u64 s, .int .u64 t, .slice a1 al.length c1, .slice a2 0 c2] 26)) X → X.cell? ⟨w.heap.size, 0, none⟩ = some (.int .u8 2) ∧ X.cell? ⟨w.heap.size, 1, none⟩ = some (.int .u64 s) ∧ X.cell? ⟨w.heap.size, 2, none⟩ = some (.int .u64 t) ∧ X.cell? ⟨w.heap.size, 3, none⟩ = some (.slice a1 al.length c1) ∧ X.cell? ⟨w.heap.size, 4, none⟩ = some (.slice a2 0 c2)) := fun X hX => by
    have q1 := (hX.block w.heap.size (by simp)).trans (al_at rfl)
    exact ⟨(cells_of_block q1).1 0, (cells_of_block q1).1 1, (cells_of_block q1).1 2, (cells_of_block q1).1 3, (cells_of_block q1).1 4⟩
  have hl1 := h.1.len
  have hl2 := h.2.len
  obtain ⟨he, hr, ht⟩ := gives_parts hg
  simp only at hR he hr ht
  have hd : ((al.length : Int) == 0) = false := by have : al.length ≠ 0 := fun e => he (List.eq_nil_of_length_eq_zero e); simp; omega
  have hd' : ¬ (al.length : Int) = 0 := by simpa using hd
  have ht' : ¬ 1099511627776 < t := by omega
  rw [hr] at hR
  clear hg h hw
  by_cases hs : s = 0
  · subst hs
    go_enter Try.func14, Try.ntmps14
    go_wp2_with (go_at_call 24; refine hR.mono ?_; rintro e w1 ⟨rfl, hb1⟩; obtain ⟨q0, q1, q2, q3, q4⟩ := hkeep.out _ hb1)
    go_ret
    exact ⟨by simp, bt hb hb1⟩
  · have hd2 : (s == 0) = false := by simpa using hs
    go_enter Try.func14, Try.ntmps14
    go_wp2_with (go_at_call 24; refine hR.mono ?_; rintro e w1 ⟨rfl, hb1⟩; obtain ⟨q0, q1, q2, q3, q4⟩ := hkeep.out _ hb1)
    go_ret
    exact ⟨by simp [hd2], bt hb hb1⟩
set_option maxHeartbeats 4000000 in
theorem rightR6_4 (w : World) (h : PnAt w ⟨4, s, t, .slice a1 al.length c1, .slice a2 ([] : List Pd).length c2, al, []⟩) (hw : PnWf ⟨4, s, t, .slice a1 al.length c1, .slice a2 ([] : List Pd).length c2, al, []⟩) (hg : givesB ⟨4, s, t, .slice a1 al.length c1, .slice a2 ([] : List Pd).length c2, al, []⟩ = true) :
    Calls Try.prog 14 #[.agg #[.int .u8 4, .int .u64 s, .int .u64 t, .slice a1 al.length c1, .slice a2 0 c2]] w fun e w' => e = .returned (.bool (s == 0 && t == 0)) ∧ Below w.heap.size w w' := by
  have hb : Below w.heap.size w (w.alloc (.cells #[.int .u8 4, .int .u64 s, .int .u64 t, .slice a1 al.length c1, .slice a2 0 c2] 26)) := ba (Below.refl _ _) _
  have hR := rightRCL_any _ (h.1.below hb) hw.al
  have hkeep : Hid (∀ X, Below (w.alloc (.cells #[.int .u8 4, .int .u64 s, .int .u64 t, .slice a1 al.length c1, .slice a2 0 c2] 26)).heap.size (w.alloc (.cells #[.int .u8 4, .int .u64 s, .int .u64 t, .slice a1 al.length c1, .slice a2 0 c2] 26)) X → X.cell? ⟨w.heap.size, 0, none⟩ = some (.int .u8 4) ∧ X.cell? ⟨w.heap.size, 1, none⟩ = some (.int .u64 s) ∧ X.cell? ⟨w.heap.size, 2, none⟩ = some (.int .u64 t) ∧ X.cell? ⟨w.heap.size, 3, none⟩ = some (.slice a1 al.length c1) ∧ X.cell? ⟨w.heap.size, 4, none⟩ = some (.slice a2 0 c2)) := fun X hX => by
    have q1 := (hX.block w.heap.size (by simp)).trans (al_at rfl)
    exact ⟨(cells_of_block q1).1 0, (cells_of_block q1).1 1, (cells_of_block q1).1 2, (cells_of_block q1).1 3, (cells_of_block q1).1 4⟩
  have hl1 := h.1.len
  have hl2 := h.2.len
  obtain ⟨he, hr, ht⟩ := gives_parts hg
  simp only at hR he hr ht
  have hd : ((al.length : Int) == 0) = false := by have : al.length ≠ 0 := fun e => he (List.eq_nil_of_length_eq_zero e); simp; omega
  have hd' : ¬ (al.length : Int) = 0 := by simpa using hd
  have ht' : ¬ 1099511627776 < t := by omega
  rw [hr] at hR
  clear hg h hw
  by_cases hs : s = 0
  · subst hs
    by_cases ht2 : t = 0
    · subst ht2
      go_enter Try.func14, Try.ntmps14
      go_wp2_with (go_at_call 24; refine hR.mono ?_; rintro e w1 ⟨rfl, hb1⟩; obtain ⟨q0, q1, q2, q3, q4⟩ := hkeep.out _ hb1)
      go_ret
      exact ⟨by simp, bt hb hb1⟩
    · have hd3 : (t == 0) = false := by simpa using ht2
      go_enter Try.func14, Try.ntmps14
      go_wp2_with (go_at_call 24; refine hR.mono ?_; rintro e w1 ⟨rfl, hb1⟩; obtain ⟨q0, q1, q2, q3, q4⟩ := hkeep.out _ hb1)
      go_ret
      exact ⟨by simp [hd3], bt hb hb1⟩
  · have hd2 : (s == 0) = false := by simpa using hs
    go_enter Try.func14, Try.ntmps14
    go_wp2_with (go_at_call 24; refine hR.mono ?_; rintro e w1 ⟨rfl, hb1⟩; obtain ⟨q0, q1, q2, q3, q4⟩ := hkeep.out _ hb1)
    go_ret
    exact ⟨by simp [hd2], bt hb hb1⟩
end
end Go.Proofs.Ytmfnfnegnfpkiaa
