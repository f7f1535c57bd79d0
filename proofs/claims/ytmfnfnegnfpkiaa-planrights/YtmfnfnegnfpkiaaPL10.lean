
/- plan.Right. -/
import Derived.Test.YtmfnfnegnfpkiaaPL8
import Derived.Test.YtmfnfnegnfpkiaaPL9
set_option linter.unusedSimpArgs false
set_option linter.unusedVariables false
set_option maxRecDepth 20000
namespace Go.Proofs.Ytmfnfnegnfpkiaa
open Go.RowKit
section
variable {s t : Int} {a1 a2 : Option Addr} {c1 c2 : Nat} {al : List Cn} {pl : List Pd}
set_option maxHeartbeats 4000000 in
theorem planRight_2 (w : World) (h : PnAt w ⟨2, s, t, .slice a1 al.length c1, .slice a2 pl.length c2, al, pl⟩) (hw : PnWf ⟨2, s, t, .slice a1 al.length c1, .slice a2 pl.length c2, al, pl⟩) :
    Calls Try.prog 13 #[.agg #[.int .u8 2, .int .u64 s, .int .u64 t, .slice a1 al.length c1, .slice a2 pl.length c2]] w fun e w' => e = .returned (.bool (s == 0 && givesB ⟨2, s, t, .slice a1 al.length c1, .slice a2 pl.length c2, al, pl⟩ && pl.isEmpty)) ∧ Below w.heap.size w w' := by
  have hb : Below w.heap.size w (w.alloc (.cells #[.int .u8 2, .int .u64 s, .int .u64 t, .slice a1 al.length c1, .slice a2 pl.length c2] 26)) := ba (Below.refl _ _) _
  have hG := gives_any _ (h.below hb) hw
  have hG' : Calls Try.prog 44 #[.agg #[.int .u8 2, .int .u64 s, .int .u64 t, .slice a1 al.length c1, .slice a2 pl.length c2]] _ _ := hG
  have hkeep : Hid (∀ X, Below (w.alloc (.cells #[.int .u8 2, .int .u64 s, .int .u64 t, .slice a1 al.length c1, .slice a2 pl.length c2] 26)).heap.size (w.alloc (.cells #[.int .u8 2, .int .u64 s, .int .u64 t, .slice a1 al.length c1, .slice a2 pl.length c2] 26)) X → X.cell? ⟨w.heap.size, 4, none⟩ = some (.slice a2 pl.length c2)) := fun X hX => by
    have q1 := (hX.block w.heap.size (by simp)).trans (al_at rfl)
    exact (cells_of_block q1).1 4
  have hpn := h.2.len
  clear hG
  by_cases hs : s = 0
  · subst hs
    cases hg : givesB ⟨2, 0, t, .slice a1 al.length c1, .slice a2 pl.length c2, al, pl⟩
    · rw [hg] at hG'
      go_enter Try.func13, Try.ntmps13
      go_wp2_with (go_at_call 44; refine hG'.mono ?_; rintro e w1 ⟨rfl, hb1⟩)
      go_ret
      exact ⟨by simp, bt hb hb1⟩
    · rw [hg] at hG'
      go_enter Try.func13, Try.ntmps13
      go_wp2_with (go_at_call 44; refine hG'.mono ?_; rintro e w1 ⟨rfl, hb1⟩; have q := hkeep.out _ hb1)
      go_ret
      refine ⟨?_, bt hb hb1⟩
      cases pl with
      | nil => simp
      | cons y pl => simp; omega
  · skip
    have hd : (s == 0) = false := by simpa using hs
    clear hG' hkeep
    go_enter Try.func13, Try.ntmps13
    go_wp2
    go_ret
    exact ⟨by simp [hd], hb⟩
set_option maxHeartbeats 4000000 in
theorem planRight_4 (w : World) (h : PnAt w ⟨4, s, t, .slice a1 al.length c1, .slice a2 pl.length c2, al, pl⟩) (hw : PnWf ⟨4, s, t, .slice a1 al.length c1, .slice a2 pl.length c2, al, pl⟩) :
    Calls Try.prog 13 #[.agg #[.int .u8 4, .int .u64 s, .int .u64 t, .slice a1 al.length c1, .slice a2 pl.length c2]] w fun e w' => e = .returned (.bool (s == 0 && t == 0 && givesB ⟨4, s, t, .slice a1 al.length c1, .slice a2 pl.length c2, al, pl⟩ && pl.isEmpty)) ∧ Below w.heap.size w w' := by
  have hb : Below w.heap.size w (w.alloc (.cells #[.int .u8 4, .int .u64 s, .int .u64 t, .slice a1 al.length c1, .slice a2 pl.length c2] 26)) := ba (Below.refl _ _) _
  have hG := gives_any _ (h.below hb) hw
  have hG' : Calls Try.prog 44 #[.agg #[.int .u8 4, .int .u64 s, .int .u64 t, .slice a1 al.length c1, .slice a2 pl.length c2]] _ _ := hG
  have hkeep : Hid (∀ X, Below (w.alloc (.cells #[.int .u8 4, .int .u64 s, .int .u64 t, .slice a1 al.length c1, .slice a2 pl.length c2] 26)).heap.size (w.alloc (.cells #[.int .u8 4, .int .u64 s, .int .u64 t, .slice a1 al.length c1, .slice a2 pl.length c2] 26)) X → X.cell? ⟨w.heap.size, 4, none⟩ = some (.slice a2 pl.length c2)) := fun X hX => by
    have q1 := (hX.block w.heap.size (by simp)).trans (al_at rfl)
    exact (cells_of_block q1).1 4
  have hpn := h.2.len
  clear hG
  by_cases hs : s = 0
  · subst hs
    by_cases ht : t = 0
    · subst ht
      cases hg : givesB ⟨4, 0, 0, .slice a1 al.length c1, .slice a2 pl.length c2, al, pl⟩
      · rw [hg] at hG'
        go_enter Try.func13, Try.ntmps13
        go_wp2_with (go_at_call 44; refine hG'.mono ?_; rintro e w1 ⟨rfl, hb1⟩)
        go_ret
        exact ⟨by simp, bt hb hb1⟩
      · rw [hg] at hG'
        go_enter Try.func13, Try.ntmps13
        go_wp2_with (go_at_call 44; refine hG'.mono ?_; rintro e w1 ⟨rfl, hb1⟩; have q := hkeep.out _ hb1)
        go_ret
        refine ⟨?_, bt hb hb1⟩
        cases pl with
        | nil => simp
        | cons y pl => simp; omega
    · skip
      have hd : (t == 0) = false := by simpa using ht
      clear hG' hkeep
      go_enter Try.func13, Try.ntmps13
      go_wp2
      go_ret
      exact ⟨by simp [hd], hb⟩
  · skip
    have hd : (s == 0) = false := by simpa using hs
    clear hG' hkeep
    go_enter Try.func13, Try.ntmps13
    go_wp2
    go_ret
    exact ⟨by simp [hd], hb⟩
set_option maxHeartbeats 4000000 in
theorem planRight_3 (w : World) (h : PnAt w ⟨3, s, t, .slice a1 al.length c1, .slice a2 pl.length c2, al, pl⟩) (ho : PnOk ⟨3, s, t, .slice a1 al.length c1, .slice a2 pl.length c2, al, pl⟩) :
    Calls Try.prog 13 #[.agg #[.int .u8 3, .int .u64 s, .int .u64 t, .slice a1 al.length c1, .slice a2 pl.length c2]] w fun e w' => e = .returned (.bool (givesB ⟨3, s, t, .slice a1 al.length c1, .slice a2 pl.length c2, al, pl⟩ && stepsB ⟨3, s, t, .slice a1 al.length c1, .slice a2 pl.length c2, al, pl⟩)) ∧ Below w.heap.size w w' := by
  have hb : Below w.heap.size w (w.alloc (.cells #[.int .u8 3, .int .u64 s, .int .u64 t, .slice a1 al.length c1, .slice a2 pl.length c2] 26)) := ba (Below.refl _ _) _
  have hG := gives_any _ (h.below hb) ho.w
  have hG' : Calls Try.prog 44 #[.agg #[.int .u8 3, .int .u64 s, .int .u64 t, .slice a1 al.length c1, .slice a2 pl.length c2]] _ _ := hG
  have hkeep : Hid (∀ X, Below (w.alloc (.cells #[.int .u8 3, .int .u64 s, .int .u64 t, .slice a1 al.length c1, .slice a2 pl.length c2] 26)).heap.size (w.alloc (.cells #[.int .u8 3, .int .u64 s, .int .u64 t, .slice a1 al.length c1, .slice a2 pl.length c2] 26)) X → X.cell? ⟨w.heap.size, 0, none⟩ = some (.int .u8 3) ∧ X.cell? ⟨w.heap.size, 1, none⟩ = some (.int .u64 s) ∧ X.cell? ⟨w.heap.size, 2, none⟩ = some (.int .u64 t) ∧ X.cell? ⟨w.heap.size, 3, none⟩ = some (.slice a1 al.length c1) ∧ X.cell? ⟨w.heap.size, 4, none⟩ = some (.slice a2 pl.length c2)) := fun X hX => by
    have q1 := (hX.block w.heap.size (by simp)).trans (al_at rfl)
    exact ⟨(cells_of_block q1).1 0, (cells_of_block q1).1 1, (cells_of_block q1).1 2, (cells_of_block q1).1 3, (cells_of_block q1).1 4⟩
  clear hG
  cases hg : givesB ⟨3, s, t, .slice a1 al.length c1, .slice a2 pl.length c2, al, pl⟩
  · rw [hg] at hG'
    clear hkeep
    go_enter Try.func13, Try.ntmps13
    go_wp2_with (go_at_call 44; refine hG'.mono ?_; rintro e w1 ⟨rfl, hb1⟩)
    go_ret
    exact ⟨by simp, bt hb hb1⟩
  · have hS : Hid (∀ X, Below w.heap.size w X → Calls Try.prog 45 #[.agg #[.int .u8 3, .int .u64 s, .int .u64 t, .slice a1 al.length c1, .slice a2 pl.length c2]] X fun e w' => e = .returned (.bool (stepsB ⟨3, s, t, .slice a1 al.length c1, .slice a2 pl.length c2, al, pl⟩)) ∧ Below X.heap.size X w') := fun X hX => steps_any X (h.below hX) ho (gives_right hg)
    rw [hg] at hG'
    generalize stepsB ⟨3, s, t, .slice a1 al.length c1, .slice a2 pl.length c2, al, pl⟩ = K at *
    go_enter Try.func13, Try.ntmps13
    go_wp2_with (first
      | (go_at_call 44; refine hG'.mono ?_; rintro e w1 ⟨rfl, hb1⟩; obtain ⟨q0, q1, q2, q3, q4⟩ := hkeep.out _ hb1)
      | (go_at_call 45; refine (hS.out _ (bt hb hb1)).mono ?_; rintro e w2 ⟨rfl, hb2⟩))
    go_ret
    exact ⟨by simp, bt (bt hb hb1) hb2⟩
set_option maxHeartbeats 4000000 in
theorem planRight_5 (w : World) (h : PnAt w ⟨5, s, t, .slice a1 al.length c1, .slice a2 pl.length c2, al, pl⟩) (ho : PnOk ⟨5, s, t, .slice a1 al.length c1, .slice a2 pl.length c2, al, pl⟩) :
    Calls Try.prog 13 #[.agg #[.int .u8 5, .int .u64 s, .int .u64 t, .slice a1 al.length c1, .slice a2 pl.length c2]] w fun e w' => e = .returned (.bool (givesB ⟨5, s, t, .slice a1 al.length c1, .slice a2 pl.length c2, al, pl⟩ && stepsB ⟨5, s, t, .slice a1 al.length c1, .slice a2 pl.length c2, al, pl⟩)) ∧ Below w.heap.size w w' := by
  have hb : Below w.heap.size w (w.alloc (.cells #[.int .u8 5, .int .u64 s, .int .u64 t, .slice a1 al.length c1, .slice a2 pl.length c2] 26)) := ba (Below.refl _ _) _
  have hG := gives_any _ (h.below hb) ho.w
  have hG' : Calls Try.prog 44 #[.agg #[.int .u8 5, .int .u64 s, .int .u64 t, .slice a1 al.length c1, .slice a2 pl.length c2]] _ _ := hG
  have hkeep : Hid (∀ X, Below (w.alloc (.cells #[.int .u8 5, .int .u64 s, .int .u64 t, .slice a1 al.length c1, .slice a2 pl.length c2] 26)).heap.size (w.alloc (.cells #[.int .u8 5, .int .u64 s, .int .u64 t, .slice a1 al.length c1, .slice a2 pl.length c2] 26)) X → X.cell? ⟨w.heap.size, 0, none⟩ = some (.int .u8 5) ∧ X.cell? ⟨w.heap.size, 1, none⟩ = some (.int .u64 s) ∧ X.cell? ⟨w.heap.size, 2, none⟩ = some (.int .u64 t) ∧ X.cell? ⟨w.heap.size, 3, none⟩ = some (.slice a1 al.length c1) ∧ X.cell? ⟨w.heap.size, 4, none⟩ = some (.slice a2 pl.length c2)) := fun X hX => by
    have q1 := (hX.block w.heap.size (by simp)).trans (al_at rfl)
    exact ⟨(cells_of_block q1).1 0, (cells_of_block q1).1 1, (cells_of_block q1).1 2, (cells_of_block q1).1 3, (cells_of_block q1).1 4⟩
  clear hG
  cases hg : givesB ⟨5, s, t, .slice a1 al.length c1, .slice a2 pl.length c2, al, pl⟩
  · rw [hg] at hG'
    clear hkeep
    go_enter Try.func13, Try.ntmps13
    go_wp2_with (go_at_call 44; refine hG'.mono ?_; rintro e w1 ⟨rfl, hb1⟩)
    go_ret
    exact ⟨by simp, bt hb hb1⟩
  · have hS : Hid (∀ X, Below w.heap.size w X → Calls Try.prog 45 #[.agg #[.int .u8 5, .int .u64 s, .int .u64 t, .slice a1 al.length c1, .slice a2 pl.length c2]] X fun e w' => e = .returned (.bool (stepsB ⟨5, s, t, .slice a1 al.length c1, .slice a2 pl.length c2, al, pl⟩)) ∧ Below X.heap.size X w') := fun X hX => steps_any X (h.below hX) ho (gives_right hg)
    rw [hg] at hG'
    generalize stepsB ⟨5, s, t, .slice a1 al.length c1, .slice a2 pl.length c2, al, pl⟩ = K at *
    go_enter Try.func13, Try.ntmps13
    go_wp2_with (first
      | (go_at_call 44; refine hG'.mono ?_; rintro e w1 ⟨rfl, hb1⟩; obtain ⟨q0, q1, q2, q3, q4⟩ := hkeep.out _ hb1)
      | (go_at_call 45; refine (hS.out _ (bt hb hb1)).mono ?_; rintro e w2 ⟨rfl, hb2⟩))
    go_ret
    exact ⟨by simp, bt (bt hb hb1) hb2⟩
end
theorem planRight_any {x : Pn} (w : World) (h : PnAt w x) (ho : PnOk x) :
    Calls Try.prog 13 #[pnV x] w fun e w' => e = .returned (.bool (rightB x)) ∧ Below w.heap.size w w' := by
  obtain ⟨k, s, t, av, pv, al, pl⟩ := x
  obtain ⟨a1, c1, e1⟩ := h.1.slice
  obtain ⟨a2, c2, e2⟩ := h.2.slice
  simp only at e1 e2
  subst e1 e2
  have hk := ho.w.k
  simp only at hk
  by_cases h0 : k = 0
  · subst h0
    exact planRight_0 w h
  by_cases h1 : k = 1
  · subst h1
    exact planRight_1 w h ho.w
  by_cases h2 : k = 2
  · subst h2
    exact planRight_2 w h ho.w
  by_cases h3 : k = 3
  · subst h3
    exact planRight_3 w h ho
  by_cases h4 : k = 4
  · subst h4
    exact planRight_4 w h ho.w
  by_cases h5 : k = 5
  · subst h5
    exact planRight_5 w h ho
  have e : rightB ⟨k, s, t, .slice a1 al.length c1, .slice a2 pl.length c2, al, pl⟩ = false := by
    unfold rightB rightN
    simp only
    rw [if_neg (by omega), if_neg h0, if_neg h1, if_neg h2, if_neg h4]
  rw [e]
  exact planRight_6 k (by omega) hk.2 w _ _
end Go.Proofs.Ytmfnfnegnfpkiaa
