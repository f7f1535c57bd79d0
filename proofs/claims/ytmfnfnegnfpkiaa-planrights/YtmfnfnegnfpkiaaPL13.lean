
/- The reference's Right of any plan. -/
import Derived.Test.YtmfnfnegnfpkiaaPL12
set_option linter.unusedSimpArgs false
set_option linter.unusedVariables false
set_option maxRecDepth 20000
namespace Go.Proofs.Ytmfnfnegnfpkiaa
open Go.RowKit
theorem rightN_gives {x : Pn} (h0 : x.k ≠ 0) (h : givesB x = false) : rightB x = false := by
  unfold rightB rightN
  rw [h, if_neg h0]
  split
  · simp
  · split
    · simp
    · split
      · simp
      · split
        · simp
        · rfl
theorem rightR6_any {x : Pn} (w : World) (h : PnAt w x) (ho : PnOk x) :
    Calls Try.prog 14 #[pnV x] w fun e w' => e = .returned (.bool (rightB x)) ∧ Below w.heap.size w w' := by
  obtain ⟨k, s, t, av, pv, al, pl⟩ := x
  obtain ⟨a1, c1, e1⟩ := h.1.slice
  obtain ⟨a2, c2, e2⟩ := h.2.slice
  simp only at e1 e2
  subst e1 e2
  have hk := ho.w.k
  simp only at hk
  by_cases h0 : k = 0
  · subst h0
    exact rightR6_0 w h
  by_cases h6 : 5 < k
  · have e : rightB ⟨k, s, t, .slice a1 al.length c1, .slice a2 pl.length c2, al, pl⟩ = false := by
      unfold rightB rightN
      simp only
      rw [if_neg (by omega), if_neg h0, if_neg (by omega), if_neg (by omega), if_neg (by omega)]
    rw [e]
    exact rightR6_6 h6 w _ _
  cases hg : givesB ⟨k, s, t, .slice a1 al.length c1, .slice a2 pl.length c2, al, pl⟩
  · rw [rightN_gives (x := ⟨k, s, t, .slice a1 al.length c1, .slice a2 pl.length c2, al, pl⟩) h0 hg]
    exact rightR6_no (k := k) (by omega) (by omega) w h ho.w hg
  by_cases h3 : k = 3
  · subst h3
    have e : rightB ⟨3, s, t, .slice a1 al.length c1, .slice a2 pl.length c2, al, pl⟩ = (givesB ⟨3, s, t, .slice a1 al.length c1, .slice a2 pl.length c2, al, pl⟩ && stepsB ⟨3, s, t, .slice a1 al.length c1, .slice a2 pl.length c2, al, pl⟩) := rfl
    rw [e, hg, Bool.true_and]
    exact rightR6_3 w h ho hg
  by_cases h5 : k = 5
  · subst h5
    have e : rightB ⟨5, s, t, .slice a1 al.length c1, .slice a2 pl.length c2, al, pl⟩ = (givesB ⟨5, s, t, .slice a1 al.length c1, .slice a2 pl.length c2, al, pl⟩ && stepsB ⟨5, s, t, .slice a1 al.length c1, .slice a2 pl.length c2, al, pl⟩) := rfl
    rw [e, hg, Bool.true_and]
    exact rightR6_5 w h ho hg
  by_cases hp : pl = []
  · subst hp
    by_cases h1 : k = 1
    · subst h1
      have e : rightB ⟨1, s, t, .slice a1 al.length c1, .slice a2 ([] : List Pd).length c2, al, []⟩ = (decide (s < t) && givesB ⟨1, s, t, .slice a1 al.length c1, .slice a2 ([] : List Pd).length c2, al, []⟩ && true) := rfl
      rw [e, hg, Bool.and_true, Bool.and_true]
      exact rightR6_1 w h ho.w hg
    by_cases h2 : k = 2
    · subst h2
      have e : rightB ⟨2, s, t, .slice a1 al.length c1, .slice a2 ([] : List Pd).length c2, al, []⟩ = (s == 0 && givesB ⟨2, s, t, .slice a1 al.length c1, .slice a2 ([] : List Pd).length c2, al, []⟩ && true) := rfl
      rw [e, hg, Bool.and_true, Bool.and_true]
      exact rightR6_2 w h ho.w hg
    · obtain rfl : k = 4 := by omega
      have e : rightB ⟨4, s, t, .slice a1 al.length c1, .slice a2 ([] : List Pd).length c2, al, []⟩ = (s == 0 && t == 0 && givesB ⟨4, s, t, .slice a1 al.length c1, .slice a2 ([] : List Pd).length c2, al, []⟩ && true) := rfl
      rw [e, hg, Bool.and_true, Bool.and_true]
      exact rightR6_4 w h ho.w hg
  · have e : rightB ⟨k, s, t, .slice a1 al.length c1, .slice a2 pl.length c2, al, pl⟩ = false := by
      have hi : pl.isEmpty = false := by cases pl with | nil => exact absurd rfl hp | cons _ _ => rfl
      unfold rightB rightN
      simp only
      rw [hi, if_neg (by omega), if_neg h0]
      simp
    rw [e]
    exact rightR6_pl h0 h6 h3 h5 w h ho.w hg hp
end Go.Proofs.Ytmfnfnegnfpkiaa
