
/- store: what is undone is as it was; plain facts. -/
import Derived.Test.YtafcianpajheiaaO10
set_option linter.unusedSimpArgs false
set_option linter.unusedVariables false
set_option maxRecDepth 20000
namespace Go.Proofs.Ytafcianpajheiaa

/-- Rising by their keys. -/
def SrtC (l : List (List Int × List Int)) : Prop := l.Pairwise fun x y => cmpB x.1 y.1 < 0
theorem srt_cont {r : List Rec} (h : Srt r) : SrtC (cont r) := by
  unfold SrtC cont
  rw [List.pairwise_map]
  exact h
theorem srt_tail {y : Rec} {l : List Rec} (h : Srt (y :: l)) : Srt l ∧ ∀ z ∈ l, cmpB y.k z.k < 0 := ⟨(List.pairwise_cons.1 h).2, (List.pairwise_cons.1 h).1⟩
theorem cmp_pos {p q : List Int} (h : cmpB p q < 0) : 0 < cmpB q p := by have := cmp_flip p q; omega
theorem cmp_neg {p q : List Int} (h : 0 < cmpB q p) : cmpB p q < 0 := by have := cmp_flip p q; omega
/-- A sorted list is what is less than a key, the key (if it is there), and what is greater. -/
theorem split_srt {l : List (List Int × List Int)} (h : SrtC l) (k : List Int) : ∃ a c, (∀ x ∈ a, cmpB x.1 k < 0) ∧ (∀ x ∈ c, 0 < cmpB x.1 k) ∧ ((getS l k = none ∧ l = a ++ c) ∨ ∃ v, getS l k = some v ∧ l = a ++ (k, v) :: c) := by
  induction l with
  | nil => exact ⟨[], [], by simp, by simp, .inl ⟨rfl, rfl⟩⟩
  | cons y l ih =>
    obtain ⟨h1, h2⟩ := List.pairwise_cons.1 h
    rcases Int.lt_trichotomy (cmpB y.1 k) 0 with hc | hc | hc
    · obtain ⟨a, c, ha, hcc, he⟩ := ih h2
      have hg : getS (y :: l) k = getS l k := by unfold getS; rw [List.find?_cons_of_neg (by simp; omega)]
      refine ⟨y :: a, c, fun x hx => ?_, hcc, ?_⟩
      · rcases List.mem_cons.1 hx with rfl | hx
        · exact hc
        · exact ha x hx
      · rw [hg]
        rcases he with ⟨e1, e2⟩ | ⟨v, e1, e2⟩
        · exact .inl ⟨e1, by rw [e2]; rfl⟩
        · exact .inr ⟨v, e1, by rw [e2]; rfl⟩
    · have hk := cmp_eq0 _ _ hc
      refine ⟨[], l, by simp, fun x hx => ?_, .inr ⟨y.2, ?_, ?_⟩⟩
      · have := h1 x hx; rw [hk] at this; exact cmp_pos this
      · unfold getS; rw [List.find?_cons_of_pos (by simp [hc])]; rfl
      · rw [← hk]; rfl
    · have hgt : ∀ x ∈ l, 0 < cmpB x.1 k := fun x hx => by
        have := h1 x hx
        exact cmp_pos (cmp_trans _ _ _ (cmp_neg hc) this)
      refine ⟨[], y :: l, by simp, fun x hx => ?_, .inl ⟨?_, rfl⟩⟩
      · rcases List.mem_cons.1 hx with rfl | hx
        · exact hc
        · exact hgt x hx
      · unfold getS
        rw [List.find?_eq_none.2]
        · rfl
        · intro x hx
          rcases List.mem_cons.1 hx with rfl | hx
          · simp; omega
          · have := hgt x hx; simp; omega
section
variable {a c : List (List Int × List Int)} {k : List Int}
theorem fl_lo (ha : ∀ x ∈ a, cmpB x.1 k < 0) : a.filter (fun x => decide (cmpB x.1 k < 0)) = a := List.filter_eq_self.2 (fun x hx => by simpa using ha x hx)
theorem fl_lo0 (hc : ∀ x ∈ c, 0 < cmpB x.1 k) : c.filter (fun x => decide (cmpB x.1 k < 0)) = [] := List.filter_eq_nil_iff.2 (fun x hx => by have := hc x hx; simp; omega)
theorem fl_hi (hc : ∀ x ∈ c, 0 < cmpB x.1 k) : c.filter (fun x => decide (0 < cmpB x.1 k)) = c := List.filter_eq_self.2 (fun x hx => by simpa using hc x hx)
theorem fl_hi0 (ha : ∀ x ∈ a, cmpB x.1 k < 0) : a.filter (fun x => decide (0 < cmpB x.1 k)) = [] := List.filter_eq_nil_iff.2 (fun x hx => by have := ha x hx; simp; omega)
theorem put_mid (v u : List Int) (ha : ∀ x ∈ a, cmpB x.1 k < 0) (hc : ∀ x ∈ c, 0 < cmpB x.1 k) : putS (a ++ (k, v) :: c) k u = a ++ (k, u) :: c := by
  unfold putS
  rw [List.filter_append, List.filter_append, fl_lo ha, fl_hi0 ha, List.filter_cons_of_neg (by simp [cmp_self]), List.filter_cons_of_neg (by simp [cmp_self]), fl_lo0 hc, fl_hi hc]
  simp
theorem put_new (u : List Int) (ha : ∀ x ∈ a, cmpB x.1 k < 0) (hc : ∀ x ∈ c, 0 < cmpB x.1 k) : putS (a ++ c) k u = a ++ (k, u) :: c := by
  unfold putS
  rw [List.filter_append, List.filter_append, fl_lo ha, fl_hi0 ha, fl_lo0 hc, fl_hi hc]
  simp
theorem drop_mid (v : List Int) (ha : ∀ x ∈ a, cmpB x.1 k < 0) (hc : ∀ x ∈ c, 0 < cmpB x.1 k) : dropS (a ++ (k, v) :: c) k = a ++ c := by
  unfold dropS
  rw [List.filter_append, List.filter_append, fl_lo ha, fl_hi0 ha, List.filter_cons_of_neg (by simp [cmp_self]), List.filter_cons_of_neg (by simp [cmp_self]), fl_lo0 hc, fl_hi hc]
  simp
theorem drop_new (ha : ∀ x ∈ a, cmpB x.1 k < 0) (hc : ∀ x ∈ c, 0 < cmpB x.1 k) : dropS (a ++ c) k = a ++ c := by
  unfold dropS
  rw [List.filter_append, List.filter_append, fl_lo ha, fl_hi0 ha, fl_lo0 hc, fl_hi hc]
  simp
end
/-- A change is undone by what was noted of it. -/
theorem undo_put {l : List (List Int × List Int)} (h : SrtC l) {k v : List Int} {x : Was} (hx : WasS x l k) : undoS (putS l k v) x = l := by
  obtain ⟨a, c, ha, hc, he⟩ := split_srt h k
  obtain ⟨hk, ht⟩ := hx
  unfold undoS
  rcases he with ⟨e1, e2⟩ | ⟨u, e1, e2⟩
  · rcases ht with ⟨_, e⟩ | ⟨t, _⟩
    · rw [e1] at e; cases e
    · rw [t, hk, e2, put_new v ha hc]; simp only [Bool.false_eq_true, if_false]; exact drop_mid v ha hc
  · rcases ht with ⟨t, e⟩ | ⟨_, e⟩
    · rw [e1] at e; simp at e; rw [t, hk, e2, put_mid u v ha hc, if_pos rfl, ← e]; exact put_mid v u ha hc
    · rw [e1] at e; cases e
theorem undo_drop {l : List (List Int × List Int)} (h : SrtC l) {k : List Int} {x : Was} (hx : WasS x l k) : undoS (dropS l k) x = l := by
  obtain ⟨a, c, ha, hc, he⟩ := split_srt h k
  obtain ⟨hk, ht⟩ := hx
  unfold undoS
  rcases he with ⟨e1, e2⟩ | ⟨u, e1, e2⟩
  · rcases ht with ⟨_, e⟩ | ⟨t, _⟩
    · rw [e1] at e; cases e
    · rw [t, hk, e2, drop_new ha hc]; simp only [Bool.false_eq_true, if_false]; exact drop_new ha hc
  · rcases ht with ⟨t, e⟩ | ⟨_, e⟩
    · rw [e1] at e; simp at e; rw [t, hk, e2, drop_mid u ha hc, if_pos rfl, ← e]; exact put_new u ha hc
    · rw [e1] at e; cases e
theorem drop_none {l : List (List Int × List Int)} (h : SrtC l) {k : List Int} (hg : getS l k = none) : dropS l k = l := by
  obtain ⟨a, c, ha, hc, he⟩ := split_srt h k
  rcases he with ⟨e1, e2⟩ | ⟨u, e1, e2⟩
  · rw [e2]; exact drop_new ha hc
  · rw [hg] at e1; cases e1
theorem srt_putS {l : List (List Int × List Int)} (h : SrtC l) (k v : List Int) : SrtC (putS l k v) := by
  obtain ⟨a, c, ha, hc, he⟩ := split_srt h k
  have key : ∀ a c : List (List Int × List Int), SrtC a → SrtC c → (∀ x ∈ a, cmpB x.1 k < 0) → (∀ x ∈ c, 0 < cmpB x.1 k) → SrtC (a ++ (k, v) :: c) := fun a c sa sc ha hc => by
    refine List.pairwise_append.2 ⟨sa, List.pairwise_cons.2 ⟨fun y hy => cmp_neg (hc y hy), sc⟩, fun y hy z hz => ?_⟩
    rcases List.mem_cons.1 hz with rfl | hz
    · exact ha y hy
    · exact cmp_trans _ _ _ (ha y hy) (cmp_neg (hc z hz))
  rcases he with ⟨e1, e2⟩ | ⟨u, e1, e2⟩
  · rw [e2, put_new v ha hc]
    rw [e2] at h
    obtain ⟨sa, sc, -⟩ := List.pairwise_append.1 h
    exact key a c sa sc ha hc
  · rw [e2, put_mid u v ha hc]
    rw [e2] at h
    obtain ⟨sa, sc, -⟩ := List.pairwise_append.1 h
    exact key a c sa (List.pairwise_cons.1 sc).2 ha hc
theorem rollS_app (l : List (List Int × List Int)) (a b : List Was) : rollS l (a ++ b) = rollS (rollS l b) a := by simp [rollS]

/-- A store's journal, against what its content was when each part began (the innermost last). -/
structure Jr (l : List (List Int × List Int)) (j : List Was) (b : List Nat) (was : List (List (List Int × List Int))) : Prop where
  len : b.length = was.length
  le : ∀ n ∈ b, n ≤ j.length
  up : b.Pairwise (· ≤ ·)
  snap : ∀ (i n : Nat) (x : List (List Int × List Int)), b[i]? = some n → was[i]? = some x → rollS l (j.drop n) = x
  noj : b = [] → j = []
  z0 : ∀ n : Nat, b[0]? = some n → n = 0
theorem Jr.start (l : List (List Int × List Int)) : Jr l [] [] [] := ⟨rfl, by simp, List.Pairwise.nil, by simp, fun _ => rfl, by simp⟩
/-- A change whose undoing gives what was. -/
theorem Jr.change {l l' : List (List Int × List Int)} {j : List Was} {b : List Nat} {was : List (List (List Int × List Int))} (h : Jr l j b was) (hb : b ≠ []) (x : Was) (hu : undoS l' x = l) : Jr l' (j ++ [x]) b was := by
  refine ⟨h.len, fun n hn => by have := h.le n hn; rw [List.length_append]; omega, h.up, fun i n y hn hy => ?_, fun e => absurd e hb, h.z0⟩
  have hnl := h.le n (List.mem_of_getElem? hn)
  rw [List.drop_append_of_le_length hnl, rollS_snoc, hu]
  exact h.snap i n y hn hy
/-- With no part begun. -/
theorem Jr.free {l l' : List (List Int × List Int)} {j : List Was} {was : List (List (List Int × List Int))} (h : Jr l j [] was) : Jr l' j [] was :=
  ⟨h.len, by simp, h.up, by simp, h.noj, by simp⟩
theorem Jr.beg {l : List (List Int × List Int)} {j : List Was} {b : List Nat} {was : List (List (List Int × List Int))} (h : Jr l j b was) : Jr l j (b ++ [j.length]) (was ++ [l]) := by
  refine ⟨by simp [h.len], fun n hn => ?_, List.pairwise_append.2 ⟨h.up, List.pairwise_singleton _ _, fun x hx y hy => by rw [List.mem_singleton] at hy; subst hy; exact h.le x hx⟩, fun i n y hn hy => ?_, fun e => by simp at e, fun n hn => ?_⟩
  · rcases List.mem_append.1 hn with hn | hn
    · exact h.le n hn
    · rw [List.mem_singleton] at hn; omega
  · by_cases hi : i < b.length
    · rw [List.getElem?_append_left hi] at hn
      rw [List.getElem?_append_left (by rw [← h.len]; exact hi)] at hy
      exact h.snap i n y hn hy
    · have hi2 : i = b.length := by
        have := (List.getElem?_eq_some_iff.1 hn).1
        simp at this; omega
      subst hi2
      rw [List.getElem?_append_right (Nat.le_refl _), Nat.sub_self] at hn
      rw [h.len, List.getElem?_append_right (Nat.le_refl _), Nat.sub_self] at hy
      simp at hn hy
      rw [← hn, ← hy, List.drop_length]; rfl
  · by_cases hb : b = []
    · subst hb; rw [h.noj rfl] at hn; simp at hn; omega
    · have hbl : 0 < b.length := by cases b with | nil => exact absurd rfl hb | cons _ _ => simp
      rw [List.getElem?_append_left hbl] at hn
      exact h.z0 n hn
theorem Jr.com {l : List (List Int × List Int)} {j : List Was} {b : List Nat} {n : Nat} {was : List (List (List Int × List Int))} {x : List (List Int × List Int)} (h : Jr l j (b ++ [n]) (was ++ [x])) : Jr l (keepJ b j) b was := by
  have hl : b.length = was.length := by have := h.len; simpa using this
  by_cases hb : b = []
  · subst hb
    obtain rfl : was = [] := List.eq_nil_of_length_eq_zero hl.symm
    exact ⟨rfl, by simp, List.Pairwise.nil, by simp, fun _ => by simp [keepJ], by simp⟩
  · rw [keepJ, if_neg hb]
    refine ⟨hl, fun m hm => h.le m (List.mem_append_left _ hm), (List.pairwise_append.1 h.up).1, fun i m y hm hy => ?_, fun e => absurd e hb, fun m hm => h.z0 m (by rw [List.getElem?_append_left (List.getElem?_eq_some_iff.1 hm).1]; exact hm)⟩
    exact h.snap i m y (by rw [List.getElem?_append_left (List.getElem?_eq_some_iff.1 hm).1]; exact hm) (by rw [List.getElem?_append_left (List.getElem?_eq_some_iff.1 hy).1]; exact hy)
/-- Rolled back: the content is what it was when the innermost part began. -/
theorem Jr.rol {l : List (List Int × List Int)} {j : List Was} {b : List Nat} {n : Nat} {was : List (List (List Int × List Int))} {x : List (List Int × List Int)} (h : Jr l j (b ++ [n]) (was ++ [x])) : rollS l (j.drop n) = x ∧ Jr x (j.take n) b was := by
  have hl : b.length = was.length := by have := h.len; simpa using this
  have hx : rollS l (j.drop n) = x := h.snap b.length n x (by simp) (by rw [hl]; simp)
  have hnj := h.le n (by simp)
  refine ⟨hx, hl, fun m hm => ?_, (List.pairwise_append.1 h.up).1, fun i m y hm hy => ?_, fun e => ?_, fun m hm => h.z0 m (by rw [List.getElem?_append_left (List.getElem?_eq_some_iff.1 hm).1]; exact hm)⟩
  · have := (List.pairwise_append.1 h.up).2.2 m hm n (by simp)
    rw [List.length_take]; omega
  · have hmn := (List.pairwise_append.1 h.up).2.2 m (List.mem_of_getElem? hm) n (by simp)
    have hs := h.snap i m y (by rw [List.getElem?_append_left (List.getElem?_eq_some_iff.1 hm).1]; exact hm) (by rw [List.getElem?_append_left (List.getElem?_eq_some_iff.1 hy).1]; exact hy)
    rw [← hs, ← hx, ← rollS_app]
    congr 1
    conv => rhs; rw [← List.take_append_drop n j]
    rw [List.drop_append_of_le_length (by rw [List.length_take]; omega)]
  · subst e; rw [h.z0 n (by simp)]; rfl
end Go.Proofs.Ytafcianpajheiaa
