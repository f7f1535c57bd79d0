
/- store: what lies in a store; where a key is. -/
import Derived.Test.YtafcianpajheiaaO1
set_option linter.unusedSimpArgs false
set_option linter.unusedVariables false
set_option maxRecDepth 20000
namespace Go.Proofs.Ytafcianpajheiaa
open Go.RowKit

theorem cmp_self : ∀ p : List Int, cmpB p p = 0
  | [] => rfl
  | a :: p => by simp [cmpB, cmp_self p]
theorem cmp_flip : ∀ p q : List Int, cmpB q p = - cmpB p q
  | [], [] => rfl
  | [], _ :: _ => rfl
  | _ :: _, [] => rfl
  | a :: p, b :: q => by
    have ih := cmp_flip p q
    simp only [cmpB]
    by_cases h1 : a < b
    · simp only [if_pos h1, if_neg (show ¬ b < a by omega)]; rfl
    · by_cases h2 : b < a
      · simp only [if_neg h1, if_pos h2]
      · simp only [if_neg h1, if_neg h2]; exact ih
theorem cmp_eq0 : ∀ p q : List Int, cmpB p q = 0 → p = q
  | [], [], _ => rfl
  | [], _ :: _, h => by simp [cmpB] at h
  | _ :: _, [], h => by simp [cmpB] at h
  | a :: p, b :: q, h => by
    simp only [cmpB] at h
    by_cases h1 : a < b
    · rw [if_pos h1] at h; omega
    · rw [if_neg h1] at h
      by_cases h2 : b < a
      · rw [if_pos h2] at h; omega
      · rw [if_neg h2] at h
        rw [cmp_eq0 p q h, show a = b by omega]
theorem cmp_lim : ∀ p q : List Int, -1 ≤ cmpB p q ∧ cmpB p q ≤ 1
  | [], [] => by simp [cmpB]
  | [], _ :: _ => by simp [cmpB]
  | _ :: _, [] => by simp [cmpB]
  | a :: p, b :: q => by
    have ih := cmp_lim p q
    simp only [cmpB]
    split
    · omega
    · split
      · omega
      · exact ih
theorem cmp_trans : ∀ p q r : List Int, cmpB p q < 0 → cmpB q r < 0 → cmpB p r < 0
  | [], [], r, h, _ => by simp [cmpB] at h
  | [], b :: q, [], _, h => by simp [cmpB] at h
  | [], b :: q, c :: r, _, _ => by simp [cmpB]
  | a :: p, [], r, h, _ => by simp [cmpB] at h
  | a :: p, b :: q, [], _, h => by simp [cmpB] at h
  | a :: p, b :: q, c :: r, h1, h2 => by
    simp only [cmpB] at h1 h2 ⊢
    by_cases x1 : a < b
    · by_cases y1 : b < c
      · rw [if_pos (by omega)]; omega
      · by_cases y2 : c < b
        · rw [if_neg y1, if_pos y2] at h2; omega
        · rw [if_pos (by omega)]; omega
    · by_cases x2 : b < a
      · rw [if_neg x1, if_pos x2] at h1; omega
      · rw [if_neg x1, if_neg x2] at h1
        by_cases y1 : b < c
        · rw [if_pos (by omega)]; omega
        · by_cases y2 : c < b
          · rw [if_neg y1, if_pos y2] at h2; omega
          · rw [if_neg y1, if_neg y2] at h2
            rw [if_neg (by omega), if_neg (by omega)]
            exact cmp_trans p q r h1 h2

/-- A pair: its two values as they lie, and what they are. -/
structure Rec where
  kv : Value
  vv : Value
  k : List Int
  v : List Int
/-- What was: a pair, and whether it was there. -/
structure Was where
  kv : Value
  vv : Value
  k : List Int
  v : List Int
  there : Bool
def cellsR (r : List Rec) : List Value := r.flatMap fun x => [x.kv, x.vv]
def cellsJ (j : List Was) : List Value := j.flatMap fun x => [x.kv, x.vv, .bool x.there]
def cellsI (b : List Nat) : List Value := b.map fun n : Nat => .int .i64 (n : Int)
def InA (W : World) (A : Nat → Prop) (v : Value) (q : List Int) : Prop := (∃ g, A g ∧ Own W g v q) ∧ Byte q ∧ q.length ≤ 1048576
def RecAt (W : World) (A : Nat → Prop) (x : Rec) : Prop := InA W A x.kv x.k ∧ InA W A x.vv x.v
def WasAt (W : World) (A : Nat → Prop) (x : Was) : Prop := InA W A x.kv x.k ∧ (x.there = true → InA W A x.vv x.v) ∧ (x.there = false → x.vv = .slice none 0 0)
structure StC (W : World) (s base : Nat) (A : Nat → Prop) (vp vj vb : Value) (r : List Rec) (j : List Was) (b : List Nat) : Prop where
  blk : W.heap[s]? = some (.cells #[vp, vj, vb] 72 (0, 0))
  pairs : W.ownsRow base 112 2 vp r.length (cellsR r)
  jour : W.ownsRow base 129 3 vj j.length (cellsJ j)
  begun : W.ownsRow base 3 1 vb b.length (cellsI b)
  recs : ∀ x ∈ r, RecAt W A x
  was : ∀ x ∈ j, WasAt W A x
  foot : ∀ k, A k → base ≤ k ∧ k < W.heap.size
  a0 : A s
  ap : ∀ g, vp.ownBlock = some g → A g
  aj : ∀ g, vj.ownBlock = some g → A g
  ab : ∀ g, vb.ownBlock = some g → A g
  le : base ≤ W.heap.size
/-- Sorted, and few. -/
def Srt (r : List Rec) : Prop := r.Pairwise fun x y => cmpB x.k y.k < 0
theorem InA.kept {W W' : World} {A : Nat → Prop} {v : Value} {q : List Int} (h : InA W A v q) (e : ∀ k, A k → W'.heap[k]? = W.heap[k]?) : InA W' A v q := by
  obtain ⟨⟨g, h1, h2⟩, h3⟩ := h
  exact ⟨⟨g, h1, h2.kept (e g h1)⟩, h3⟩
theorem InA.mono {W : World} {A B : Nat → Prop} {v : Value} {q : List Int} (h : InA W A v q) (e : ∀ k, A k → B k) : InA W B v q := by
  obtain ⟨⟨g, h1, h2⟩, h3⟩ := h
  exact ⟨⟨g, e g h1, h2⟩, h3⟩
theorem InA.src {W : World} {A : Nat → Prop} {v : Value} {q : List Int} (h : InA W A v q) : Src W v q := by
  obtain ⟨⟨g, h1, h2⟩, h3⟩ := h
  exact h2.src
theorem RecAt.kept {W W' : World} {A : Nat → Prop} {x : Rec} (h : RecAt W A x) (e : ∀ k, A k → W'.heap[k]? = W.heap[k]?) : RecAt W' A x := ⟨h.1.kept e, h.2.kept e⟩
theorem WasAt.kept {W W' : World} {A : Nat → Prop} {x : Was} (h : WasAt W A x) (e : ∀ k, A k → W'.heap[k]? = W.heap[k]?) : WasAt W' A x := ⟨h.1.kept e, fun t => (h.2.1 t).kept e, h.2.2⟩
theorem row_keep {W W' : World} {base : Nat} {e : TypeId} {size n : Nat} {v : Value} {xs : List Value} (h : W.ownsRow base e size v n xs) (k : ∀ g, v.ownBlock = some g → W'.heap[g]? = W.heap[g]?) : W'.ownsRow base e size v n xs := by
  refine ⟨h.1, ?_⟩
  rcases h.2 with h2 | ⟨g, cap, cur, rfl, h1, h2, h3⟩
  · exact .inl h2
  · exact .inr ⟨g, cap, cur, rfl, h1, (k g rfl).trans h2, h3⟩
theorem StC.kept {W W' : World} {s base : Nat} {A : Nat → Prop} {vp vj vb : Value} {r : List Rec} {j : List Was} {b : List Nat} (h : StC W s base A vp vj vb r j b) (e : ∀ k, A k → W'.heap[k]? = W.heap[k]?) (hs : W.heap.size ≤ W'.heap.size) : StC W' s base A vp vj vb r j b where
  blk := (e s h.a0).trans h.blk
  pairs := row_keep h.pairs (fun g hg => e g (h.ap g hg))
  jour := row_keep h.jour (fun g hg => e g (h.aj g hg))
  begun := row_keep h.begun (fun g hg => e g (h.ab g hg))
  recs := fun x hx => (h.recs x hx).kept e
  was := fun x hx => (h.was x hx).kept e
  foot := fun k hk => ⟨(h.foot k hk).1, Nat.lt_of_lt_of_le (h.foot k hk).2 hs⟩
  a0 := h.a0
  ap := h.ap
  aj := h.aj
  ab := h.ab
  le := Nat.le_trans h.le hs
theorem StC.below {W W' : World} {s base : Nat} {A : Nat → Prop} {vp vj vb : Value} {r : List Rec} {j : List Was} {b : List Nat} (h : StC W s base A vp vj vb r j b) (hb : Below W.heap.size W W') : StC W' s base A vp vj vb r j b :=
  h.kept (fun k hk => hb.block k (h.foot k hk).2) hb.size
theorem cellsR_len (r : List Rec) : (cellsR r).length = r.length * 2 := by
  induction r with
  | nil => rfl
  | cons x r ih => rw [cellsR, List.flatMap_cons, List.length_append, ← cellsR, ih, List.length_cons]; simp; omega
theorem cellsR_at : ∀ (r : List Rec) (k : Nat) (x : Rec), r[k]? = some x → (cellsR r)[k * 2]? = some x.kv ∧ (cellsR r)[k * 2 + 1]? = some x.vv
  | [], k, x, h => by simp at h
  | y :: r, 0, x, h => by
    simp at h; subst h
    exact ⟨rfl, rfl⟩
  | y :: r, k + 1, x, h => by
    have ih := cellsR_at r k x (by simpa using h)
    rw [show (k + 1) * 2 = k * 2 + 1 + 1 by omega]
    exact ih
/-- A pair's two cells. -/
theorem pair_at {W : World} {base : Nat} {vp : Value} {r : List Rec} {k : Nat} {x : Rec} (h : W.ownsRow base 112 2 vp r.length (cellsR r)) (hk : r[k]? = some x) : ∃ g cap, vp = .slice (some ⟨g, 0, none⟩) r.length cap ∧ g < W.heap.size ∧ base ≤ g ∧ W.cell? ⟨g, k * 2, none⟩ = some x.kv ∧ W.cell? ⟨g, k * 2 + 1, none⟩ = some x.vv ∧ W.frozen? ⟨g, k * 2 + 1, none⟩ = false := by
  have hkl := (List.getElem?_eq_some_iff.1 hk).1
  rcases h.2 with ⟨rfl, h0⟩ | ⟨g, cap, cur, rfl, h1, h2, h3⟩
  · omega
  · obtain ⟨e1, e2⟩ := cellsR_at r k x hk
    have c1 := h.cells (g := g) rfl _ _ e1
    have c2 := h.cells (g := g) rfl _ _ e2
    rw [add_cell, Nat.zero_add] at c1 c2
    exact ⟨g, cap, rfl, (Array.getElem?_eq_some_iff.1 h2).1, h1, c1, c2, (cells_of_block h2).2 _⟩

set_option maxHeartbeats 1000000 in
theorem find1_any {W : World} {kv vv u : Value} {p q : List Int} (hk : Src W kv p) (hu : Src W u q) (hp : Byte p) (hq : Byte q) :
    Calls Try.prog 72 #[.agg #[kv, vv], u] W fun e w' => e = .returned (.int .i64 (cmpB p q)) ∧ Below W.heap.size W w' := by
  obtain ⟨sp, cap, rfl, -⟩ := hk.parts
  have hg := World.grownBy_alloc W (.cells #[.slice sp p.length cap, vv] 112) none
  have hC := bcompare_any (hk.kept hg) (hu.kept hg) hp hq
  go_enter Try.func72, Try.ntmps72
  go_wp2_with (go_at_call 73; refine hC.mono ?_; rintro e w1 ⟨rfl, rfl⟩)
  go_ret
  exact ⟨rfl, ba (Below.refl _ _) _⟩

/-- A key's place: all ahead are less, none behind is; and whether it is there. -/
structure FindS (r : List Rec) (key : List Int) (i : Nat) (f : Bool) : Prop where
  le : i ≤ r.length
  lo : ∀ k x, k < i → r[k]? = some x → cmpB x.k key < 0
  hi : ∀ k x, i ≤ k → r[k]? = some x → 0 ≤ cmpB x.k key
  is : f = true ↔ ∃ x, r[i]? = some x ∧ x.k = key
theorem srt_at {r : List Rec} (h : Srt r) {i k : Nat} {x y : Rec} (hi : r[i]? = some x) (hk : r[k]? = some y) (hik : i < k) : cmpB x.k y.k < 0 := by
  obtain ⟨h1, rfl⟩ := List.getElem?_eq_some_iff.1 hi
  obtain ⟨h2, rfl⟩ := List.getElem?_eq_some_iff.1 hk
  exact List.pairwise_iff_getElem.1 h i k h1 h2 hik
set_option maxRecDepth 10000 in
set_option maxHeartbeats 4000000 in
theorem search_any {W : World} {base : Nat} {A : Nat → Prop} {vp u : Value} {r : List Rec} {key : List Int} (hr : W.ownsRow base 112 2 vp r.length (cellsR r)) (hrec : ∀ x ∈ r, RecAt W A x) (hs : Srt r) (hn : r.length ≤ 1048576) (hu : Src W u key) (hk : Byte key) :
    Calls Try.prog 71 #[vp, u, .func (.func 72) #[] #[]] W fun e w' => ∃ (i : Nat) (f : Bool), e = .returned (.tuple #[.int .i64 (i : Int), .bool f]) ∧ FindS r key i f ∧ Below W.heap.size W w' := by
  obtain ⟨av, cv, rfl⟩ := row_slice hr
  obtain ⟨sp, ucap, rfl, -⟩ := hu.parts
  have hn' : (r.length : Int) ≤ 1048576 := by omega
  go_enter Try.func71, Try.ntmps71
  go_wp2
  go_loopw [9, 10] (fun iv jv X => ∃ (i j : Nat), i ≤ j ∧ j ≤ r.length ∧ iv = .int .i64 (i : Int) ∧ jv = .int .i64 (j : Int) ∧ Hid (∀ k x, k < i → r[k]? = some x → cmpB x.k key < 0) ∧ Hid (∀ k x, j ≤ k → r[k]? = some x → 0 ≤ cmpB x.k key) ∧ Below W.heap.size W X) (fun iv jv _ => (intOf jv).toNat - (intOf iv).toNat)
  case atStart => exact ⟨0, r.length, by omega, by omega, rfl, rfl, fun k x hk => by omega, fun k x hk hx => by have := (List.getElem?_eq_some_iff.1 hx).1; omega, Below.refl _ _⟩
  case round =>
    obtain ⟨i, j, hij, hj, rfl, rfl, hlo, hhi, hB⟩ := hrel
    by_cases hlt : i < j
    · obtain ⟨m, hm⟩ : ∃ m : Nat, (m : Int) = ((i : Int) + (j : Int)) / 2 := ⟨(i + j) / 2, by omega⟩
      have hml : m < r.length := by omega
      obtain ⟨g, cap, ev, hg, -, c0, c1, -⟩ := pair_at hr (List.getElem?_eq_getElem hml)
      simp at ev
      obtain ⟨rfl, rfl⟩ := ev
      have d0 := (hB.cell (p := ⟨g, m * 2, none⟩) hg).trans c0
      have d1 := (hB.cell (p := ⟨g, m * 2 + 1, none⟩) hg).trans c1
      have hrx := hrec r[m] (List.getElem_mem hml)
      have hC := find1_any (W := wr) (vv := r[m].vv) (hrx.1.src.kept (grown_none hB)) (hu.kept (grown_none hB)) hrx.1.2.1 hk
      clear hrx
      have hlim := cmp_lim r[m].k key
      have hget : r[m]? = some r[m] := List.getElem?_eq_getElem hml
      have hLo : Hid (cmpB r[m].k key < 0 → ∀ k x, k < m + 1 → r[k]? = some x → cmpB x.k key < 0) := by
        intro h0 k x hk hx
        by_cases e : k = m
        · subst e; rw [hget] at hx; simp at hx; subst hx; exact h0
        · exact cmp_trans _ _ _ (srt_at hs hx hget (by omega)) h0
      have hHi : Hid (0 ≤ cmpB r[m].k key → ∀ k x, m ≤ k → r[k]? = some x → 0 ≤ cmpB x.k key) := by
        intro h0 k x hk hx
        by_cases e : k = m
        · subst e; rw [hget] at hx; simp at hx; subst hx; exact h0
        · have h1 := srt_at hs hget hx (by omega)
          rcases Int.lt_or_le (cmpB x.k key) 0 with h2 | h2
          · have := cmp_trans _ _ _ h1 h2; omega
          · exact h2
      clear hget
      generalize hcc : cmpB r[m].k key = c at *
      generalize r[m].kv = kv at *
      generalize r[m].vv = vv at *
      have hlt' : (i : Int) < (j : Int) := by omega
      have hm' : ((i : Int) + (j : Int)) / 2 = (m : Int) := hm.symm
      have hmi : i ≤ m ∧ m < j := by omega
      clear hm
      have hml' : (m : Int) < (r.length : Int) := by omega
      have hjj : (j : Int) ≤ 1048576 := by omega
      by_cases hc : c < 0
      · go_wp2_with (go_at_call 72; refine hC.mono ?_; rintro e w1 ⟨rfl, hb1⟩)
        all_goals go_roundw
        case rel => exact ⟨m + 1, j, by omega, hj, by go_num, rfl, hLo.out hc, hhi, bt hB hb1⟩
        case measure => (simp [intOf]; omega)
      · go_wp2_with (go_at_call 72; refine hC.mono ?_; rintro e w1 ⟨rfl, hb1⟩)
        all_goals go_roundw
        case rel => exact ⟨i, m, by omega, by omega, rfl, rfl, hlo, hHi.out (by omega), bt hB hb1⟩
        case measure => (simp [intOf]; omega)
    · obtain rfl : i = j := by omega
      by_cases hin : i < r.length
      · obtain ⟨g, cap, ev, hg, -, c0, c1, -⟩ := pair_at hr (List.getElem?_eq_getElem hin)
        simp at ev
        obtain ⟨rfl, rfl⟩ := ev
        have d0 := (hB.cell (p := ⟨g, i * 2, none⟩) hg).trans c0
        have d1 := (hB.cell (p := ⟨g, i * 2 + 1, none⟩) hg).trans c1
        have hx := hrec r[i] (List.getElem_mem hin)
        have hC := find1_any (W := wr) (vv := r[i].vv) (hx.1.src.kept (grown_none hB)) (hu.kept (grown_none hB)) hx.1.2.1 hk
        have hget : r[i]? = some r[i] := List.getElem?_eq_getElem hin
        have hfin : Hid (FindS r key i (cmpB r[i].k key == 0)) := by
          refine ⟨hj, hlo, hhi, ?_⟩
          rw [beq_iff_eq]
          constructor
          · intro h; exact ⟨r[i], hget, cmp_eq0 _ _ h⟩
          · rintro ⟨x, hx, hxk⟩
            rw [hget] at hx; simp at hx; subst hx
            rw [hxk]; exact cmp_self _
        clear hget
        generalize hcc : cmpB r[i].k key = c at *
        generalize r[i].kv = kv at *
        generalize r[i].vv = vv at *
        have hin' : (i : Int) < (r.length : Int) := by omega
        go_wp2_with (go_at_call 72; refine hC.mono ?_; rintro e w1 ⟨rfl, hb1⟩)
        go_ret2
        exact ⟨i, _, rfl, hfin.out, bt hB hb1⟩
      · obtain rfl : i = r.length := by omega
        go_wp2
        go_ret2
        refine ⟨r.length, false, rfl, ⟨by omega, hlo, hhi, ?_⟩, hB⟩
        simp
end Go.Proofs.Ytafcianpajheiaa
