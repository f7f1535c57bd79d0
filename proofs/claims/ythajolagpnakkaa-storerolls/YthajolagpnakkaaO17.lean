
/- The reference's store: what holds of it; Set, Begin, End over that. -/
import Derived.Test.YthajolagpnakkaaO16
set_option linter.unusedSimpArgs false
set_option linter.unusedVariables false
namespace Go.Proofs.Ythajolagpnakkaa
open Go.RowKit

theorem row_mono {W : World} {base base' : Nat} {e : TypeId} {size n : Nat} {v : Value} {xs : List Value} (h : W.ownsRow base e size v n xs) (hb : base' ≤ base) : W.ownsRow base' e size v n xs := by
  refine ⟨h.1, ?_⟩
  rcases h.2 with h2 | ⟨g, cap, cur, rfl, h1, h2⟩
  · exact .inl h2
  · exact .inr ⟨g, cap, cur, rfl, Nat.le_trans hb h1, h2⟩
theorem isb_keep {W W' : World} {v : Value} {p : List Int} (h : IsBytes W v p) (k : ∀ g, v.ownBlock = some g → W'.heap[g]? = W.heap[g]?) (hs : W.heap.size ≤ W'.heap.size) : IsBytes W' v p := by
  rcases h with h | ⟨blk, off, cap, rfl, hlen, hlt, hall⟩
  · exact .inl h
  · exact .inr ⟨blk, off, cap, rfl, hlen, Nat.lt_of_lt_of_le hlt hs, fun i x hi => (World.cell?_of_block (w := W) (a := ⟨blk, off + i, none⟩) (k blk rfl)).trans (hall i x hi)⟩
def InB (B : Nat → Prop) (v : Value) : Prop := ∀ g, v.ownBlock = some g → B g
theorem PB.keep {W W' : World} {x : Rec} {C : Nat → Prop} (h : PB W x) (hk : InB C x.kv) (hv : InB C x.vv) (e : ∀ k, C k → W'.heap[k]? = W.heap[k]?) (hs : W.heap.size ≤ W'.heap.size) : PB W' x :=
  ⟨isb_keep h.k (fun g hg => e g (hk g hg)) hs, isb_keep h.v (fun g hg => e g (hv g hg)) hs, h.kb, h.vb, h.kl, h.vl, h.kc⟩
/-- A list of the reference's pairs: C holds all that it reaches. -/
structure RL (W : World) (base : Nat) (C : Nat → Prop) (v : Value) (l : List Rec) : Prop where
  row : W.ownsRow base 60 2 v l.length (cellsR l)
  inb : InB C v
  all : ∀ y ∈ l, PB W y ∧ InB C y.kv ∧ InB C y.vv
theorem RL.kept {W W' : World} {base : Nat} {C : Nat → Prop} {v : Value} {l : List Rec} (h : RL W base C v l) (e : ∀ k, C k → W'.heap[k]? = W.heap[k]?) (hs : W.heap.size ≤ W'.heap.size) : RL W' base C v l :=
  ⟨row_keep h.row (fun g hg => e g (h.inb g hg)), h.inb, fun y hy => ⟨(h.all y hy).1.keep (h.all y hy).2.1 (h.all y hy).2.2 e hs, (h.all y hy).2⟩⟩
theorem RL.mono {W : World} {base : Nat} {C C' : Nat → Prop} {v : Value} {l : List Rec} (h : RL W base C v l) (e : ∀ k, C k → C' k) : RL W base C' v l :=
  ⟨h.row, fun g hg => e g (h.inb g hg), fun y hy => ⟨(h.all y hy).1, fun g hg => e g ((h.all y hy).2.1 g hg), fun g hg => e g ((h.all y hy).2.2 g hg)⟩⟩
/-- The reference's store in a world: B holds all that is its own, C what is never written again. -/
structure RS (W : World) (m base : Nat) (B C : Nat → Prop) (vl vw : Value) (ws : List Value) (l : List Rec) (was : List (List Rec)) : Prop where
  blk : W.heap[m]? = some (.cells #[vl, vw] 31 (0, 0))
  cur : RL W base C vl l
  row : W.ownsRow base 28 1 vw was.length ws
  rows : ∀ (i : Nat) v x, ws[i]? = some v → was[i]? = some x → RL W base C v x
  foot : ∀ k, B k → base ≤ k ∧ k < W.heap.size
  sub : ∀ k, C k → B k
  bm : B m
  cm : ¬ C m
  bw : InB B vw
  cw : ∀ g, vw.ownBlock = some g → ¬ C g
  le : base ≤ W.heap.size
section
variable {W : World} {m base : Nat} {B C : Nat → Prop} {vl vw : Value} {ws : List Value} {l : List Rec} {was : List (List Rec)}
theorem RS.kept {W' : World} (h : RS W m base B C vl vw ws l was) (e : ∀ k, B k → W'.heap[k]? = W.heap[k]?) (hs : W.heap.size ≤ W'.heap.size) : RS W' m base B C vl vw ws l was where
  blk := (e m h.bm).trans h.blk
  cur := h.cur.kept (fun k hk => e k (h.sub k hk)) hs
  row := row_keep h.row (fun g hg => e g (h.bw g hg))
  rows := fun i v x a b => (h.rows i v x a b).kept (fun k hk => e k (h.sub k hk)) hs
  foot := fun k hk => ⟨(h.foot k hk).1, Nat.lt_of_lt_of_le (h.foot k hk).2 hs⟩
  sub := h.sub
  bm := h.bm
  cm := h.cm
  bw := h.bw
  cw := h.cw
  le := Nat.le_trans h.le hs
theorem RS.below {W' : World} (h : RS W m base B C vl vw ws l was) (hb : Below W.heap.size W W') : RS W' m base B C vl vw ws l was :=
  h.kept (fun k hk => hb.block k (h.foot k hk).2) hb.size
/-- More is its own: D, which nobody writes. -/
theorem RS.ext (h : RS W m base B C vl vw ws l was) (D : Nat → Prop) (hD : ∀ k, D k → ¬ B k ∧ base ≤ k ∧ k < W.heap.size) : RS W m base (fun k => B k ∨ D k) (fun k => C k ∨ D k) vl vw ws l was where
  blk := h.blk
  cur := h.cur.mono (fun k hk => .inl hk)
  row := h.row
  rows := fun i v x a b => (h.rows i v x a b).mono (fun k hk => .inl hk)
  foot := fun k hk => hk.elim (h.foot k) (fun d => (hD k d).2)
  sub := fun k hk => hk.elim (fun c => .inl (h.sub k c)) .inr
  bm := .inl h.bm
  cm := fun hk => hk.elim h.cm (fun d => (hD m d).1 h.bm)
  bw := fun g hg => .inl (h.bw g hg)
  cw := fun g hg hk => hk.elim (h.cw g hg) (fun d => (hD g d).1 (h.bw g hg))
  le := h.le
theorem refGo_mem (x : Rec) (is : Bool) : ∀ (l : List Rec) (d : Bool) (y : Rec), y ∈ refGo x is l d → y = x ∨ y ∈ l
  | [], d, y, h => by
    cases d <;> simp [refGo] at h
    exact .inl h
  | z :: l, d, y, h => by
    simp only [refGo, List.mem_append] at h
    rcases h with h | h
    · split at h
      · exact .inl (by simpa using h)
      · simp at h
    · split at h
      · split at h
        · rcases List.mem_cons.1 h with h | h
          · exact .inl h
          · exact (refGo_mem x is l _ y h).imp id (List.mem_cons_of_mem _)
        · exact (refGo_mem x is l _ y h).imp id (List.mem_cons_of_mem _)
      · rcases List.mem_cons.1 h with h | h
        · exact .inr (h ▸ List.mem_cons_self)
        · exact (refGo_mem x is l _ y h).imp id (List.mem_cons_of_mem _)
theorem refS_any {x : Rec} (is : Bool) (h : RS W m base B C vl vw ws l was) (hx : PB W x) (hxk : InB C x.kv) (hxv : InB C x.vv) (hn : l.length ≤ 10000) :
    Calls Try.prog 34 #[.pointer (some ⟨m, 0, none⟩), x.kv, x.vv, .bool is] W fun e w' => e = .returned (.tuple #[]) ∧ ∃ B' C' vl', RS w' m base B' C' vl' vw ws (refGo x is l (!is)) was ∧ Fr W w' B B' := by
  refine (refSet_any is h.blk h.cur.row (fun y hy => (h.cur.all y hy).1) hx hn).mono ?_
  rintro e w' ⟨rfl, vl', hb, hr, hg⟩
  have hC : ∀ k, C k → w'.heap[k]? = W.heap[k]? := fun k hk => hg.block k (h.foot k (h.sub k hk)).2 (fun e => h.cm ((Option.some.inj e) ▸ hk))
  refine ⟨rfl, fun k => B k ∨ (W.heap.size ≤ k ∧ k < w'.heap.size), fun k => C k ∨ (W.heap.size ≤ k ∧ k < w'.heap.size), vl', ?_, ?_⟩
  · exact {
      blk := hb
      cur := ⟨row_mono hr h.le, fun g hgg => .inr (hr.lt g hgg), fun y hy => by
        have hy' : PB W y ∧ InB C y.kv ∧ InB C y.vv := by
          rcases refGo_mem x is l _ y hy with rfl | hm
          · exact ⟨hx, hxk, hxv⟩
          · exact h.cur.all y hm
        exact ⟨hy'.1.keep hy'.2.1 hy'.2.2 hC hg.size, fun g hgg => .inl (hy'.2.1 g hgg), fun g hgg => .inl (hy'.2.2 g hgg)⟩⟩
      row := row_keep h.row (fun g hgg => hg.block g (h.foot g (h.bw g hgg)).2 (fun e => not_row h.blk (by decide) h.row (by rw [hgg, Option.some.inj e])))
      rows := fun i v y a b => ((h.rows i v y a b).kept hC hg.size).mono (fun k hk => .inl hk)
      foot := fun k hk => hk.elim (fun hk => ⟨(h.foot k hk).1, Nat.lt_of_lt_of_le (h.foot k hk).2 hg.size⟩) (fun hk => ⟨Nat.le_trans h.le hk.1, hk.2⟩)
      sub := fun k hk => hk.elim (fun c => .inl (h.sub k c)) .inr
      bm := .inl h.bm
      cm := fun hk => hk.elim h.cm (fun d => by have := (h.foot m h.bm).2; omega)
      bw := fun g hgg => .inl (h.bw g hgg)
      cw := fun g hgg hk => hk.elim (h.cw g hgg) (fun d => by have := (h.foot g (h.bw g hgg)).2; omega)
      le := Nat.le_trans h.le hg.size }
  · exact ⟨hg.os, hg.tape, hg.output, hg.size, fun k hk hB => hg.block k hk (fun e => hB ((Option.some.inj e) ▸ h.bm)), fun k hk => hk.imp id (·.1), fun k hk => .inl hk⟩
/-- Another row of lists is stored. -/
theorem RS.was_to {W1 : World} {vw' : Value} {ws' : List Value} {was' : List (List Rec)} (h : RS W m base B C vl vw ws l was) (hrow : W1.ownsRow base 28 1 vw' was'.length ws') (hg : W.grownBy W1 vw.ownBlock) (hown : vw'.ownBlock = vw.ownBlock ∨ ∃ g, vw'.ownBlock = some g ∧ W.heap.size ≤ g) (hrows : ∀ (i : Nat) v x, ws'[i]? = some v → was'[i]? = some x → RL W base C v x) :
    RS (W1.setCell ⟨m, 1, none⟩ vw') m base (fun k => B k ∨ vw'.ownBlock = some k) C vl vw' ws' l was' ∧ Fr W (W1.setCell ⟨m, 1, none⟩ vw') B (fun k => B k ∨ vw'.ownBlock = some k) := by
  have hg2 : W1.grownBy (W1.setCell ⟨m, 1, none⟩ vw') (some m) := grown_se (grown_ref _ _) _ _
  have hm1 := (hg.block m (h.foot m h.bm).2 (not_row h.blk (by decide) h.row)).trans h.blk
  have hB : ∀ k, k < W.heap.size → k ≠ m → some k ≠ vw.ownBlock → (W1.setCell ⟨m, 1, none⟩ vw').heap[k]? = W.heap[k]? := fun k hk hne hnw => (hg2.block k (Nat.lt_of_lt_of_le hk hg.size) (fun e => hne (Option.some.inj e))).trans (hg.block k hk hnw)
  have hC : ∀ k, C k → (W1.setCell ⟨m, 1, none⟩ vw').heap[k]? = W.heap[k]? := fun k hk => hB k (h.foot k (h.sub k hk)).2 (fun e => h.cm (e ▸ hk)) (fun e => h.cw k e.symm hk)
  have hsz := Nat.le_trans hg.size hg2.size
  refine ⟨?_, ⟨hg2.os.trans hg.os, hg2.tape.trans hg.tape, hg2.output.trans hg.output, hsz, fun k hk hBk => hB k hk (fun e => hBk (e ▸ h.bm)) (fun e => hBk (h.bw k e.symm)), fun k hk => ?_, fun k hk => .inl hk⟩⟩
  · exact {
      blk := by rw [block_set _ hm1]; rfl
      cur := h.cur.kept hC hsz
      row := row_set_other hrow hm1 (by decide)
      rows := fun i v x a b => (hrows i v x a b).kept hC hsz
      foot := fun k hk => hk.elim (fun hk => ⟨(h.foot k hk).1, Nat.lt_of_lt_of_le (h.foot k hk).2 hsz⟩) (fun hk => ⟨(hrow.lt k hk).1, Nat.lt_of_lt_of_le (hrow.lt k hk).2 hg2.size⟩)
      sub := fun k hk => .inl (h.sub k hk)
      bm := .inl h.bm
      cm := h.cm
      bw := fun g hgg => .inr hgg
      cw := fun g hgg hk => by
        rcases hown with e | ⟨g', e, hge⟩
        · exact h.cw g (e ▸ hgg) hk
        · have := (h.foot g (h.sub g hk)).2
          rw [e] at hgg
          have := Option.some.inj hgg
          omega
      le := Nat.le_trans h.le hsz }
  · rcases hk with hk | hk
    · exact .inl hk
    · rcases hown with e | ⟨g', e, hge⟩
      · exact .inl (h.bw k (e ▸ hk))
      · rw [e] at hk
        exact .inr (Option.some.inj hk ▸ hge)
/-- Another list is what there is. -/
theorem RS.cur_to {v : Value} {x : List Rec} (h : RS W m base B C vl vw ws l was) (hx : RL W base C v x) : RS (W.setCell ⟨m, 0, none⟩ v) m base B C v vw ws x was ∧ Fr W (W.setCell ⟨m, 0, none⟩ v) B B := by
  have hg2 : W.grownBy (W.setCell ⟨m, 0, none⟩ v) (some m) := grown_se (grown_ref _ _) _ _
  have hC : ∀ k, C k → (W.setCell ⟨m, 0, none⟩ v).heap[k]? = W.heap[k]? := fun k hk => hg2.block k (h.foot k (h.sub k hk)).2 (fun e => h.cm ((Option.some.inj e) ▸ hk))
  refine ⟨?_, ⟨hg2.os, hg2.tape, hg2.output, hg2.size, fun k hk hBk => hg2.block k hk (fun e => hBk ((Option.some.inj e) ▸ h.bm)), fun k hk => .inl hk, fun k hk => hk⟩⟩
  exact {
    blk := by rw [block_set _ h.blk]; rfl
    cur := hx.kept hC hg2.size
    row := row_set_other h.row h.blk (by decide)
    rows := fun i u y a b => (h.rows i u y a b).kept hC hg2.size
    foot := fun k hk => ⟨(h.foot k hk).1, Nat.lt_of_lt_of_le (h.foot k hk).2 hg2.size⟩
    sub := h.sub
    bm := h.bm
    cm := h.cm
    bw := h.bw
    cw := h.cw
    le := Nat.le_trans h.le hg2.size }
end
end Go.Proofs.Ythajolagpnakkaa
