
/- store: what a turned row leaves; where a key is; how many there are. -/
import Derived.Test.YtafcianpajheiaaO4
set_option linter.unusedSimpArgs false
set_option linter.unusedVariables false
set_option maxRecDepth 20000
namespace Go.Proofs.Ytafcianpajheiaa
open Go.RowKit

/-- Nothing that was there has turned but what is the store's; what is the store's was it, or is new. -/
structure Fr (W W' : World) (A A' : Nat → Prop) : Prop where
  os : W'.os = W.os
  tape : W'.tape = W.tape
  output : W'.output = W.output
  size : W.heap.size ≤ W'.heap.size
  block : ∀ k, k < W.heap.size → ¬ A k → W'.heap[k]? = W.heap[k]?
  sub : ∀ k, A' k → A k ∨ W.heap.size ≤ k
  sup : ∀ k, A k → A' k
theorem Fr.trans {U V W : World} {A B C : Nat → Prop} (h : Fr U V A B) (k : Fr V W B C) : Fr U W A C := by
  refine ⟨k.os.trans h.os, k.tape.trans h.tape, k.output.trans h.output, Nat.le_trans h.size k.size, fun n hn hA => (k.block n (Nat.lt_of_lt_of_le hn h.size) (fun hB => ?_)).trans (h.block n hn hA), fun n hC => ?_, fun n hA => k.sup n (h.sup n hA)⟩
  · rcases h.sub n hB with h1 | h1
    · exact hA h1
    · omega
  · rcases k.sub n hC with h1 | h1
    · exact h.sub n h1
    · exact .inr (Nat.le_trans h.size h1)
theorem Fr.below {W W' : World} {A : Nat → Prop} (h : Below W.heap.size W W') : Fr W W' A A := ⟨h.os, h.tape, h.output, h.size, fun k hk _ => h.block k hk, fun _ h => .inl h, fun _ h => h⟩
/-- More is the store's. -/
theorem Fr.more {W : World} {A B : Nat → Prop} (h : ∀ k, A k → B k) (hb : ∀ k, B k → A k ∨ W.heap.size ≤ k) : Fr W W A B := ⟨rfl, rfl, rfl, Nat.le_refl _, fun _ _ _ => rfl, hb, h⟩
theorem Fr.out {w W W' : World} {A B : Nat → Prop} (h : Below w.heap.size w W) (k : Fr W W' A B) (hA : ∀ n, A n → w.heap.size ≤ n) : Below w.heap.size w W' :=
  ⟨k.os.trans h.os, k.tape.trans h.tape, k.output.trans h.output, Nat.le_trans h.size k.size, fun n hn => (k.block n (Nat.lt_of_lt_of_le hn h.size) (fun e => by have := hA n e; omega)).trans (h.block n hn)⟩
theorem StC.ext {W : World} {s base : Nat} {A B : Nat → Prop} {vp vj vb : Value} {r : List Rec} {j : List Was} {b : List Nat} (h : StC W s base A vp vj vb r j b) (hAB : ∀ k, A k → B k) (hB : ∀ k, B k → base ≤ k ∧ k < W.heap.size) : StC W s base B vp vj vb r j b where
  blk := h.blk
  pairs := h.pairs
  jour := h.jour
  begun := h.begun
  recs := fun x hx => ⟨(h.recs x hx).1.mono hAB, (h.recs x hx).2.mono hAB⟩
  was := fun x hx => ⟨(h.was x hx).1.mono hAB, fun t => ((h.was x hx).2.1 t).mono hAB, (h.was x hx).2.2⟩
  foot := hB
  a0 := hAB _ h.a0
  ap := fun g hg => hAB _ (h.ap g hg)
  aj := fun g hg => hAB _ (h.aj g hg)
  ab := fun g hg => hAB _ (h.ab g hg)
  le := h.le

/-- Bytes are where no row of another kind turns. -/
theorem InA.grow {W W' : World} {A : Nat → Prop} {v u : Value} {q : List Int} {base : Nat} {e : TypeId} {size n : Nat} {xs : List Value} (h : InA W A v q) (hr : W.ownsRow base e size u n xs) (he : 5 ≠ e) (hg : W.grownBy W' u.ownBlock) : InA W' A v q := by
  obtain ⟨⟨g, h1, h2⟩, h3⟩ := h
  exact ⟨⟨g, h1, h2.kept (hg.block g h2.lt (not_row h2.2 he hr))⟩, h3⟩
theorem InA.set {W : World} {A : Nat → Prop} {v u : Value} {q : List Int} {s o : Nat} {c : Array Value} (h : InA W A v q) (hs : W.heap[s]? = some (.cells c 72 (0, 0))) : InA (W.setCell ⟨s, o, none⟩ u) A v q := by
  obtain ⟨⟨g, h1, h2⟩, h3⟩ := h
  refine ⟨⟨g, h1, h2.kept (Below.heap_setCell W ⟨s, o, none⟩ u g (fun e => ?_))⟩, h3⟩
  have h4 := h2.2
  rw [e, hs] at h4
  simp at h4
theorem RecAt.grow {W W' : World} {A : Nat → Prop} {x : Rec} {u : Value} {base : Nat} {e : TypeId} {size n : Nat} {xs : List Value} (h : RecAt W A x) (hr : W.ownsRow base e size u n xs) (he : 5 ≠ e) (hg : W.grownBy W' u.ownBlock) : RecAt W' A x := ⟨h.1.grow hr he hg, h.2.grow hr he hg⟩
theorem WasAt.grow {W W' : World} {A : Nat → Prop} {x : Was} {u : Value} {base : Nat} {e : TypeId} {size n : Nat} {xs : List Value} (h : WasAt W A x) (hr : W.ownsRow base e size u n xs) (he : 5 ≠ e) (hg : W.grownBy W' u.ownBlock) : WasAt W' A x := ⟨h.1.grow hr he hg, fun t => (h.2.1 t).grow hr he hg, h.2.2⟩
theorem RecAt.set {W : World} {A : Nat → Prop} {x : Rec} {u : Value} {s o : Nat} {c : Array Value} (h : RecAt W A x) (hs : W.heap[s]? = some (.cells c 72 (0, 0))) : RecAt (W.setCell ⟨s, o, none⟩ u) A x := ⟨h.1.set hs, h.2.set hs⟩
theorem WasAt.set {W : World} {A : Nat → Prop} {x : Was} {u : Value} {s o : Nat} {c : Array Value} (h : WasAt W A x) (hs : W.heap[s]? = some (.cells c 72 (0, 0))) : WasAt (W.setCell ⟨s, o, none⟩ u) A x := ⟨h.1.set hs, fun t => (h.2.1 t).set hs, h.2.2⟩
theorem row_set_other {W : World} {base : Nat} {e : TypeId} {size n s o : Nat} {v u : Value} {xs : List Value} {c : Array Value} {t : TypeId} (h : W.ownsRow base e size v n xs) (hs : W.heap[s]? = some (.cells c t (0, 0))) (ht : t ≠ e) : (W.setCell ⟨s, o, none⟩ u).ownsRow base e size v n xs :=
  h.kept (grown_se (grown_ref W (some s)) o u) (.inr (fun e => not_row hs ht h e.symm))
/-- The pairs' row was turned, and is laid into the store anew. -/
theorem StC.pairs_to {W W1 : World} {s base : Nat} {A : Nat → Prop} {vp vj vb vp' : Value} {r r' : List Rec} {j : List Was} {b : List Nat} (h : StC W s base A vp vj vb r j b) (hT : RowTo W W1 base vp vp' r') (hrec : ∀ x ∈ r', RecAt W A x) :
    StC (W1.setCell ⟨s, 0, none⟩ vp') s base (fun k => A k ∨ vp'.ownBlock = some k) vp' vj vb r' j b ∧ Fr W (W1.setCell ⟨s, 0, none⟩ vp') A (fun k => A k ∨ vp'.ownBlock = some k) := by
  have hg := hT.grown
  have hsz : (W1.setCell ⟨s, 0, none⟩ vp').heap.size = W1.heap.size := by simp [World.setCell]
  have hb1 := (hg.block s (Array.getElem?_eq_some_iff.1 h.blk).1 (not_row h.blk (by decide) h.pairs)).trans h.blk
  have mono : ∀ k, A k → A k ∨ vp'.ownBlock = some k := fun k hk => .inl hk
  have hb2 : (W1.setCell ⟨s, 0, none⟩ vp').heap[s]? = some (.cells #[vp', vj, vb] 72 (0, 0)) := by rw [block_set _ hb1]; rfl
  refine ⟨⟨hb2, row_set_other hT.row hb1 (by decide), row_set_other (h.jour.kept hg (rows_apart h.jour h.pairs (by decide))) hb1 (by decide), row_set_other (h.begun.kept hg (rows_apart h.begun h.pairs (by decide))) hb1 (by decide), fun x hx => ?_, fun x hx => ?_, ?_, mono _ h.a0, fun g hg => .inr hg, fun g hg => mono _ (h.aj g hg), fun g hg => mono _ (h.ab g hg), by rw [hsz]; exact Nat.le_trans h.le hg.size⟩, ?_⟩
  · have := ((hrec x hx).grow h.pairs (by decide) hg).set (u := vp') (o := 0) hb1
    exact ⟨this.1.mono mono, this.2.mono mono⟩
  · have := ((h.was x hx).grow h.pairs (by decide) hg).set (u := vp') (o := 0) hb1
    exact ⟨this.1.mono mono, fun t => (this.2.1 t).mono mono, this.2.2⟩
  · intro k hk
    rw [hsz]
    rcases hk with hk | hk
    · exact ⟨(h.foot k hk).1, Nat.lt_of_lt_of_le (h.foot k hk).2 hg.size⟩
    · exact hT.row.lt k hk
  · refine ⟨hg.os, hg.tape, hg.output, by rw [hsz]; exact hg.size, fun k hk hA => ?_, fun k hk => ?_, mono⟩
    · rw [Below.heap_setCell W1 ⟨s, 0, none⟩ vp' k (fun e => hA (by rw [e]; exact h.a0))]
      exact hg.block k hk (fun e => hA (h.ap k e.symm))
    · rcases hk with hk | hk
      · exact .inl hk
      · rcases hT.own with e | ⟨g, e, hge⟩
        · exact .inl (h.ap k (by rw [← e]; exact hk))
        · rw [e] at hk; simp at hk; exact .inr (by omega)
/-- The same of the journal's. -/
theorem StC.jour_to {W W1 : World} {s base : Nat} {A : Nat → Prop} {vp vj vb vj' : Value} {r : List Rec} {j j' : List Was} {b : List Nat} (h : StC W s base A vp vj vb r j b) (hrow : W1.ownsRow base 129 3 vj' j'.length (cellsJ j')) (hg : W.grownBy W1 vj.ownBlock) (hown : vj'.ownBlock = none ∨ vj'.ownBlock = vj.ownBlock ∨ ∃ g, vj'.ownBlock = some g ∧ W.heap.size ≤ g) (hrec : ∀ x ∈ j', WasAt W A x) :
    StC (W1.setCell ⟨s, 1, none⟩ vj') s base (fun k => A k ∨ vj'.ownBlock = some k) vp vj' vb r j' b ∧ Fr W (W1.setCell ⟨s, 1, none⟩ vj') A (fun k => A k ∨ vj'.ownBlock = some k) := by
  have hsz : (W1.setCell ⟨s, 1, none⟩ vj').heap.size = W1.heap.size := by simp [World.setCell]
  have hb1 := (hg.block s (Array.getElem?_eq_some_iff.1 h.blk).1 (not_row h.blk (by decide) h.jour)).trans h.blk
  have mono : ∀ k, A k → A k ∨ vj'.ownBlock = some k := fun k hk => .inl hk
  have hb2 : (W1.setCell ⟨s, 1, none⟩ vj').heap[s]? = some (.cells #[vp, vj', vb] 72 (0, 0)) := by rw [block_set _ hb1]; rfl
  refine ⟨⟨hb2, row_set_other (h.pairs.kept hg (rows_apart h.pairs h.jour (by decide))) hb1 (by decide), row_set_other hrow hb1 (by decide), row_set_other (h.begun.kept hg (rows_apart h.begun h.jour (by decide))) hb1 (by decide), fun x hx => ?_, fun x hx => ?_, ?_, mono _ h.a0, fun g hg => mono _ (h.ap g hg), fun g hg => .inr hg, fun g hg => mono _ (h.ab g hg), by rw [hsz]; exact Nat.le_trans h.le hg.size⟩, ?_⟩
  · have := ((h.recs x hx).grow h.jour (by decide) hg).set (u := vj') (o := 1) hb1
    exact ⟨this.1.mono mono, this.2.mono mono⟩
  · have := ((hrec x hx).grow h.jour (by decide) hg).set (u := vj') (o := 1) hb1
    exact ⟨this.1.mono mono, fun t => (this.2.1 t).mono mono, this.2.2⟩
  · intro k hk
    rw [hsz]
    rcases hk with hk | hk
    · exact ⟨(h.foot k hk).1, Nat.lt_of_lt_of_le (h.foot k hk).2 hg.size⟩
    · exact hrow.lt k hk
  · refine ⟨hg.os, hg.tape, hg.output, by rw [hsz]; exact hg.size, fun k hk hA => ?_, fun k hk => ?_, mono⟩
    · rw [Below.heap_setCell W1 ⟨s, 1, none⟩ vj' k (fun e => hA (by rw [e]; exact h.a0))]
      exact hg.block k hk (fun e => hA (h.aj k e.symm))
    · rcases hk with hk | hk
      · exact .inl hk
      · rcases hown with e | e | ⟨g, e, hge⟩
        · rw [e] at hk; simp at hk
        · exact .inl (h.aj k (by rw [← e]; exact hk))
        · rw [e] at hk; simp at hk; exact .inr (by omega)
/-- The same of where the parts began. -/
theorem StC.begun_to {W W1 : World} {s base : Nat} {A : Nat → Prop} {vp vj vb vb' : Value} {r : List Rec} {j : List Was} {b b' : List Nat} (h : StC W s base A vp vj vb r j b) (hrow : W1.ownsRow base 3 1 vb' b'.length (cellsI b')) (hg : W.grownBy W1 vb.ownBlock) (hown : vb'.ownBlock = vb.ownBlock ∨ ∃ g, vb'.ownBlock = some g ∧ W.heap.size ≤ g) :
    StC (W1.setCell ⟨s, 2, none⟩ vb') s base (fun k => A k ∨ vb'.ownBlock = some k) vp vj vb' r j b' ∧ Fr W (W1.setCell ⟨s, 2, none⟩ vb') A (fun k => A k ∨ vb'.ownBlock = some k) := by
  have hsz : (W1.setCell ⟨s, 2, none⟩ vb').heap.size = W1.heap.size := by simp [World.setCell]
  have hb1 := (hg.block s (Array.getElem?_eq_some_iff.1 h.blk).1 (not_row h.blk (by decide) h.begun)).trans h.blk
  have mono : ∀ k, A k → A k ∨ vb'.ownBlock = some k := fun k hk => .inl hk
  have hb2 : (W1.setCell ⟨s, 2, none⟩ vb').heap[s]? = some (.cells #[vp, vj, vb'] 72 (0, 0)) := by rw [block_set _ hb1]; rfl
  refine ⟨⟨hb2, row_set_other (h.pairs.kept hg (rows_apart h.pairs h.begun (by decide))) hb1 (by decide), row_set_other (h.jour.kept hg (rows_apart h.jour h.begun (by decide))) hb1 (by decide), row_set_other hrow hb1 (by decide), fun x hx => ?_, fun x hx => ?_, ?_, mono _ h.a0, fun g hg => mono _ (h.ap g hg), fun g hg => mono _ (h.aj g hg), fun g hg => .inr hg, by rw [hsz]; exact Nat.le_trans h.le hg.size⟩, ?_⟩
  · have := ((h.recs x hx).grow h.begun (by decide) hg).set (u := vb') (o := 2) hb1
    exact ⟨this.1.mono mono, this.2.mono mono⟩
  · have := ((h.was x hx).grow h.begun (by decide) hg).set (u := vb') (o := 2) hb1
    exact ⟨this.1.mono mono, fun t => (this.2.1 t).mono mono, this.2.2⟩
  · intro k hk
    rw [hsz]
    rcases hk with hk | hk
    · exact ⟨(h.foot k hk).1, Nat.lt_of_lt_of_le (h.foot k hk).2 hg.size⟩
    · exact hrow.lt k hk
  · refine ⟨hg.os, hg.tape, hg.output, by rw [hsz]; exact hg.size, fun k hk hA => ?_, fun k hk => ?_, mono⟩
    · rw [Below.heap_setCell W1 ⟨s, 2, none⟩ vb' k (fun e => hA (by rw [e]; exact h.a0))]
      exact hg.block k hk (fun e => hA (h.ab k e.symm))
    · rcases hk with hk | hk
      · exact .inl hk
      · rcases hown with e | ⟨g, e, hge⟩
        · exact .inl (h.ab k (by rw [← e]; exact hk))
        · rw [e] at hk; simp at hk; exact .inr (by omega)

section
variable {W : World} {s base : Nat} {A : Nat → Prop} {vp vj vb : Value} {r : List Rec} {j : List Was} {b : List Nat}
set_option maxHeartbeats 1000000 in
theorem all_any (h : StC W s base A vp vj vb r j b) : Calls Try.prog 67 #[.pointer (some ⟨s, 0, none⟩)] W fun e w' => e = .returned vp ∧ w' = W := by
  obtain ⟨c, f⟩ := cells_of_block h.blk
  obtain ⟨av, cv, rfl⟩ := row_slice h.pairs
  go_enter Try.func67, Try.ntmps67
  go_wp2
  go_ret
  exact ⟨rfl, rfl⟩
set_option maxHeartbeats 1000000 in
theorem depth_any (h : StC W s base A vp vj vb r j b) : Calls Try.prog 74 #[.pointer (some ⟨s, 0, none⟩)] W fun e w' => e = .returned (.int .i64 (b.length : Int)) ∧ w' = W := by
  obtain ⟨c, f⟩ := cells_of_block h.blk
  obtain ⟨av, cv, rfl⟩ := row_slice h.begun
  go_enter Try.func74, Try.ntmps74
  go_wp2
  go_ret
  exact ⟨rfl, rfl⟩
set_option maxHeartbeats 1000000 in
theorem find_any {u : Value} {key : List Int} (h : StC W s base A vp vj vb r j b) (hs : Srt r) (hn : r.length ≤ 1048576) (hu : Src W u key) (hk : Byte key) :
    Calls Try.prog 50 #[.pointer (some ⟨s, 0, none⟩), u] W fun e w' => ∃ (i : Nat) (f : Bool), e = .returned (.tuple #[.int .i64 (i : Int), .bool f]) ∧ FindS r key i f ∧ Below W.heap.size W w' := by
  have hA := all_any h
  have hS := search_any h.pairs h.recs hs hn hu hk
  obtain ⟨av, cv, rfl⟩ := row_slice h.pairs
  go_enter Try.func50, Try.ntmps50
  go_wp2_with (first
    | (go_at_call 67; refine hA.mono ?_; rintro e w1 ⟨rfl, rfl⟩)
    | (go_at_call 71; refine hS.mono ?_; rintro e w2 ⟨i, f, rfl, hF, hb⟩))
  go_ret2
  exact ⟨i, f, rfl, hF, hb⟩
end
end Go.Proofs.Ytafcianpajheiaa
