
/- codec's writer. -/
import Derived.Test.YtoikklbnbgoecaaG5
import Derived.Laws.AppendOwnNone
set_option linter.unusedSimpArgs false
set_option linter.unusedVariables false
namespace Go.Proofs.Ytoikklbnbgoecaa
open Go.RowKit

/-- A writer in block b that has laid these bytes, in a row of its own. -/
def WrAt (W : World) (b base : Nat) (v : Value) (p : List Int) : Prop := W.heap[b]? = some (.cells #[v] 28 (0, 0)) ∧ W.ownsRow base 5 1 v p.length (encB p)
/-- Nothing else that was there has turned; its row is the old one, or new. -/
structure WF (W W' : World) (b : Nat) (v v' : Value) : Prop where
  os : W'.os = W.os
  tape : W'.tape = W.tape
  output : W'.output = W.output
  size : W.heap.size ≤ W'.heap.size
  block : ∀ k, k < W.heap.size → k ≠ b → some k ≠ v.ownBlock → W'.heap[k]? = W.heap[k]?
  own : v'.ownBlock = v.ownBlock ∨ ∃ g, v'.ownBlock = some g ∧ W.heap.size ≤ g
theorem WF.trans {A B C : World} {b : Nat} {u v x : Value} (h : WF A B b u v) (k : WF B C b v x) : WF A C b u x := by
  refine ⟨k.os.trans h.os, k.tape.trans h.tape, k.output.trans h.output, Nat.le_trans h.size k.size, fun n hn h1 h2 => (k.block n (Nat.lt_of_lt_of_le hn h.size) h1 ?_).trans (h.block n hn h1 h2), ?_⟩
  · rcases h.own with e | ⟨g, e, hg⟩
    · rw [e]; exact h2
    · rw [e]; intro e'; simp at e'; omega
  · rcases k.own with e | ⟨g, e, hg⟩
    · rcases h.own with e2 | ⟨g, e2, hg⟩
      · exact .inl (e.trans e2)
      · exact .inr ⟨g, e.trans e2, hg⟩
    · exact .inr ⟨g, e, Nat.le_trans h.size hg⟩
theorem WF.pre {A B C : World} {b : Nat} {u v : Value} (h : A.grownBy B none) (k : WF B C b u v) : WF A C b u v :=
  ⟨k.os.trans h.os, k.tape.trans h.tape, k.output.trans h.output, Nat.le_trans h.size k.size, fun n hn h1 h2 => (k.block n (Nat.lt_of_lt_of_le hn h.size) h1 h2).trans (h.block n hn (by simp)), k.own.imp id (fun ⟨g, e, hg⟩ => ⟨g, e, Nat.le_trans h.size hg⟩)⟩
theorem WF.post {A B C : World} {b : Nat} {u v : Value} (h : WF A B b u v) (k : B.grownBy C none) : WF A C b u v :=
  ⟨k.os.trans h.os, k.tape.trans h.tape, k.output.trans h.output, Nat.le_trans h.size k.size, fun n hn h1 h2 => (k.block n (Nat.lt_of_lt_of_le hn h.size) (by simp)).trans (h.block n hn h1 h2), h.own⟩
theorem WF.below {w W W' : World} {b base : Nat} {v v' : Value} {p : List Int} (h : Below w.heap.size w W) (k : WF W W' b v v') (hW : WrAt W b base v p) (hb : w.heap.size ≤ b) (hbase : w.heap.size ≤ base) : Below w.heap.size w W' := by
  refine ⟨k.os.trans h.os, k.tape.trans h.tape, k.output.trans h.output, Nat.le_trans h.size k.size, fun n hn => (k.block n (Nat.lt_of_lt_of_le hn h.size) (by omega) (fun e => ?_)).trans (h.block n hn)⟩
  have := (hW.2.lt n e.symm).1; omega
theorem WF.row {A B : World} {b : Nat} {v v' u : Value} {base : Nat} {e : TypeId} {size n : Nat} {xs : List Value} (k : WF A B b v v') (h : A.ownsRow base e size u n xs) (hb : u.ownBlock ≠ some b) (hv : u.ownBlock = none ∨ u.ownBlock ≠ v.ownBlock) : B.ownsRow base e size u n xs := by
  refine ⟨h.1, ?_⟩
  rcases h.2 with h2 | ⟨g, cap, cur, rfl, h1, h2, h3⟩
  · exact .inl h2
  · refine .inr ⟨g, cap, cur, rfl, h1, (k.block g (Array.getElem?_eq_some_iff.1 h2).1 (fun e => hb (by rw [e]; rfl)) (fun e => ?_)).trans h2, h3⟩
    rcases hv with hv | hv
    · simp [Value.ownBlock] at hv
    · exact hv e
theorem WrAt.kept {W W' : World} {b base : Nat} {v : Value} {p : List Int} {r : Option Nat} (h : WrAt W b base v p) (hg : W.grownBy W' r) (h1 : some b ≠ r) (h2 : v.ownBlock = none ∨ v.ownBlock ≠ r) : WrAt W' b base v p :=
  ⟨(hg.block b (Array.getElem?_eq_some_iff.1 h.1).1 h1).trans h.1, h.2.kept hg h2⟩
theorem WrAt.lt {W : World} {b base : Nat} {v : Value} {p : List Int} (h : WrAt W b base v p) : b < W.heap.size := (Array.getElem?_eq_some_iff.1 h.1).1
/-- What is handed in to be laid. -/
def Src (W : World) (u : Value) (q : List Int) : Prop := (u = .slice none 0 0 ∧ q = []) ∨ ∃ ad cap, u = .slice (some ad) q.length cap ∧ ∀ i x, q[i]? = some x → W.cell? (ad.add i) = some (.int .u8 x)
theorem add_cell {g off : Nat} (j : Nat) : Addr.add ⟨g, off, none⟩ j = ⟨g, off + j, none⟩ := by
  unfold Addr.add; split
  · subst_vars; rfl
  · rfl
theorem src_own {W : World} {base : Nat} {u : Value} {q : List Int} (h : W.ownsRow base 5 1 u q.length (encB q)) : Src W u q := by
  rcases h.2 with ⟨rfl, h0⟩ | ⟨g, cap, cur, rfl, _, hgb, hcap, hcur⟩
  · exact .inl ⟨rfl, List.eq_nil_of_length_eq_zero h0⟩
  · refine .inr ⟨⟨g, 0, none⟩, cap, rfl, fun i x hi => ?_⟩
    rw [add_cell]
    have hil : i < q.length := (List.getElem?_eq_some_iff.1 hi).1
    have e : (List.take (q.length * 1) cur.toList)[i]? = some (.int .u8 x) := by rw [hcur.2.2]; simp [encB, hi]
    rw [List.getElem?_take_of_lt (by omega)] at e
    rw [(cells_of_block hgb).1]
    simpa using e
theorem Src.kept {W W' : World} {u : Value} {q : List Int} (h : Src W u q) (hg : W.grownBy W' none) : Src W' u q := by
  rcases h with h | ⟨ad, cap, e, hc⟩
  · exact .inl h
  · exact .inr ⟨ad, cap, e, fun i x hi => hg.cell (hc i x hi) (by simp)⟩
theorem src_new (W : World) (q : List Int) (t : TypeId) : Src (W.alloc (.cells (encB q).toArray t)) (.slice (some ⟨W.heap.size, 0, none⟩) q.length q.length) q := by
  refine .inr ⟨⟨_, 0, none⟩, _, rfl, fun i x hi => ?_⟩
  rw [add_cell, (cells_of_block (World.alloc_heap_new W _)).1]
  simp [encB, hi]
theorem encB_app (p q : List Int) : encB (p ++ q) = encB p ++ encB q := by simp [encB]

set_option maxHeartbeats 2000000 in
theorem lay_any {W : World} {b base : Nat} {v u : Value} {p q : List Int} (hW : WrAt W b base v p) (hbase : base ≤ W.heap.size) (hl : p.length + q.length ≤ 1048576) (hu : Src W u q) :
    Calls Try.prog 49 #[.pointer (some ⟨b, 0, none⟩), u] W fun e w' => e = .returned (.pointer (some ⟨b, 0, none⟩)) ∧ ∃ v', WrAt w' b base v' (p ++ q) ∧ WF W w' b v v' := by
  have hW' := hW
  obtain ⟨hblk, hrow⟩ := hW
  obtain ⟨c, f⟩ := cells_of_block hblk
  have lb := (Array.getElem?_eq_some_iff.1 hblk).1
  have hnr := not_row (e := 5) hblk (by decide) hrow
  obtain ⟨i0, hi, hz0, hz1, hz2⟩ := info_parts u8_info
  obtain ⟨a0, cap0, rfl⟩ := row_slice hrow
  rcases hu with ⟨rfl, rfl⟩ | ⟨ad, cap, rfl, hc⟩
  · rw [List.append_nil]
    go_enter Try.func49, Try.ntmps49
    go_wp2_with (at_builtin; refine wpList_append_own_none rfl _ _ 26 rfl base 5 i0 1 Try.underlying26 hi _ _ _ rfl hrow rfl ?_)
    go_ret
    have e : W.setCell ⟨b, 0, none⟩ (.slice a0 p.length cap0) = W := by
      have e1 : (W.setCell ⟨b, 0, none⟩ (.slice a0 p.length cap0)).heap = W.heap := by
        apply Array.ext_getElem?
        intro k
        by_cases hk : b = k
        · subst hk; rw [block_set _ hblk, hblk]; rfl
        · exact Below.heap_setCell W ⟨b, 0, none⟩ _ k (fun e => hk e.symm)
      have e2 : W.setCell ⟨b, 0, none⟩ (.slice a0 p.length cap0) = { W with heap := (W.setCell ⟨b, 0, none⟩ (.slice a0 p.length cap0)).heap } := rfl
      rw [e2, e1]
    refine ⟨rfl, .slice a0 p.length cap0, ?_, ?_⟩
    · rw [e]; exact hW'
    · rw [e]; exact ⟨rfl, rfl, rfl, Nat.le_refl _, fun _ _ _ _ => rfl, .inl rfl⟩
  · go_enter Try.func49, Try.ntmps49
    go_wp2_with (at_builtin; refine wpList_append_own_at _ rfl _ _ 26 rfl base 5 i0 _ 1 1 Try.underlying26 hi hz0 hz1 hz2 rfl (by decide) _ _ _ rfl hrow ad q.length cap (encB q) rfl (by simp [encB]) (fun j x hj => by simp only [encB, List.getElem?_map] at hj; obtain ⟨y, hy, rfl⟩ := Option.map_eq_some_iff.1 hj; exact hc j y hy) (by simp [encB, Value.oneCell']) (by unfold maxLen; omega) (by omega) hbase ?_; intro v' w1 hown' hgrow _ hat; obtain ⟨a1, cap1, rfl⟩ := row_slice hown'; have hb1 := (hgrow.block b lb hnr).trans hblk; obtain ⟨c1, f1⟩ := cells_of_block hb1)
    go_ret
    have hnr1 := not_row (e := 5) hb1 (by decide) hown'
    have hgs : w1.grownBy (w1.setCell ⟨b, 0, none⟩ (.slice a1 (p.length + q.length) cap1)) (some b) := grown_se (grown_ref _ _) _ _
    refine ⟨rfl, .slice a1 (p.length + q.length) cap1, ⟨by rw [block_set _ hb1]; rfl, ?_⟩, ?_⟩
    · rw [List.length_append, encB_app]
      exact hown'.kept hgs (.inr (fun e => hnr1 e.symm))
    · refine ⟨hgrow.os, hgrow.tape, hgrow.output, Nat.le_trans hgrow.size hgs.size, fun k hk h1 h2 => (hgs.block k (Nat.lt_of_lt_of_le hk hgrow.size) (by simpa using h1)).trans (hgrow.block k hk h2), ?_⟩
      rcases hat with e | e
      · exact .inl e
      · exact .inr ⟨_, e, Nat.le_refl _⟩
end Go.Proofs.Ytoikklbnbgoecaa
