
/- Rows, bytes and worlds that grow: what every package's texts lean on. -/
import Derived.Test.YtjhjgncnadhbhaaRows
import Derived.WalkKit
import Derived.WalkSpells
import Derived.WalkLawsBesides
import Derived.BigRegion
import Derived.BigQuiet
import Derived.OwnWalk
import Derived.RangeFuncRecord
import Derived.Deep.QuietTactic
import Derived.Deep.RegionHeld2
import Derived.Maps.AppendAt
import Derived.Laws.AppendOwnNone
import Derived.Laws.Cover3
import Derived.Laws.CopyOwn
import Derived.Test.YtjhjgncnadhbhaaP
set_option linter.unusedSimpArgs false
set_option linter.unusedVariables false
set_option maxRecDepth 20000
namespace Go.Proofs.Ytjhjgncnadhbhaa
open Go.RowKit

theorem cells_of_block {W : World} {B : Nat} {c : Array Value} {t : TypeId} (h : W.heap[B]? = some (.cells c t (0, 0))) : (∀ o, W.cell? ⟨B, o, none⟩ = c[o]?) ∧ (∀ o, W.frozen? ⟨B, o, none⟩ = false) := by
  constructor
  · intro o; simp [World.cell?, h]
  · intro o; simp [World.frozen?, h]
theorem u8_info : (Try.prog.info? 5).map (fun i => (i.zero, i.size, i.bytes)) = some (some (.int .u8 0), 1, 1) := by kernel_rfl
def encB (p : List Int) : List Value := p.map (Value.int .u8)
theorem not_row {W : World} {B : Nat} {c : Array Value} {t e : TypeId} (h : W.heap[B]? = some (.cells c t (0, 0))) (hte : t ≠ e) {base size k : Nat} {v : Value} {xs : List Value} (hr : W.ownsRow base e size v k xs) : some B ≠ v.ownBlock := by
  rcases hr.2 with ⟨rfl, _⟩ | ⟨g, cap, cur, rfl, _, hgb, _⟩
  · simp [Value.ownBlock]
  · intro e'
    obtain rfl : B = g := by simpa [Value.ownBlock] using e'
    have := h.symm.trans hgb
    simp at this
    exact hte this.2
theorem row_slice {W : World} {base : Nat} {e : TypeId} {size : Nat} {v : Value} {k : Nat} {xs : List Value} (h : W.ownsRow base e size v k xs) : ∃ a cap, v = .slice a k cap := by
  rcases h.2 with ⟨rfl, rfl⟩ | ⟨g, cap, _, rfl, _⟩
  · exact ⟨_, _, rfl⟩
  · exact ⟨_, _, rfl⟩
/-- A slice's value that is a list of bytes in a world. -/
def IsBytes (W : World) (v : Value) (p : List Int) : Prop :=
  (p = [] ∧ ∃ a cap, v = .slice a 0 cap) ∨ ∃ blk off cap, v = .slice (some ⟨blk, off, none⟩) p.length cap ∧ p.length ≤ 1073741824 ∧ blk < W.heap.size ∧ ∀ i x, p[i]? = some x → W.cell? ⟨blk, off + i, none⟩ = some (.int .u8 x)
theorem IsBytes.below {W W' : World} {v : Value} {p : List Int} (h : IsBytes W v p) (hb : Below W.heap.size W W') : IsBytes W' v p := by
  rcases h with h | ⟨blk, off, cap, hv, hlen, hlt, hall⟩
  · exact .inl h
  · exact .inr ⟨blk, off, cap, hv, hlen, Nat.lt_of_lt_of_le hlt hb.size, fun i x hi => (hb.cell (p := ⟨blk, _, none⟩) hlt).trans (hall i x hi)⟩
theorem IsBytes.slice {W : World} {v : Value} {p : List Int} (h : IsBytes W v p) : ∃ a cap, v = .slice a p.length cap := by
  rcases h with ⟨rfl, a, cap, rfl⟩ | ⟨blk, off, cap, hv, _⟩
  · exact ⟨a, cap, rfl⟩
  · exact ⟨_, _, hv⟩
theorem own_bytes {W : World} {base : Nat} {v : Value} {p : List Int} (hl : p.length ≤ 1073741824) (h : W.ownsRow base 5 1 v p.length (encB p)) : IsBytes W v p := by
  rcases h.2 with ⟨rfl, h0⟩ | ⟨g, cap, cur, rfl, _, hgb, hcap, hcur⟩
  · exact .inl ⟨List.eq_nil_of_length_eq_zero h0, _, _, rfl⟩
  · refine .inr ⟨g, 0, cap, rfl, hl, (Array.getElem?_eq_some_iff.1 hgb).1, fun i x hi => ?_⟩
    have hil : i < p.length := by rcases Nat.lt_or_ge i p.length with h | h; · exact h
                                  · rw [List.getElem?_eq_none h] at hi; cases hi
    have e : (List.take (p.length * 1) cur.toList)[i]? = some (.int .u8 x) := by rw [hcur.2.2]; simp [encB, hi]
    rw [List.getElem?_take_of_lt (by omega)] at e
    rw [(cells_of_block hgb).1]
    simpa using e
set_option maxHeartbeats 1000000 in
theorem same_len (a b : Option Addr) (m n c d : Nat) (h : m ≠ n) (w : World) :
    Calls Try.prog 20 #[.slice a m c, .slice b n d] w fun e w' => e = .returned (.bool false) ∧ Below w.heap.size w w' := by
  have h' : ¬ (m : Int) = (n : Int) := by omega
  go_enter Try.func20, Try.ntmps20
  go_wp2
  go_ret
  exact ⟨rfl, by (repeat (first | (with_reducible exact Below.refl _ _) | (with_reducible assumption) | (with_reducible apply bd) | (with_reducible apply ba) | (with_reducible refine bp ?_ (by first | omega | (simp [pad_size]; done) | (simp [pad_size]; omega)) _ _) | (with_reducible refine bs ?_ (by first | omega | (simp [pad_size]; done) | (simp [pad_size]; omega)) _) | (with_reducible refine bt ?_ (by assumption))))⟩
set_option maxHeartbeats 1000000 in
theorem same_some (g h o u c d : Nat) (p q : List Int) (hpq : p.length = q.length) (hlen : p.length ≤ 1073741824) (w : World) (hg : g < w.heap.size) (hh : h < w.heap.size)
    (hp : ∀ i x, p[i]? = some x → w.cell? ⟨g, o + i, none⟩ = some (.int .u8 x)) (hq : ∀ i x, q[i]? = some x → w.cell? ⟨h, u + i, none⟩ = some (.int .u8 x)) :
    Calls Try.prog 20 #[.slice (some ⟨g, o, none⟩) p.length c, .slice (some ⟨h, u, none⟩) q.length d] w fun e w' => e = .returned (.bool (decide (p = q))) ∧ Below w.heap.size w w' := by
  have hpad := pads
  rw [← hpq]
  have hpq' : Hid (p.length = q.length) := hpq
  clear hpq
  go_enter Try.func20, Try.ntmps20
  go_wp2
  go_loopw [5] (fun i wr => ∃ (k m : Nat) (f : Nat → Obj) (dr : Nat), k ≤ p.length ∧ i = .int .i64 k ∧ w.heap.size ≤ m ∧ wr = pad w m f dr ∧ Hid (p.take k = q.take k)) (fun i _ => p.length - (intOf i).toNat)
  case atStart =>
    obtain ⟨m, f, dr, hm, e⟩ := pad_of (Below.refl w.heap.size w)
    exact ⟨0, m, f, dr, Nat.zero_le _, rfl, hm, e, show _ = _ from rfl⟩
  case round =>
    obtain ⟨k, m, f, dr, hk, rfl, hm, rfl, hpre⟩ := hrel
    by_cases hkl : k < p.length
    · have hkq : k < q.length := by have := hpq'.out; omega
      have c1 := hp k p[k] (by simp [hkl])
      have c2 := hq k q[k] (by simp [hkq])
      have hgm : g < m := by omega
      have hhm : h < m := by omega
      by_cases he : p[k] = q[k]
      · rw [← he] at c2
        go_wp2
        go_region
        all_goals go_wp2
        all_goals go_roundw
        case rel =>
          refine ⟨k + 1, m, f, dr + 1, by omega, by go_num, hm, by first | rfl | (simp [hpad]; done), ?_⟩
          show _ = _
          rw [List.take_succ_eq_append_getElem hkl, List.take_succ_eq_append_getElem hkq, hpre.out, he]
        case measure => simp [intOf]; omega
      · go_wp2
        go_region
        all_goals go_wp2
        all_goals go_ret
        refine ⟨?_, by (repeat (first | (with_reducible exact Below.refl _ _) | (with_reducible assumption) | (with_reducible apply bd) | (with_reducible apply ba) | (with_reducible refine bp ?_ (by first | omega | (simp [pad_size]; done) | (simp [pad_size]; omega)) _ _) | (with_reducible refine bs ?_ (by first | omega | (simp [pad_size]; done) | (simp [pad_size]; omega)) _) | (with_reducible refine bt ?_ (by assumption))))⟩
        rw [decide_eq_false (fun e => he (by subst e; rfl))]; rfl
    · have hk' : k = p.length := by omega
      subst hk'
      go_wp2
      go_ret
      refine ⟨?_, by (repeat (first | (with_reducible exact Below.refl _ _) | (with_reducible assumption) | (with_reducible apply bd) | (with_reducible apply ba) | (with_reducible refine bp ?_ (by first | omega | (simp [pad_size]; done) | (simp [pad_size]; omega)) _ _) | (with_reducible refine bs ?_ (by first | omega | (simp [pad_size]; done) | (simp [pad_size]; omega)) _) | (with_reducible refine bt ?_ (by assumption))))⟩
      have h1 := hpre.out
      rw [hpq'.out, List.take_length, ← hpq'.out, List.take_length] at h1
      rw [decide_eq_true h1]; rfl
set_option maxHeartbeats 1000000 in
theorem same_nil (a b : Option Addr) (c d : Nat) (w : World) :
    Calls Try.prog 20 #[.slice a 0 c, .slice b 0 d] w fun e w' => e = .returned (.bool true) ∧ Below w.heap.size w w' := by
  go_enter Try.func20, Try.ntmps20
  go_wp2
  apply wp_loop_rounds 1
  simp only [Code.rounds]
  go_wp2
  go_ret
  exact ⟨rfl, by (repeat (first | (with_reducible exact Below.refl _ _) | (with_reducible assumption) | (with_reducible apply bd) | (with_reducible apply ba) | (with_reducible refine bp ?_ (by first | omega | (simp [pad_size]; done) | (simp [pad_size]; omega)) _ _) | (with_reducible refine bs ?_ (by first | omega | (simp [pad_size]; done) | (simp [pad_size]; omega)) _) | (with_reducible refine bt ?_ (by assumption))))⟩
theorem same_any {va vb : Value} {p q : List Int} (w : World) (hA : IsBytes w va p) (hB : IsBytes w vb q) :
    Calls Try.prog 20 #[va, vb] w fun e w' => e = .returned (.bool (decide (p = q))) ∧ Below w.heap.size w w' := by
  by_cases hl : p.length = q.length
  · rcases hA with ⟨rfl, a, c, rfl⟩ | ⟨g, o, c, rfl, h1, h2, h3⟩
    · obtain ⟨b, d, rfl⟩ := hB.slice
      obtain rfl : q = [] := List.eq_nil_of_length_eq_zero hl.symm
      exact same_nil a b c d w
    · rcases hB with ⟨rfl, b, d, rfl⟩ | ⟨h, u, d, rfl, k1, k2, k3⟩
      · obtain rfl : p = [] := List.eq_nil_of_length_eq_zero hl
        exact same_nil _ b c d w
      · exact same_some g h o u c d p q hl h1 w h2 k2 h3 k3
  · obtain ⟨a, c, rfl⟩ := hA.slice
    obtain ⟨b, d, rfl⟩ := hB.slice
    rw [decide_eq_false (fun e => hl (by rw [e]))]
    exact same_len a b _ _ c d hl w
/-- A slice's value is these bytes, which lie in block D. -/
def Byt (W : World) (D : Option Nat) (v : Value) (p : List Int) : Prop :=
  ∃ a cap, v = .slice a p.length cap ∧ p.length ≤ cap ∧ p.length ≤ 1048576 ∧ (∀ x ∈ p, 0 ≤ x ∧ x ≤ 255) ∧ (p = [] ∨ ∃ d off, D = some d ∧ a = some ⟨d, off, none⟩ ∧ d < W.heap.size ∧ ∀ i x, p[i]? = some x → W.cell? ⟨d, off + i, none⟩ = some (.int .u8 x))
theorem Byt.is {W : World} {D : Option Nat} {v : Value} {p : List Int} (h : Byt W D v p) : IsBytes W v p := by
  obtain ⟨a, cap, rfl, h1, h2, h3, h4⟩ := h
  rcases h4 with rfl | ⟨d, off, -, rfl, h5, h6⟩
  · exact .inl ⟨rfl, a, cap, rfl⟩
  · exact .inr ⟨d, off, cap, rfl, by omega, h5, h6⟩
theorem Byt.kept {W W' : World} {D : Option Nat} {v : Value} {p : List Int} {r : Option Nat} (h : Byt W D v p) (hg : W.grownBy W' r) (hne : D = none ∨ D ≠ r) : Byt W' D v p := by
  obtain ⟨a, cap, rfl, h1, h2, h3, h4⟩ := h
  refine ⟨a, cap, rfl, h1, h2, h3, ?_⟩
  rcases h4 with rfl | ⟨d, off, rfl, rfl, h5, h6⟩
  · exact .inl rfl
  · exact .inr ⟨d, off, rfl, rfl, Nat.lt_of_lt_of_le h5 hg.size, fun i x hi => (World.cell?_of_block (a := ⟨d, off + i, none⟩) (hg.block d h5 (hne.resolve_left (by simp)))).trans (h6 i x hi)⟩
theorem grown_none {W W' : World} (hb : Below W.heap.size W W') : W.grownBy W' none := ⟨hb.os, hb.tape, hb.output, hb.size, fun k hk _ => hb.block k hk⟩
theorem grown_ref (W : World) (r : Option Nat) : W.grownBy W r := ⟨rfl, rfl, rfl, Nat.le_refl _, fun _ _ _ => rfl⟩
theorem grown_up {W W' : World} {r : Option Nat} (h : W.grownBy W' none) : W.grownBy W' r := ⟨h.os, h.tape, h.output, h.size, fun k hk _ => h.block k hk (by simp)⟩
theorem grown_tr {A B C : World} {r : Option Nat} (h : A.grownBy B r) (k : B.grownBy C r) : A.grownBy C r :=
  ⟨k.os.trans h.os, k.tape.trans h.tape, k.output.trans h.output, Nat.le_trans h.size k.size, fun n hn hne => (k.block n (Nat.lt_of_lt_of_le hn h.size) hne).trans (h.block n hn hne)⟩
theorem grown_al {A B : World} {r : Option Nat} (h : A.grownBy B r) (o : Obj) : A.grownBy (B.alloc o) r := grown_tr h (World.grownBy_alloc B o r)
theorem grown_se {A B : World} {b : Nat} (h : A.grownBy B (some b)) (o : Nat) (v : Value) : A.grownBy (B.setCell ⟨b, o, none⟩ v) (some b) :=
  grown_tr h ⟨rfl, rfl, rfl, by simp [World.setCell], fun k _ hne => Below.heap_setCell B ⟨b, o, none⟩ v k (fun e => hne (by rw [e]))⟩
theorem grown_dr {A B : World} {r : Option Nat} (h : A.grownBy B r) : A.grownBy B.drew r := ⟨h.os, h.tape, h.output, h.size, h.block⟩
/-- What was made since stays as it is, too, where another block is turned. -/
theorem grown_new {A B C : World} {r : Option Nat} {b : Nat} (h : A.grownBy B r) (k : B.grownBy C (some b)) (hb : A.heap.size ≤ b) : A.grownBy C r :=
  ⟨k.os.trans h.os, k.tape.trans h.tape, k.output.trans h.output, Nat.le_trans h.size k.size, fun n hn hne => (k.block n (Nat.lt_of_lt_of_le hn h.size) (fun e => by simp at e; omega)).trans (h.block n hn hne)⟩
theorem below_grown {w W W' : World} {b : Nat} (h : Below w.heap.size w W) (k : W.grownBy W' (some b)) (hb : w.heap.size ≤ b) : Below w.heap.size w W' := h.grown k h.size (fun j e => by simp at e; omega)
theorem grown_dn {A B : World} {r : Option Nat} (h : A.grownBy B r) (n : Nat) : A.grownBy (B.drewN n) r := ⟨h.os, h.tape, h.output, h.size, h.block⟩
theorem block_set {W : World} {k i : Nat} {c : Array Value} {t : TypeId} (v : Value) (h : W.heap[k]? = some (.cells c t (0, 0))) : (W.setCell ⟨k, i, none⟩ v).heap[k]? = some (.cells (c.setIfInBounds i v) t (0, 0)) := by
  simp [World.setCell, Array.getElem?_modify, h]
theorem block_set_other {W : World} {k j i : Nat} {o : Obj} (v : Value) (h : W.heap[k]? = some o) (hne : ¬ j = k) : (W.setCell ⟨j, i, none⟩ v).heap[k]? = some o := by
  simp [World.setCell, Array.getElem?_modify, h, hne]
theorem row_base {W : World} {base base' : Nat} {e : TypeId} {size : Nat} {v : Value} {n : Nat} {xs : List Value} (h : W.ownsRow base e size v n xs) (hb : base' ≤ base) : W.ownsRow base' e size v n xs := by
  obtain ⟨h1, h2⟩ := h
  refine ⟨h1, ?_⟩
  rcases h2 with h2 | ⟨g, cap, cur, hv, hg, r⟩
  · exact .inl h2
  · exact .inr ⟨g, cap, cur, hv, by omega, r⟩
theorem apart_row {W : World} {base b : Nat} {e : TypeId} {size n : Nat} {u : Value} {xs : List Value} (h : W.ownsRow base e size u n xs) (hb : W.heap.size ≤ b) : u.ownBlock = none ∨ u.ownBlock ≠ some b := by
  cases hu : u.ownBlock with
  | none => exact .inl rfl
  | some g => right; intro e'; have := h.lt g hu; simp at e'; omega
theorem none_row {W : World} {base : Nat} {e : TypeId} {size n : Nat} {u : Value} {xs : List Value} (h : W.ownsRow base e size u n xs) {W' : World} (hg : W.grownBy W' none) : W'.ownsRow base e size u n xs := h.kept hg (by cases u.ownBlock <;> simp)
/-- What is handed in to be laid. -/
def Src (W : World) (u : Value) (q : List Int) : Prop := (u = .slice none 0 0 ∧ q = []) ∨ ∃ ad cap, u = .slice (some ad) q.length cap ∧ ∀ i x, q[i]? = some x → W.cell? (ad.add i) = some (.int .u8 x)
theorem add_cell {g off : Nat} (j : Nat) : Addr.add ⟨g, off, none⟩ j = ⟨g, off + j, none⟩ := by
  unfold Addr.add; split
  · subst_vars; rfl
  · rfl
theorem src_own {W : World} {base : Nat} {u : Value} {q : List Int} (h : W.ownsRow base 5 1 u q.length (encB q)) : Src W u q := by
  rcases h.2 with ⟨rfl, h0⟩ | ⟨g, cap, cur, rfl, _, hgb, hcap, hcur⟩
  · exact .inl ⟨rfl, List.eq_nil_of_length_eq_zero h0⟩
  · refine .inr ⟨⟨g, 0, none⟩, cap, rfl, fun i x hi => ?_⟩
    rw [add_cell]
    have hil : i < q.length := (List.getElem?_eq_some_iff.1 hi).1
    have e : (List.take (q.length * 1) cur.toList)[i]? = some (.int .u8 x) := by rw [hcur.2.2]; simp [encB, hi]
    rw [List.getElem?_take_of_lt (by omega)] at e
    rw [(cells_of_block hgb).1]
    simpa using e
theorem Src.kept {W W' : World} {u : Value} {q : List Int} (h : Src W u q) (hg : W.grownBy W' none) : Src W' u q := by
  rcases h with h | ⟨ad, cap, e, hc⟩
  · exact .inl h
  · exact .inr ⟨ad, cap, e, fun i x hi => hg.cell (hc i x hi) (by simp)⟩
theorem src_new (W : World) (q : List Int) (t : TypeId) : Src (W.alloc (.cells (encB q).toArray t)) (.slice (some ⟨W.heap.size, 0, none⟩) q.length q.length) q := by
  refine .inr ⟨⟨_, 0, none⟩, _, rfl, fun i x hi => ?_⟩
  rw [add_cell, (cells_of_block (World.alloc_heap_new W _)).1]
  simp [encB, hi]
theorem encB_app (p q : List Int) : encB (p ++ q) = encB p ++ encB q := by simp [encB]
theorem byt_own {W : World} {base : Nat} {v : Value} {p : List Int} (h : W.ownsRow base 5 1 v p.length (encB p)) (hl : p.length ≤ 1048576) (hr : ∀ x ∈ p, 0 ≤ x ∧ x ≤ 255) : Byt W v.ownBlock v p := by
  have hs := src_own h
  rcases h.2 with ⟨rfl, h0⟩ | ⟨g, cap, cur, rfl, hb, hgb, hcap, _⟩
  · obtain rfl := List.eq_nil_of_length_eq_zero h0
    exact ⟨none, 0, rfl, Nat.le_refl _, by simp, by simp, .inl rfl⟩
  · refine ⟨_, cap, rfl, hcap, hl, hr, .inr ⟨g, 0, rfl, rfl, (Array.getElem?_eq_some_iff.1 hgb).1, ?_⟩⟩
    rcases hs with ⟨e, _⟩ | ⟨ad, cap', e, hc⟩
    · simp at e
    · simp at e
      obtain ⟨rfl, rfl⟩ := e
      intro i x hi
      have := hc i x hi
      rwa [add_cell] at this
theorem grown_own {A B C : World} {r q : Option Nat} (h : A.grownBy B r) (k : B.grownBy C q) (hq : ∀ g, q = some g → A.heap.size ≤ g) : A.grownBy C r :=
  ⟨k.os.trans h.os, k.tape.trans h.tape, k.output.trans h.output, Nat.le_trans h.size k.size, fun n hn hne => (k.block n (Nat.lt_of_lt_of_le hn h.size) (fun e => by have := hq n e.symm; omega)).trans (h.block n hn hne)⟩
set_option maxHeartbeats 1000000 in
theorem join_any {W : World} {u : Value} {q : List Int} (hl : q.length ≤ 1048576) (hu : Src W u q) :
    Calls Try.prog 21 #[u, .slice none 0 0] W fun e w' => ∃ u', e = .returned u' ∧ w'.ownsRow W.heap.size 5 1 u' q.length (encB q) ∧ Below W.heap.size W w' := by
  obtain ⟨i0, hi, hz0, hz1, hz2⟩ := info_parts u8_info
  rcases hu with ⟨rfl, rfl⟩ | ⟨ad, cap, rfl, hc⟩
  · go_enter Try.func21, Try.ntmps21
    go_wp2_with (at_builtin; refine wpList_append_own_none rfl _ _ 42 rfl W.heap.size 5 i0 1 Try.underlying42 hi _ 0 [] rfl (World.ownsRow_nil _ _ _ _) rfl ?_)
    go_ret
    exact ⟨_, rfl, World.ownsRow_nil _ _ _ _, Below.refl _ _⟩
  · go_enter Try.func21, Try.ntmps21
    go_wp2_with (first
      | (at_builtin; refine wpList_append_own _ rfl _ _ 42 rfl W.heap.size 5 i0 _ 1 1 Try.underlying42 hi hz0 hz1 hz2 rfl (by decide) _ 0 [] rfl (World.ownsRow_nil _ _ _ _) ad q.length cap (encB q) rfl (by simp [encB]) (fun j x hj => by simp only [encB, List.getElem?_map] at hj; obtain ⟨y, hy, rfl⟩ := Option.map_eq_some_iff.1 hj; exact hc j y hy) (by simp [encB, Value.oneCell']) (by unfold maxLen; omega) (by omega) (Nat.le_refl _) ?_; intro v' w1 hown' hgrow _; rw [Nat.zero_add, List.nil_append] at hown'; obtain ⟨a1, c1, rfl⟩ := row_slice hown')
      | (at_builtin; refine wpList_append_own_none rfl _ _ 42 rfl W.heap.size 5 i0 1 Try.underlying42 hi _ _ _ rfl hown' rfl ?_))
    go_ret
    exact ⟨_, rfl, hown', (Below.refl _ _).grown hgrow (Nat.le_refl _) (fun k hk => absurd (show (none : Option Nat) = some k from hk) (by simp))⟩
theorem src_cells {W : World} {c : Array Value} {q : List Int} {k n : Nat} {t : TypeId} (hc : c = (encB q).toArray) (hk : k = q.length) (hn : n = W.heap.size) : Src (W.alloc (.cells c t)) (.slice (some ⟨n, 0, none⟩) k k) q := by
  subst hc hk hn
  exact src_new W q t
theorem row_set {W : World} {base g n cap i : Nat} {e : TypeId} {xs : List Value} (u : Value) (h : W.ownsRow base e 1 (.slice (some ⟨g, 0, none⟩) n cap) n xs) (hi : i < n) :
    (W.setCell ⟨g, i, none⟩ u).ownsRow base e 1 (.slice (some ⟨g, 0, none⟩) n cap) n (xs.set i u) := by
  obtain ⟨h1, h2⟩ := h
  refine ⟨by simpa using h1, ?_⟩
  rcases h2 with ⟨h2, -⟩ | ⟨g', cap', cur, hv, hg, hgb, hcap, hm, hs, ht⟩
  · cases h2
  · cases hv
    refine .inr ⟨g, cap, cur.setIfInBounds i u, rfl, hg, ?_, hcap, hm, by simpa using hs, ?_⟩
    · obtain ⟨hlt, hk⟩ := Array.getElem?_eq_some_iff.1 hgb
      show (W.heap.modify g _)[g]? = _
      rw [Array.getElem?_eq_getElem (by rw [Array.size_modify]; exact hlt), Array.getElem_modify_self, hk]
      rfl
    · rw [← ht]
      simp [List.take_set]
/-- The append law for one operation of a region, with where the new row lies. -/
theorem wp_append_own_at {P : Program} (w : World) {o : Oper} {a : Act} {K : Act → World → Prop} {Q : Exit → Act → World → Prop} (s x : Operand) (t : TypeId)
    (ho : o.op = .call { callee := .builtin .append, args := #[s, x], argTypes := #[t, t] })
    (base : Nat) (e : TypeId) (i : TypeInfo) (z : Value) (size bytes : Nat) (ht : P.underlying t = some (.slice e)) (hi : P.info? e = some i) (hz : i.zero = some z)
    (hsize : i.size = size) (hby : i.bytes = bytes) (hzs : z.cells.size = size) (hsz : 0 < size)
    (v : Value) (n : Nat) (xs : List Value) (hs : a.eval s = v) (hown : w.ownsRow base e size v n xs)
    (ad : Addr) (m c : Nat) (news : List Value) (hx : a.eval x = .slice (some ad) m c) (hl : news.length = m * size) (hnews : ∀ j u, news[j]? = some u → w.cell? (ad.add j) = some u) (h1 : ∀ u ∈ news, u.oneCell' = true)
    (h63 : n + m ≤ maxLen) (hbytes : (n + m) * bytes ≤ 140737488355328) (hbase : base ≤ w.heap.size)
    (h : ∀ v' w', w'.ownsRow base e size v' (n + m) (xs ++ news) → w.grownBy w' v.ownBlock → (v' = .slice none 0 0 ↔ v = .slice none 0 0 ∧ m = 0) → (v'.ownBlock = v.ownBlock ∨ v'.ownBlock = some w.heap.size) → K (a.put o.dst v') w') : o.wp P a w K Q := by
  obtain ⟨v', w', hr, h2, h3, h4, h5⟩ := run_append_own_at (P := P) w base t o.type e i z size bytes ht hi hz hsize hby hzs hsz v n xs hown ad m c news hl hnews h1 h63 hbytes hbase
  unfold Oper.wp execOp
  simp only [ho, resolve, invoke, builtin, Sem.run_bind, Sem.run_pure, Result.andThen_ok, List.map_toArray, List.map_cons, List.map_nil, hs, hx, hr]
  exact h v' w' h2 h3 h4 h5
theorem rows_apart {W : World} {base base' : Nat} {e e' : TypeId} {s s' n n' : Nat} {v u : Value} {xs ys : List Value} (h : W.ownsRow base e s v n xs) (k : W.ownsRow base' e' s' u n' ys) (hne : e ≠ e') : v.ownBlock = none ∨ v.ownBlock ≠ u.ownBlock := by
  rcases h.2 with ⟨rfl, _⟩ | ⟨g, cap, cur, rfl, _, hgb, _⟩
  · exact .inl rfl
  · exact .inr (not_row hgb hne k)
theorem ne_own {W : World} {B : Nat} {c : Array Value} {t e : TypeId} (h : W.heap[B]? = some (.cells c t (0, 0))) (hte : t ≠ e) {base size k : Nat} {v : Value} {xs : List Value} (hr : W.ownsRow base e size v k xs) : v.ownBlock ≠ some B := fun e => not_row h hte hr e.symm

end Go.Proofs.Ytjhjgncnadhbhaa
