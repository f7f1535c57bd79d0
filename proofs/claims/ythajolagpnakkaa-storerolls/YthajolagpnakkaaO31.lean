
/- jointurelaw05's after and plain; a deed of one store alone. -/
import Derived.Test.YthajolagpnakkaaO30
set_option linter.unusedSimpArgs false
set_option linter.unusedVariables false
namespace Go.Proofs.Ythajolagpnakkaa
open Go.RowKit

theorem DdIn.below {w W : World} {y : Dd} (h : DdIn w y) (hb : Below w.heap.size w W) : DdIn W y :=
  ⟨h.1, h.2.1, h.2.2.1, fun e => ⟨(h.2.2.2.1 e).1, (h.2.2.2.1 e).2.below hb⟩, fun e => ⟨(h.2.2.2.2 e).1, (h.2.2.2.2 e).2.below hb⟩⟩
theorem DdsIn.below {w W : World} {a : Option Addr} {len : Nat} {l : List Dd} (h : DdsIn w a len l) (hb : Below w.heap.size w W) : DdsIn W a len l := by
  refine ⟨h.num, fun y hy => (h.ok y hy).below hb, ?_⟩
  rcases h.cell with h0 | ⟨blk, off, e, hl, hc⟩
  · exact .inl h0
  · exact .inr ⟨blk, off, e, Nat.lt_of_lt_of_le hl hb.size, fun i y hi j v hj => (hb.cell (p := ⟨blk, off + i * 3 + j, none⟩) hl).trans (hc i y hi j v hj)⟩
/-- What is there behind some deeds, and what was when each part began. -/
def actsS (l : List Dd) : List (List Int × List Int) × List (List (List Int × List Int)) := l.foldl (fun p y => (stepL y.d y.k y.v p.1 p.2, stepD y.d p.1 p.2)) ([], [])
theorem actsS_snoc (l : List Dd) (y : Dd) : actsS (l ++ [y]) = (stepL y.d y.k y.v (actsS l).1 (actsS l).2, stepD y.d (actsS l).1 (actsS l).2) := by simp [actsS]
def FewD (l : List Dd) : Prop := l.length ≤ 40 ∧ ∀ y ∈ l, y.kn ≤ 30 ∧ y.vn ≤ 60
set_option maxRecDepth 10000 in
set_option maxHeartbeats 8000000 in
theorem after_any {X : World} {a : Option Addr} {len cap : Nat} {l : List Dd} (h : DdsIn X a len l) (hf : FewD l) :
    Calls Try.prog 16 #[.slice a len cap] X fun e w' => e = .returned (.pointer (some ⟨X.heap.size, 0, none⟩)) ∧ ∃ A, StD w' X.heap.size X.heap.size A (actsS l).1 (actsS l).2 len ∧ Below X.heap.size X w' := by
  obtain ⟨hl40, hall⟩ := hf
  have hnum := h.num
  have hlen' : (len : Int) ≤ 40 := by omega
  go_enter Try.func16, Try.ntmps16
  go_wp2_with (go_at_call 13; refine (stdNew X).mono ?_; rintro e w3 ⟨rfl, n3, hb3⟩)
  have hP := Pr.new (Below.refl X.heap.size X) n3 hb3
  clear hb3 n3
  generalize hs : X.heap.size = s at *
  have hs' : Hid (X.heap.size = s) := hs
  clear hs
  generalize w3.heap.size = m at *
  generalize w3.alloc (.cells #[.slice none 0 0, .slice none 0 0] 31) = w4 at *
  go_loopw [5] (fun iv Y => ∃ (i : Nat) (A B : Nat → Prop), i ≤ len ∧ iv = .int .i64 (i : Int) ∧ Pr X Y s m (actsS (l.take i)).1 (actsS (l.take i)).1 (actsS (l.take i)).2 (actsS (l.take i)).2 i i s m A B) (fun iv _ => len - (intOf iv).toNat)
  case atStart => exact ⟨0, _, _, by omega, rfl, hP⟩
  case round =>
    clear hP
    obtain ⟨i, A, B, hi, rfl, hP⟩ := hrel
    by_cases hlt : i < len
    · have hlt' : (i : Int) < (len : Int) := by omega
      have hil : i < l.length := by omega
      obtain ⟨blk, off, rfl, hbl, c0, c1, c2⟩ := dd_at h hP.below hil
      have hmem := List.getElem_mem hil
      have hD := hP.does (by omega) (by omega) (h.ok _ hmem) (hall _ hmem).1 (hall _ hmem).2
      have hsn : Hid (actsS (l.take (i + 1)) = (stepL l[i].d l[i].k l[i].v (actsS (l.take i)).1 (actsS (l.take i)).2, stepD l[i].d (actsS (l.take i)).1 (actsS (l.take i)).2)) := by unfold Hid; rw [List.take_succ_eq_append_getElem hil]; exact actsS_snoc _ _
      generalize l[i] = y at *
      generalize actsS (l.take i) = q at *
      go_wp2_with (go_at_call 14; refine hD.mono ?_; clear hD; rintro e w5 ⟨rfl, A5, B5, hP5, -⟩)
      all_goals go_roundw
      case rel => exact ⟨i + 1, A5, B5, by omega, by go_num, by rw [hsn.out]; exact hP5⟩
      case measure => (simp [intOf]; omega)
    · obtain rfl : i = len := by omega
      rw [List.take_of_length_le (by omega)] at hP
      go_wp2
      go_ret
      rw [hs'.out]
      exact ⟨rfl, A, hP.st, hs'.out ▸ hP.below⟩
/-- What one store leaves, as another sees it. -/
structure FrW (W W' : World) (A A' : Nat → Prop) : Prop where
  os : W'.os = W.os
  tape : W'.tape = W.tape
  output : W'.output = W.output
  size : W.heap.size ≤ W'.heap.size
  block : ∀ k, k < W.heap.size → ¬ A k → W'.heap[k]? = W.heap[k]?
  sub : ∀ k, A' k → A k ∨ W.heap.size ≤ k
theorem Fr.w {W W' : World} {A A' : Nat → Prop} (h : Fr W W' A A') : FrW W W' A A' := ⟨h.os, h.tape, h.output, h.size, h.block, h.sub⟩
theorem FrW.out {w W W' : World} {A B : Nat → Prop} (h : Below w.heap.size w W) (k : FrW W W' A B) (hA : ∀ n, A n → w.heap.size ≤ n) : Below w.heap.size w W' :=
  ⟨k.os.trans h.os, k.tape.trans h.tape, k.output.trans h.output, Nat.le_trans h.size k.size, fun n hn => (k.block n (Nat.lt_of_lt_of_le hn h.size) (fun e => by have := hA n e; omega)).trans (h.block n hn)⟩
theorem FrW.below {W W' : World} {A : Nat → Prop} (h : Below W.heap.size W W') : FrW W W' A A := ⟨h.os, h.tape, h.output, h.size, fun k hk _ => h.block k hk, fun _ h => .inl h⟩
theorem FrW.trans {U V W : World} {A B C : Nat → Prop} (h : FrW U V A B) (k : FrW V W B C) : FrW U W A C := by
  have s1 := h.size
  refine ⟨k.os.trans h.os, k.tape.trans h.tape, k.output.trans h.output, Nat.le_trans h.size k.size, fun n hn nA => (k.block n (by omega) (fun h1 => ?_)).trans (h.block n hn nA), fun n hn => ?_⟩
  · rcases h.sub n h1 with h2 | h2
    · exact nA h2
    · omega
  · rcases k.sub n hn with h2 | h2
    · exact h.sub n h2
    · exact .inr (by omega)
/-- A deed's three cells, where the list isn't the store's. -/
theorem dd_w {w X : World} {A A' : Nat → Prop} {a : Option Addr} {len : Nat} {l : List Dd} (h : DdsIn w a len l) (hX : FrW w X A A') (hna : ∀ ad, a = some ad → ¬ A ad.block) {i : Nat} (hi : i < l.length) : ∃ blk off, a = some ⟨blk, off, none⟩ ∧ blk < X.heap.size ∧ X.cell? ⟨blk, off + i * 3, none⟩ = some (.int .u8 l[i].d) ∧ X.cell? ⟨blk, off + i * 3 + 1, none⟩ = some (.slice l[i].ka l[i].kn l[i].kc) ∧ X.cell? ⟨blk, off + i * 3 + 2, none⟩ = some (.slice l[i].va l[i].vn l[i].vc) := by
  obtain ⟨blk, off, rfl, hb, c0, c1, c2⟩ := dd_at h (Below.refl _ _) hi
  have hbl := hX.block blk hb (hna _ rfl)
  exact ⟨blk, off, rfl, Nat.lt_of_lt_of_le hb hX.size, (World.cell?_of_block (w := w) (a := ⟨blk, _, none⟩) hbl).trans c0, (World.cell?_of_block (w := w) (a := ⟨blk, _, none⟩) hbl).trans c1, (World.cell?_of_block (w := w) (a := ⟨blk, _, none⟩) hbl).trans c2⟩
/-- Another store is as it was, and has still nothing in common with it. -/
theorem FrW.other {W W' : World} {A A' B : Nat → Prop} {t base : Nat} {L : List (List Int × List Int)} {ds : List (List (List Int × List Int))} {n : Nat} (k : FrW W W' A A') (h : StD W t base B L ds n) (hd : ∀ x, A x → ¬ B x) : StD W' t base B L ds n ∧ ∀ x, A' x → ¬ B x := by
  refine ⟨h.kept (fun x hx => k.block x (h.foot x hx).2 (fun ha => hd x ha hx)) k.size, fun x ha hb => ?_⟩
  rcases k.sub x ha with h1 | h1
  · exact hd x h1 hb
  · have := (h.foot x hb).2; omega
theorem does1 {w X : World} {s base n : Nat} {A : Nat → Prop} {L : List (List Int × List Int)} {ds : List (List (List Int × List Int))} (h : StD X s base A L ds n) (hn : n ≤ 1000) (hw : Below w.heap.size w X) (hlo : w.heap.size ≤ base) {y : Dd} (hy : DdIn w y) (hk : y.kn ≤ 30) (hv : y.vn ≤ 60) :
    Calls Try.prog 14 #[.pointer (some ⟨s, 0, none⟩), .pointer (some ⟨X.heap.size, 0, none⟩), .agg #[.int .u8 y.d, .slice y.ka y.kn y.kc, .slice y.va y.vn y.vc]] (X.alloc (.cells #[.slice none 0 0, .slice none 0 0] 31)) fun e w' => (∃ bb, e = .returned (.bool bb)) ∧ ∃ A', StD w' s base A' (stepL y.d y.k y.v L ds) (stepD y.d L ds) (n + 1) ∧ FrW X w' A A' := by
  have hb : Below X.heap.size X (X.alloc (.cells #[.slice none 0 0, .slice none 0 0] 31)) := ba (Below.refl _ _) _
  obtain ⟨hd, -, -, h1, h2⟩ := hy
  obtain ⟨-, hk2⟩ := h1 (by omega)
  obtain ⟨-, hv2⟩ := h2 (by omega)
  refine (does_any (h.below hb) (rdNew X) (fun k hk e => by have e' : k = X.heap.size := e; have := (h.foot k hk).2; omega) hn (by omega) (bt hw hb) hlo hb.size hd hk2 hv2).mono ?_
  rintro e w' ⟨rfl, A', B', g1, g2, g3⟩
  have sz := hb.size
  refine ⟨⟨_, rfl⟩, A', g1, g3.os.trans hb.os, g3.tape.trans hb.tape, g3.output.trans hb.output, Nat.le_trans sz g3.size, fun k hk nA => (g3.block k (by omega) nA (fun e => by have e' : k = X.heap.size := e; omega)).trans (hb.block k hk), fun k hk => (g3.suba k hk).imp id (fun e => by omega)⟩
theorem act_info : (Try.prog.info? 35).map (fun i => (i.zero, i.size, i.bytes)) = some (some (.agg #[.int .u8 0, .slice none 0 0, .slice none 0 0]), 3, 56) := by kernel_rfl
def cellsD (l : List Dd) : List Value := l.flatMap ddV
theorem cellsD_at : ∀ (l : List Dd) (i : Nat) (y : Dd), l[i]? = some y → ∀ j v, (ddV y)[j]? = some v → (cellsD l)[i * 3 + j]? = some v
  | [], i, y, h => by simp at h
  | z :: l, 0, y, h => by
    simp at h; subst h
    intro j v hj
    have hj3 : j < 3 := (List.getElem?_eq_some_iff.1 hj).1
    show (ddV z ++ cellsD l)[0 * 3 + j]? = _
    rw [Nat.zero_mul, Nat.zero_add, List.getElem?_append_left (by exact hj3)]
    exact hj
  | z :: l, i + 1, y, h => by
    intro j v hj
    have ih := cellsD_at l i y (by simpa using h) j v hj
    show (ddV z ++ cellsD l)[(i + 1) * 3 + j]? = _
    rw [List.getElem?_append_right (by show 3 ≤ _; omega)]
    have : (i + 1) * 3 + j - (ddV z).length = i * 3 + j := by show (i + 1) * 3 + j - 3 = _; omega
    rw [this]; exact ih
theorem dds_of {W : World} {base : Nat} {a : Option Addr} {c : Nat} {l : List Dd} (h : W.ownsRow base 35 3 (.slice a l.length c) l.length (cellsD l)) (hok : ∀ y ∈ l, DdIn W y) : DdsIn W a l.length l := by
  refine ⟨rfl, hok, ?_⟩
  rcases h.2 with ⟨_, h0⟩ | ⟨g, cap, cur, e, h1, h2, h3⟩
  · exact .inl h0
  · simp at e
    obtain ⟨rfl, rfl⟩ := e
    refine .inr ⟨g, 0, rfl, (Array.getElem?_eq_some_iff.1 h2).1, fun i y hi j v hj => ?_⟩
    have c1 := h.cells (g := g) rfl _ _ (cellsD_at l i y hi j v hj)
    rw [add_cell] at c1
    rw [Nat.zero_add] at c1 ⊢
    exact c1
/-- A deed that ends no part. -/
def isP (y : Dd) : Bool := decide (y.d % 8 < 4)
set_option maxRecDepth 10000 in
set_option maxHeartbeats 8000000 in
theorem plain_any {X : World} {a : Option Addr} {len cap : Nat} {l : List Dd} (h : DdsIn X a len l) (hf : l.length ≤ 40) :
    Calls Try.prog 30 #[.slice a len cap] X fun e w' => ∃ av cv, e = .returned (.slice av (l.filter isP).length cv) ∧ DdsIn w' av (l.filter isP).length (l.filter isP) ∧ (∀ ad, av = some ad → X.heap.size ≤ ad.block) ∧ Below X.heap.size X w' := by
  obtain ⟨i0, hi0, hz0, hz1, hz2⟩ := act_info |> info_parts
  have hnum := h.num
  have hlen' : (len : Int) ≤ 40 := by omega
  go_enter Try.func30, Try.ntmps30
  go_wp2
  go_loopw [3, 4] (fun ov iv Y => ∃ (i : Nat) (ks : List Dd), i ≤ len ∧ iv = .int .i64 (i : Int) ∧ Y.ownsRow X.heap.size 35 3 ov ks.length (cellsD ks) ∧ ks.length ≤ i ∧ Hid (ks = (l.take i).filter isP) ∧ Below X.heap.size X Y) (fun _ iv _ => len - (intOf iv).toNat)
  case atStart => exact ⟨0, [], by omega, rfl, World.ownsRow_nil _ _ _ _, by simp, by unfold Hid; simp, Below.refl _ _⟩
  case round =>
    obtain ⟨i, ks, hi, rfl, hrow, hkl, hks, hX⟩ := hrel
    obtain ⟨ao, co, rfl⟩ := row_slice hrow
    have hsz := hX.size
    by_cases hlt : i < len
    · have hlt' : (i : Int) < (len : Int) := by omega
      have hil : i < l.length := by omega
      obtain ⟨blk, off, rfl, hbl, c0, c1, c2⟩ := dd_at h hX hil
      have hT : Hid ((l.take (i + 1)).filter isP = ks ++ if isP l[i] then [l[i]] else []) := by
        unfold Hid
        rw [List.take_succ_eq_append_getElem hil, List.filter_append, hks.out]
        congr 1
        cases hb : isP l[i] <;> simp [hb]
      have hd := (h.ok l[i] (List.getElem_mem hil)).1
      generalize l[i] = y at *
      clear hks
      have hdt : y.d.tmod 8 = y.d % 8 := Int.tmod_eq_emod_of_nonneg hd.1
      obtain ⟨q, hq⟩ : ∃ q, y.d % 8 = q := ⟨_, rfl⟩
      have hrr : y.d.tmod 8 = q := hdt.trans hq
      cases hb : isP y with
      | true =>
        have hq4 : q < 4 := by rw [← hq]; simpa [isP] using hb
        rw [hb, if_pos rfl] at hT
        have hT' : Hid (ks ++ [y] = (l.take (i + 1)).filter isP) := hT.out.symm
        clear hT hdt hq hb
        go_wp2_with (at_builtin; refine wpList_append_own_at _ rfl _ _ 22 rfl X.heap.size 35 i0 _ 3 56 Try.underlying22 hi0 hz0 hz1 hz2 rfl (by decide) _ ks.length (cellsD ks) rfl (none_row hrow (World.grownBy_alloc wr _ none)) ⟨wr.heap.size, 0, none⟩ 1 1 (ddV y) rfl rfl (fun j u hj => by rw [add_cell, (cells_of_block (World.alloc_heap_new wr _)).1]; simpa [ddV] using hj) (by simp [ddV, Value.oneCell']) (by unfold maxLen; omega) (by omega) (by simp; omega) ?_; intro v5 w5 hown5 hgr5 _ hat5)
        all_goals go_roundw
        case rel =>
          refine ⟨i + 1, ks ++ [y], by omega, by go_num, by rw [List.length_append, show cellsD (ks ++ [y]) = cellsD ks ++ ddV y by simp [cellsD]]; exact hown5, by simp; omega, hT', ?_⟩
          exact (hX.grown (World.grownBy_alloc wr _ none) hX.size (by simp)).grown hgr5 (Nat.le_trans hX.size (World.grownBy_alloc wr _ none).size) (fun n hn => (hrow.lt n hn).1)
        case measure => (simp [intOf]; omega)
      | false =>
        have hq4 : ¬ q < 4 := by rw [← hq]; simpa [isP] using hb
        rw [hb, if_neg (by simp), List.append_nil] at hT
        have hT' : Hid (ks = (l.take (i + 1)).filter isP) := hT.out.symm
        clear hT hdt hq hb
        go_wp2
        all_goals go_roundw
        case rel => exact ⟨i + 1, ks, by omega, by go_num, hrow, by omega, hT', hX⟩
        case measure => (simp [intOf]; omega)
    · obtain rfl : i = len := by omega
      go_wp2
      go_ret
      have e := hks.out
      rw [List.take_of_length_le (by omega)] at e
      rw [← e]
      exact ⟨_, _, rfl, dds_of hrow (fun y hy => (h.ok y (List.mem_filter.1 (e ▸ hy)).1).below hX), fun ad had => (hrow.lt ad.block (by rw [had]; rfl)).1, hX⟩
end Go.Proofs.Ythajolagpnakkaa
