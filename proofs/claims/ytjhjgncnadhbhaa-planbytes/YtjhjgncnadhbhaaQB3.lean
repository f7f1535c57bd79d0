
/- Several texts, one behind the other: O6, O7, O8, O9, O10, O11, O12, O13, O14. -/
import Derived.Test.YtjhjgncnadhbhaaQB2
import Derived.ScopeJumps
import Derived.Lib.SlBytesConst
import Derived.Laws.BytesArg
import Derived.Lib.Bytes
/- store: put, drop, Get. -/
set_option linter.unusedSimpArgs false
set_option linter.unusedVariables false
set_option maxRecDepth 20000
namespace Go.Proofs.Ytjhjgncnadhbhaa
open Go.RowKit

/-- Keys and values as the document has them. -/
def cont (r : List Rec) : List (List Int × List Int) := r.map fun x => (x.k, x.v)
def putS (l : List (List Int × List Int)) (k v : List Int) : List (List Int × List Int) := l.filter (fun x => decide (cmpB x.1 k < 0)) ++ (k, v) :: l.filter (fun x => decide (0 < cmpB x.1 k))
def dropS (l : List (List Int × List Int)) (k : List Int) : List (List Int × List Int) := l.filter (fun x => decide (cmpB x.1 k < 0)) ++ l.filter (fun x => decide (0 < cmpB x.1 k))
def getS (l : List (List Int × List Int)) (k : List Int) : Option (List Int) := (l.find? fun x => decide (cmpB x.1 k = 0)).map (·.2)
theorem cont_app (r q : List Rec) : cont (r ++ q) = cont r ++ cont q := by simp [cont]
theorem FindS.lo' {r : List Rec} {key : List Int} {i : Nat} {f : Bool} (h : FindS r key i f) : ∀ x ∈ r.take i, cmpB x.k key < 0 := by
  intro x hx
  obtain ⟨k, hk, rfl⟩ := List.mem_iff_getElem.1 hx
  have hk' : k < i ∧ k < r.length := by rw [List.length_take] at hk; omega
  rw [List.getElem_take]
  exact h.lo k _ hk'.1 (List.getElem?_eq_getElem hk'.2)
theorem FindS.hi' {r : List Rec} {key : List Int} {i : Nat} {f : Bool} (h : FindS r key i f) : ∀ x ∈ r.drop i, 0 ≤ cmpB x.k key := by
  intro x hx
  obtain ⟨k, hk, rfl⟩ := List.mem_iff_getElem.1 hx
  rw [List.length_drop] at hk
  rw [List.getElem_drop]
  exact h.hi (i + k) _ (by omega) (List.getElem?_eq_getElem (by omega))
/-- It is there: behind it all are greater. -/
theorem FindS.yes {r : List Rec} {key : List Int} {i : Nat} (h : FindS r key i true) (hs : Srt r) : ∃ hi : i < r.length, r[i].k = key ∧ ∀ x ∈ r.drop (i + 1), 0 < cmpB x.k key := by
  obtain ⟨x, hx, hk⟩ := h.is.1 rfl
  obtain ⟨hi, rfl⟩ := List.getElem?_eq_some_iff.1 hx
  refine ⟨hi, hk, fun y hy => ?_⟩
  obtain ⟨k, hk2, rfl⟩ := List.mem_iff_getElem.1 hy
  rw [List.length_drop] at hk2
  rw [List.getElem_drop]
  have h1 := srt_at hs hx (List.getElem?_eq_getElem (show i + 1 + k < r.length by omega)) (by omega)
  rw [hk] at h1
  have := cmp_flip key r[i + 1 + k].k
  omega
theorem FindS.no {r : List Rec} {key : List Int} {i : Nat} (h : FindS r key i false) (hs : Srt r) : ∀ x ∈ r.drop i, 0 < cmpB x.k key := by
  intro x hx
  have h0 := h.hi' x hx
  rcases Int.lt_or_eq_of_le h0 with h1 | h1
  · exact h1
  · exfalso
    have hk := cmp_eq0 _ _ h1.symm
    obtain ⟨k, hkl, rfl⟩ := List.mem_iff_getElem.1 hx
    rw [List.length_drop] at hkl
    rw [List.getElem_drop] at hk
    have hne : ¬ ∃ x, r[i]? = some x ∧ x.k = key := fun e => by have := h.is.2 e; cases this
    cases k with
    | zero => exact hne ⟨_, List.getElem?_eq_getElem (by omega), hk⟩
    | succ k =>
      have h2 := srt_at hs (List.getElem?_eq_getElem (show i < r.length by omega)) (List.getElem?_eq_getElem (show i + (k + 1) < r.length by omega)) (by omega)
      rw [hk] at h2
      have := h.hi i _ (Nat.le_refl _) (List.getElem?_eq_getElem (show i < r.length by omega))
      omega
theorem filter_lo {r : List Rec} {key : List Int} {i : Nat} {f : Bool} (h : FindS r key i f) : (cont r).filter (fun x => decide (cmpB x.1 key < 0)) = cont (r.take i) := by
  conv => lhs; rw [← List.take_append_drop i r, cont_app, List.filter_append]
  rw [List.filter_eq_self.2, List.filter_eq_nil_iff.2, List.append_nil]
  · intro x hx
    obtain ⟨y, hy, rfl⟩ := List.mem_map.1 hx
    have := h.hi' y hy
    simp; omega
  · intro x hx
    obtain ⟨y, hy, rfl⟩ := List.mem_map.1 hx
    have := h.lo' y hy
    simpa using this
theorem filter_yes {r : List Rec} {key : List Int} {i : Nat} (h : FindS r key i true) (hs : Srt r) : (cont r).filter (fun x => decide (0 < cmpB x.1 key)) = cont (r.drop (i + 1)) := by
  obtain ⟨hi, hk, hgt⟩ := h.yes hs
  conv => lhs; rw [← List.take_append_drop i r, List.drop_eq_getElem_cons hi, cont_app, List.filter_append]
  rw [List.filter_eq_nil_iff.2, List.nil_append]
  · rw [show cont (r[i] :: r.drop (i + 1)) = (r[i].k, r[i].v) :: cont (r.drop (i + 1)) from rfl, List.filter_cons_of_neg (by simp [hk, cmp_self]), List.filter_eq_self.2]
    intro x hx
    obtain ⟨y, hy, rfl⟩ := List.mem_map.1 hx
    simpa using hgt y hy
  · intro x hx
    obtain ⟨y, hy, rfl⟩ := List.mem_map.1 hx
    have := h.lo' y hy
    simp; omega
theorem filter_no {r : List Rec} {key : List Int} {i : Nat} (h : FindS r key i false) (hs : Srt r) : (cont r).filter (fun x => decide (0 < cmpB x.1 key)) = cont (r.drop i) := by
  have hgt := h.no hs
  conv => lhs; rw [← List.take_append_drop i r, cont_app, List.filter_append]
  rw [List.filter_eq_nil_iff.2, List.nil_append, List.filter_eq_self.2]
  · intro x hx
    obtain ⟨y, hy, rfl⟩ := List.mem_map.1 hx
    simpa using hgt y hy
  · intro x hx
    obtain ⟨y, hy, rfl⟩ := List.mem_map.1 hx
    have := h.lo' y hy
    simp; omega
theorem get_yes {r : List Rec} {key : List Int} {i : Nat} (h : FindS r key i true) (hs : Srt r) (hi : i < r.length) : getS (cont r) key = some r[i].v := by
  obtain ⟨_, hk, hgt⟩ := h.yes hs
  unfold getS
  conv => lhs; rw [← List.take_append_drop i r, List.drop_eq_getElem_cons hi, cont_app, List.find?_append]
  rw [List.find?_eq_none.2, Option.none_or]
  · rw [show cont (r[i] :: r.drop (i + 1)) = (r[i].k, r[i].v) :: cont (r.drop (i + 1)) from rfl, List.find?_cons_of_pos (by simp [hk, cmp_self])]
    rfl
  · intro x hx
    obtain ⟨y, hy, rfl⟩ := List.mem_map.1 hx
    have := h.lo' y hy
    simp; omega
theorem get_no {r : List Rec} {key : List Int} {i : Nat} (h : FindS r key i false) (hs : Srt r) : getS (cont r) key = none := by
  have hgt := h.no hs
  unfold getS
  rw [List.find?_eq_none.2]
  · rfl
  · intro x hx
    obtain ⟨y, hy, rfl⟩ := List.mem_map.1 hx
    rw [← List.take_append_drop i r] at hy
    rcases List.mem_append.1 hy with hy | hy
    · have := h.lo' y hy; simp; omega
    · have := hgt y hy; simp; omega
/-- Between those that are less and those that are greater. -/
theorem srt_mid {a c : List Rec} {x : Rec} (ha : Srt a) (hc : Srt c) (h1 : ∀ y ∈ a, cmpB y.k x.k < 0) (h2 : ∀ y ∈ c, 0 < cmpB y.k x.k) : Srt (a ++ x :: c) := by
  refine List.pairwise_append.2 ⟨ha, List.pairwise_cons.2 ⟨fun y hy => ?_, hc⟩, fun y hy z hz => ?_⟩
  · have := h2 y hy; have := cmp_flip y.k x.k; omega
  · rcases List.mem_cons.1 hz with rfl | hz
    · exact h1 y hy
    · refine cmp_trans _ _ _ (h1 y hy) ?_
      have := h2 z hz; have := cmp_flip z.k x.k; omega
theorem srt_cut {r : List Rec} (h : Srt r) (i n : Nat) : Srt (r.take i ++ r.drop (i + n)) := by
  have e : (r.take i ++ r.drop (i + n)).Sublist r := by
    conv => rhs; rw [← List.take_append_drop i r]
    refine List.Sublist.append_left ?_ _
    rw [← List.drop_drop]
    exact List.drop_sublist _ _
  exact h.sublist e
theorem cellsR_set (r : List Rec) (i : Nat) (x y : Rec) (hi : r[i]? = some x) (hy : y.kv = x.kv) : (cellsR r).set (i * 2 + 1) y.vv = cellsR (r.set i y) := by
  induction r generalizing i with
  | nil => simp at hi
  | cons z r ih =>
    cases i with
    | zero => simp at hi; subst hi; simp [cellsR, hy]
    | succ i =>
      have := ih i (by simpa using hi)
      rw [show (i + 1) * 2 + 1 = i * 2 + 1 + 1 + 1 by omega]
      simp only [cellsR, List.flatMap_cons, List.cons_append, List.nil_append, List.set_cons_succ] at this ⊢
      rw [this]
theorem fresh_ne {W : World} {base : Nat} {e : TypeId} {size n : Nat} {v : Value} {xs : List Value} (h : W.ownsRow base e size v n xs) : v.ownBlock ≠ some W.heap.size := fun e => by have := (h.lt _ e).2; omega
section
variable {W : World} {s base : Nat} {A : Nat → Prop} {vp vj vb : Value} {r : List Rec} {j : List Was} {b : List Nat}
end
end Go.Proofs.Ytjhjgncnadhbhaa

/- store: what was is noted. -/
namespace Go.Proofs.Ytjhjgncnadhbhaa
open Go.RowKit

theorem int_info : (Try.prog.info? 3).map (fun i => (i.zero, i.size, i.bytes)) = some (some (.int .i64 0), 1, 8) := by kernel_rfl
/-- What a key was. -/
def WasS (x : Was) (l : List (List Int × List Int)) (key : List Int) : Prop := x.k = key ∧ ((x.there = true ∧ getS l key = some x.v) ∨ (x.there = false ∧ getS l key = none))
theorem cellsJ_app (j q : List Was) : cellsJ (j ++ q) = cellsJ j ++ cellsJ q := by simp [cellsJ]
section
variable {W : World} {s base : Nat} {A : Nat → Prop} {vp vj vb : Value} {r : List Rec} {j : List Was} {b : List Nat}
/-- Bytes that were made are the store's own. -/
theorem Own.inA {W : World} {A : Nat → Prop} {g : Nat} {v : Value} {q : List Int} (h : Own W g v q) (hA : A g) (hb : Byte q) (hl : q.length ≤ 1048576) : InA W A v q := ⟨⟨g, hA, h⟩, hb, hl⟩
/-- What is noted: nothing, if no part is begun. -/
def JS (l : List (List Int × List Int)) (k : List Int) (j j' : List Was) (b : List Nat) : Prop := (b = [] ∧ j' = j) ∨ (b ≠ [] ∧ ∃ x, WasS x l k ∧ j' = j ++ [x])
end
end Go.Proofs.Ytjhjgncnadhbhaa

/- store: Set, Delete, Begin, Commit. -/
namespace Go.Proofs.Ytjhjgncnadhbhaa
open Go.RowKit

section
variable {W : World} {s base : Nat} {A : Nat → Prop} {vp vj vb : Value} {r : List Rec} {j : List Was} {b : List Nat}
/-- What is handed in stays as it is, if it isn't the store's. -/
theorem Src.fr {W W' : World} {A A' : Nat → Prop} {u : Value} {q : List Int} (h : Src W u q) (hf : Fr W W' A A') (ho : ∀ g, u.ownBlock = some g → ¬ A g) : Src W' u q := by
  rcases h with h | ⟨ad, cap, e, hc⟩
  · exact .inl h
  · refine .inr ⟨ad, cap, e, fun i x hi => ?_⟩
    have h1 := hc i x hi
    have hbl : (ad.add i).block = ad.block := by unfold Addr.add; split <;> rfl
    have hlt : ad.block < W.heap.size := by
      rcases Nat.lt_or_ge ad.block W.heap.size with h | h
      · exact h
      · rw [World.cell?, hbl, Array.getElem?_eq_none h] at h1; simp at h1
    exact (World.cell?_of_block (a := ad.add i) (by rw [hbl]; exact hf.block _ hlt (ho _ (by rw [e]; rfl)))).trans h1
end
end Go.Proofs.Ytjhjgncnadhbhaa

/- store: Begin, over, Commit, undo. -/
namespace Go.Proofs.Ytjhjgncnadhbhaa
open Go.RowKit

theorem row_cut {W : World} {base : Nat} {e : TypeId} {size n m g cap : Nat} {xs : List Value} (h : W.ownsRow base e size (.slice (some ⟨g, 0, none⟩) n cap) n xs) (hm : m ≤ n) : W.ownsRow base e size (.slice (some ⟨g, 0, none⟩) m cap) m (xs.take (m * size)) := by
  have hms := Nat.mul_le_mul_right size hm
  rcases h.2 with ⟨e, _⟩ | ⟨g', cap', cur, e, h1, h2, h3, h4, h5, h6⟩
  · simp at e
  · simp at e
    obtain ⟨rfl, rfl⟩ := e
    refine ⟨by rw [List.length_take, h.1]; omega, .inr ⟨g, cap, cur, rfl, h1, h2, by omega, h4, h5, ?_⟩⟩
    rw [← h6, List.take_take]; congr 1; omega
theorem cellsI_app (a b : List Nat) : cellsI (a ++ b) = cellsI a ++ cellsI b := by simp [cellsI]
theorem cellsI_len (a : List Nat) : (cellsI a).length = a.length := by simp [cellsI]
section
variable {W : World} {s base : Nat} {A : Nat → Prop} {vp vj vb : Value} {r : List Rec} {j : List Was} {b : List Nat}
end
end Go.Proofs.Ytjhjgncnadhbhaa

/- store: Commit, undo, Rollback. -/
namespace Go.Proofs.Ytjhjgncnadhbhaa
open Go.RowKit

/-- A scope with jumps back to one label: what is behind the label is walked once. -/
theorem wp_scope_jumps2 {P : Program} {a : Act} {w : World} {Q : Exit → Act → World → Prop} {c rest : Code} (l : Nat) (J : Act → World → Prop) (μ : Act → World → Nat) (hf : findLabel c l = some rest)
    (pass : ∀ a w, J a w → rest.wp P (Exit.jump l (fun a' w' => J a' w' ∧ μ a' w' < μ a w) Q) a w)
    (first : (∀ a w, J a w → rest.wp P (Exit.jump l J Q) a w) → c.wp P (Exit.jump l J Q) a w) : (Code.scope c).wp P Q a w := by
  refine wp_scope_jumps l J μ hf (first fun a w hJ => Code.wp_mono ?_ (pass a w hJ)) pass
  intro e a' w' h
  cases e with
  | goto l' => exact ⟨h.1, h.2.1⟩
  | _ => exact h

/-- With no part begun any more nothing is noted. -/
def keepJ (b : List Nat) (j : List Was) : List Was := if b = [] then [] else j
theorem cellsJ_len (j : List Was) : (cellsJ j).length = j.length * 3 := by
  induction j with
  | nil => rfl
  | cons x j ih => rw [cellsJ, List.flatMap_cons, List.length_append, ← cellsJ, ih, List.length_cons]; simp; omega
theorem cellsJ_last (j : List Was) (x : Was) : (cellsJ (j ++ [x]))[j.length * 3]? = some x.kv ∧ (cellsJ (j ++ [x]))[j.length * 3 + 1]? = some x.vv ∧ (cellsJ (j ++ [x]))[j.length * 3 + 2]? = some (.bool x.there) := by
  have hl := cellsJ_len j
  rw [cellsJ_app]
  refine ⟨?_, ?_, ?_⟩ <;> rw [List.getElem?_append_right (by omega)]
  · rw [show j.length * 3 - (cellsJ j).length = 0 by omega]; rfl
  · rw [show j.length * 3 + 1 - (cellsJ j).length = 1 by omega]; rfl
  · rw [show j.length * 3 + 2 - (cellsJ j).length = 2 by omega]; rfl
def undoS (l : List (List Int × List Int)) (x : Was) : List (List Int × List Int) := if x.there then putS l x.k x.v else dropS l x.k
/-- All that was noted since is undone, the last first. -/
def rollS (l : List (List Int × List Int)) (j : List Was) : List (List Int × List Int) := j.foldr (fun x l => undoS l x) l
theorem rollS_snoc (l : List (List Int × List Int)) (j : List Was) (x : Was) : rollS l (j ++ [x]) = rollS (undoS l x) j := by simp [rollS]
section
variable {W : World} {s base : Nat} {A : Nat → Prop} {vp vj vb : Value} {r : List Rec} {j : List Was} {b : List Nat}
end
end Go.Proofs.Ytjhjgncnadhbhaa

/- jointurelaw05.rolls: the document's example. -/
namespace Go.Proofs.Ytjhjgncnadhbhaa
open Go.RowKit

theorem cvA (W : World) (x : Int) : (convert 42 42 (.slice (some ⟨W.heap.size, 0, none⟩) 1 1)).run Try.prog (W.alloc (.cells #[.int .u8 x] 5)) = .ok (.slice (some ⟨W.heap.size, 0, none⟩) 1 1) (W.alloc (.cells #[.int .u8 x] 5 (1, 2))) :=
  Lib.run_convert_bytes_const W 42 5 #[.int .u8 x] 1 1 Try.underlying42 Try.underlying5
theorem cvB (W : World) (x y : Int) : (convert 42 42 (.slice (some ⟨W.heap.size + 1, 0, none⟩) 1 1)).run Try.prog ((W.alloc (.cells #[.int .u8 x] 5 (1, 2))).alloc (.cells #[.int .u8 y] 5)) = .ok (.slice (some ⟨W.heap.size + 1, 0, none⟩) 1 1) ((W.alloc (.cells #[.int .u8 x] 5 (1, 2))).alloc (.cells #[.int .u8 y] 5 (1, 2))) := by
  have := Lib.run_convert_bytes_const (P := Try.prog) (W.alloc (.cells #[.int .u8 x] 5 (1, 2))) 42 5 #[.int .u8 y] 1 1 Try.underlying42 Try.underlying5
  rw [show (W.alloc (.cells #[.int .u8 x] 5 (1, 2))).heap.size = W.heap.size + 1 by simp] at this
  exact this
theorem src_mark (W : World) (x : Int) {n : Nat} (hn : n = W.heap.size) : Src (W.alloc (.cells #[.int .u8 x] 5 (1, 2))) (.slice (some ⟨n, 0, none⟩) 1 1) [x] := by
  subst hn
  refine .inr ⟨⟨_, 0, none⟩, 1, rfl, fun i y hi => ?_⟩
  rw [add_cell]
  have hb : (W.alloc (.cells #[.int .u8 x] 5 (1, 2))).heap[W.heap.size]? = some (.cells #[.int .u8 x] 5 (1, 2)) := al_at rfl
  cases i with
  | zero => simp at hi; subst hi; unfold World.cell?; simp only [hb]; rfl
  | succ i => simp at hi
section
variable {W : World} {s base : Nat} {A : Nat → Prop} {vp vj vb : Value} {r : List Rec} {j : List Was} {b : List Nat}
theorem byte1 {x : Int} (h : 0 ≤ x ∧ x ≤ 255) : Byte [x] := by intro y hy; rw [List.mem_singleton] at hy; subst hy; exact h
end
theorem str49 {X : World} {g : Nat} {v : Value} (h : Own X g v [49]) : (convert 42 9 v).run Try.prog X = .ok (.string ⟨#[49]⟩) X := by
  obtain ⟨rfl, hb⟩ := h
  have := run_convert_bytes_arg (P := Try.prog) X 42 5 Try.underlying42 Try.underlying5 g 0 1 1 [49] rfl (fun i hi => by
    obtain rfl : i = 0 := by omega
    rw [(cells_of_block hb).1]; rfl) 9 Try.underlying9
  exact this
/-- The example's journal: a was 1, then 2. -/
theorem ex_roll {x y : Was} (hx : WasS x [([97], [49])] [97]) (hy : WasS y [([97], [50])] [97]) : rollS [] ([x] ++ [y]) = [([97], [49])] := by
  obtain ⟨k1, t1⟩ := hx
  obtain ⟨k2, t2⟩ := hy
  have g1 : getS [([97], [49])] [97] = some [49] := by decide
  have g2 : getS [([97], [50])] [97] = some [50] := by decide
  rw [g1] at t1
  rw [g2] at t2
  have a1 : x.there = true ∧ x.v = [49] := by
    rcases t1 with ⟨t, e⟩ | ⟨_, e⟩
    · simp at e; exact ⟨t, e.symm⟩
    · cases e
  have a2 : y.there = true ∧ y.v = [50] := by
    rcases t2 with ⟨t, e⟩ | ⟨_, e⟩
    · simp at e; exact ⟨t, e.symm⟩
    · cases e
  rw [rollS_snoc]
  simp only [rollS, List.foldr, undoS, a1.1, a2.1, if_true, k1, k2, a1.2, a2.2]
  decide
end Go.Proofs.Ytjhjgncnadhbhaa

/- store: of nothing; are two alike that have nothing? -/
namespace Go.Proofs.Ytjhjgncnadhbhaa
open Go.RowKit

section
variable {W : World} {s base : Nat} {A : Nat → Prop} {vp vj vb : Value} {r : List Rec} {j : List Was} {b : List Nat}
end
end Go.Proofs.Ytjhjgncnadhbhaa

/- store: bytes that begin so; Keys. -/
namespace Go.Proofs.Ytjhjgncnadhbhaa
open Go.RowKit

theorem bytesOf_inj : ∀ (p q : List Int), Byte p → Byte q → Lib.bytesOf p = Lib.bytesOf q → p = q
  | [], [], _, _, _ => rfl
  | [], _ :: _, _, _, h => by simp [Lib.bytesOf] at h
  | _ :: _, [], _, _, h => by simp [Lib.bytesOf] at h
  | a :: p, b :: q, hp, hq, h => by
    have ha := hp a (by simp)
    have hb := hq b (by simp)
    simp only [Lib.bytesOf, List.map_cons, List.cons.injEq] at h
    have ih := bytesOf_inj p q (fun x hx => hp x (by simp [hx])) (fun x hx => hq x (by simp [hx])) h.2
    have h2 := congrArg UInt8.toNat h.1
    simp only [UInt8.toNat_ofNat'] at h2
    rw [ih, show a = b by omega]
theorem conv_src {W : World} {u : Value} {p : List Int} (h : Src W u p) (hp : Byte p) : ∃ s : ByteArray, (convert 42 9 u).run Try.prog W = .ok (.string s) W ∧ s.toList = Lib.bytesOf p := by
  rcases h with ⟨rfl, rfl⟩ | ⟨ad, cap, rfl, hc⟩
  · refine ⟨_, run_convert_bytes_nil (P := Try.prog) W 42 5 Try.underlying42 Try.underlying5 0 0 9 Try.underlying9, ?_⟩
    rw [Lib.toList_data]; rfl
  · have h1 := run_convert_bytes_back (P := Try.prog) W 42 9 5 ad cap (Lib.bytesOf p) Try.underlying42 Try.underlying5 Try.underlying9 (fun j hj => by
      have hj' : j < p.length := by simpa [Lib.bytesOf] using hj
      have hx := hp p[j] (List.getElem_mem hj')
      rw [hc j p[j] (List.getElem?_eq_getElem hj')]
      simp only [Lib.bytesOf, List.getElem_map, UInt8.toNat_ofNat']
      congr 2
      omega)
    rw [show (Lib.bytesOf p).length = p.length by simp [Lib.bytesOf]] at h1
    exact ⟨_, h1, by rw [Lib.toList_data]⟩
/-- Does a key begin so? -/
def begs (k p : List Int) : Bool := decide (p.length ≤ k.length) && decide (k.take p.length = p)
/-- A list of keys, each in a block of its own. -/
structure KeysAt (W : World) (base : Nat) (v : Value) (ks : List (Value × List Int)) : Prop where
  row : W.ownsRow base 42 1 v ks.length (ks.map (·.1))
  own : ∀ x ∈ ks, ∃ g, base ≤ g ∧ Own W g x.1 x.2
theorem KeysAt.below {W W' : World} {base : Nat} {v : Value} {ks : List (Value × List Int)} (h : KeysAt W base v ks) (hb : Below W.heap.size W W') : KeysAt W' base v ks :=
  ⟨none_row h.row (grown_none hb), fun x hx => by obtain ⟨g, h1, h2⟩ := h.own x hx; exact ⟨g, h1, h2.kept (hb.block g h2.lt)⟩⟩
theorem bs_info : (Try.prog.info? 42).map (fun i => (i.zero, i.size, i.bytes)) = some (some (.slice none 0 0), 1, 24) := by kernel_rfl
/-- The keys that begin so, from a place on, up to the first that doesn't. -/
def runS (r : List Rec) (p : List Int) : List (List Int) := (r.takeWhile fun x => begs x.k p).map (·.k)
theorem runS_stop {r : List Rec} {p : List Int} {m : Nat} (h1 : ∀ x ∈ r.take m, begs x.k p = true) (h2 : m = r.length ∨ ∃ h : m < r.length, begs r[m].k p = false) : runS r p = (r.take m).map (·.k) := by
  unfold runS
  congr 1
  conv => lhs; rw [← List.take_append_drop m r]
  rw [List.takeWhile_append_of_pos h1]
  rcases h2 with h2 | ⟨h, h2⟩
  · rw [List.drop_of_length_le (by omega)]; simp
  · rw [List.drop_eq_getElem_cons h, List.takeWhile_cons_of_neg (by simp [h2])]; simp
end Go.Proofs.Ytjhjgncnadhbhaa

/- store: what is undone is as it was; plain facts. -/
namespace Go.Proofs.Ytjhjgncnadhbhaa

/-- Rising by their keys. -/
def SrtC (l : List (List Int × List Int)) : Prop := l.Pairwise fun x y => cmpB x.1 y.1 < 0
theorem srt_cont {r : List Rec} (h : Srt r) : SrtC (cont r) := by
  unfold SrtC cont
  rw [List.pairwise_map]
  exact h
theorem srt_tail {y : Rec} {l : List Rec} (h : Srt (y :: l)) : Srt l ∧ ∀ z ∈ l, cmpB y.k z.k < 0 := ⟨(List.pairwise_cons.1 h).2, (List.pairwise_cons.1 h).1⟩
theorem cmp_pos {p q : List Int} (h : cmpB p q < 0) : 0 < cmpB q p := by have := cmp_flip p q; omega
theorem cmp_neg {p q : List Int} (h : 0 < cmpB q p) : cmpB p q < 0 := by have := cmp_flip p q; omega
/-- A sorted list is what is less than a key, the key (if it is there), and what is greater. -/
theorem split_srt {l : List (List Int × List Int)} (h : SrtC l) (k : List Int) : ∃ a c, (∀ x ∈ a, cmpB x.1 k < 0) ∧ (∀ x ∈ c, 0 < cmpB x.1 k) ∧ ((getS l k = none ∧ l = a ++ c) ∨ ∃ v, getS l k = some v ∧ l = a ++ (k, v) :: c) := by
  induction l with
  | nil => exact ⟨[], [], by simp, by simp, .inl ⟨rfl, rfl⟩⟩
  | cons y l ih =>
    obtain ⟨h1, h2⟩ := List.pairwise_cons.1 h
    rcases Int.lt_trichotomy (cmpB y.1 k) 0 with hc | hc | hc
    · obtain ⟨a, c, ha, hcc, he⟩ := ih h2
      have hg : getS (y :: l) k = getS l k := by unfold getS; rw [List.find?_cons_of_neg (by simp; omega)]
      refine ⟨y :: a, c, fun x hx => ?_, hcc, ?_⟩
      · rcases List.mem_cons.1 hx with rfl | hx
        · exact hc
        · exact ha x hx
      · rw [hg]
        rcases he with ⟨e1, e2⟩ | ⟨v, e1, e2⟩
        · exact .inl ⟨e1, by rw [e2]; rfl⟩
        · exact .inr ⟨v, e1, by rw [e2]; rfl⟩
    · have hk := cmp_eq0 _ _ hc
      refine ⟨[], l, by simp, fun x hx => ?_, .inr ⟨y.2, ?_, ?_⟩⟩
      · have := h1 x hx; rw [hk] at this; exact cmp_pos this
      · unfold getS; rw [List.find?_cons_of_pos (by simp [hc])]; rfl
      · rw [← hk]; rfl
    · have hgt : ∀ x ∈ l, 0 < cmpB x.1 k := fun x hx => by
        have := h1 x hx
        exact cmp_pos (cmp_trans _ _ _ (cmp_neg hc) this)
      refine ⟨[], y :: l, by simp, fun x hx => ?_, .inl ⟨?_, rfl⟩⟩
      · rcases List.mem_cons.1 hx with rfl | hx
        · exact hc
        · exact hgt x hx
      · unfold getS
        rw [List.find?_eq_none.2]
        · rfl
        · intro x hx
          rcases List.mem_cons.1 hx with rfl | hx
          · simp; omega
          · have := hgt x hx; simp; omega
section
variable {a c : List (List Int × List Int)} {k : List Int}
theorem fl_lo (ha : ∀ x ∈ a, cmpB x.1 k < 0) : a.filter (fun x => decide (cmpB x.1 k < 0)) = a := List.filter_eq_self.2 (fun x hx => by simpa using ha x hx)
theorem fl_lo0 (hc : ∀ x ∈ c, 0 < cmpB x.1 k) : c.filter (fun x => decide (cmpB x.1 k < 0)) = [] := List.filter_eq_nil_iff.2 (fun x hx => by have := hc x hx; simp; omega)
theorem fl_hi (hc : ∀ x ∈ c, 0 < cmpB x.1 k) : c.filter (fun x => decide (0 < cmpB x.1 k)) = c := List.filter_eq_self.2 (fun x hx => by simpa using hc x hx)
theorem fl_hi0 (ha : ∀ x ∈ a, cmpB x.1 k < 0) : a.filter (fun x => decide (0 < cmpB x.1 k)) = [] := List.filter_eq_nil_iff.2 (fun x hx => by have := ha x hx; simp; omega)
theorem put_mid (v u : List Int) (ha : ∀ x ∈ a, cmpB x.1 k < 0) (hc : ∀ x ∈ c, 0 < cmpB x.1 k) : putS (a ++ (k, v) :: c) k u = a ++ (k, u) :: c := by
  unfold putS
  rw [List.filter_append, List.filter_append, fl_lo ha, fl_hi0 ha, List.filter_cons_of_neg (by simp [cmp_self]), List.filter_cons_of_neg (by simp [cmp_self]), fl_lo0 hc, fl_hi hc]
  simp
theorem put_new (u : List Int) (ha : ∀ x ∈ a, cmpB x.1 k < 0) (hc : ∀ x ∈ c, 0 < cmpB x.1 k) : putS (a ++ c) k u = a ++ (k, u) :: c := by
  unfold putS
  rw [List.filter_append, List.filter_append, fl_lo ha, fl_hi0 ha, fl_lo0 hc, fl_hi hc]
  simp
theorem drop_mid (v : List Int) (ha : ∀ x ∈ a, cmpB x.1 k < 0) (hc : ∀ x ∈ c, 0 < cmpB x.1 k) : dropS (a ++ (k, v) :: c) k = a ++ c := by
  unfold dropS
  rw [List.filter_append, List.filter_append, fl_lo ha, fl_hi0 ha, List.filter_cons_of_neg (by simp [cmp_self]), List.filter_cons_of_neg (by simp [cmp_self]), fl_lo0 hc, fl_hi hc]
  simp
theorem drop_new (ha : ∀ x ∈ a, cmpB x.1 k < 0) (hc : ∀ x ∈ c, 0 < cmpB x.1 k) : dropS (a ++ c) k = a ++ c := by
  unfold dropS
  rw [List.filter_append, List.filter_append, fl_lo ha, fl_hi0 ha, fl_lo0 hc, fl_hi hc]
  simp
end
/-- A change is undone by what was noted of it. -/
theorem undo_put {l : List (List Int × List Int)} (h : SrtC l) {k v : List Int} {x : Was} (hx : WasS x l k) : undoS (putS l k v) x = l := by
  obtain ⟨a, c, ha, hc, he⟩ := split_srt h k
  obtain ⟨hk, ht⟩ := hx
  unfold undoS
  rcases he with ⟨e1, e2⟩ | ⟨u, e1, e2⟩
  · rcases ht with ⟨_, e⟩ | ⟨t, _⟩
    · rw [e1] at e; cases e
    · rw [t, hk, e2, put_new v ha hc]; simp only [Bool.false_eq_true, if_false]; exact drop_mid v ha hc
  · rcases ht with ⟨t, e⟩ | ⟨_, e⟩
    · rw [e1] at e; simp at e; rw [t, hk, e2, put_mid u v ha hc, if_pos rfl, ← e]; exact put_mid v u ha hc
    · rw [e1] at e; cases e
theorem undo_drop {l : List (List Int × List Int)} (h : SrtC l) {k : List Int} {x : Was} (hx : WasS x l k) : undoS (dropS l k) x = l := by
  obtain ⟨a, c, ha, hc, he⟩ := split_srt h k
  obtain ⟨hk, ht⟩ := hx
  unfold undoS
  rcases he with ⟨e1, e2⟩ | ⟨u, e1, e2⟩
  · rcases ht with ⟨_, e⟩ | ⟨t, _⟩
    · rw [e1] at e; cases e
    · rw [t, hk, e2, drop_new ha hc]; simp only [Bool.false_eq_true, if_false]; exact drop_new ha hc
  · rcases ht with ⟨t, e⟩ | ⟨_, e⟩
    · rw [e1] at e; simp at e; rw [t, hk, e2, drop_mid u ha hc, if_pos rfl, ← e]; exact put_new u ha hc
    · rw [e1] at e; cases e
theorem drop_none {l : List (List Int × List Int)} (h : SrtC l) {k : List Int} (hg : getS l k = none) : dropS l k = l := by
  obtain ⟨a, c, ha, hc, he⟩ := split_srt h k
  rcases he with ⟨e1, e2⟩ | ⟨u, e1, e2⟩
  · rw [e2]; exact drop_new ha hc
  · rw [hg] at e1; cases e1
theorem srt_putS {l : List (List Int × List Int)} (h : SrtC l) (k v : List Int) : SrtC (putS l k v) := by
  obtain ⟨a, c, ha, hc, he⟩ := split_srt h k
  have key : ∀ a c : List (List Int × List Int), SrtC a → SrtC c → (∀ x ∈ a, cmpB x.1 k < 0) → (∀ x ∈ c, 0 < cmpB x.1 k) → SrtC (a ++ (k, v) :: c) := fun a c sa sc ha hc => by
    refine List.pairwise_append.2 ⟨sa, List.pairwise_cons.2 ⟨fun y hy => cmp_neg (hc y hy), sc⟩, fun y hy z hz => ?_⟩
    rcases List.mem_cons.1 hz with rfl | hz
    · exact ha y hy
    · exact cmp_trans _ _ _ (ha y hy) (cmp_neg (hc z hz))
  rcases he with ⟨e1, e2⟩ | ⟨u, e1, e2⟩
  · rw [e2, put_new v ha hc]
    rw [e2] at h
    obtain ⟨sa, sc, -⟩ := List.pairwise_append.1 h
    exact key a c sa sc ha hc
  · rw [e2, put_mid u v ha hc]
    rw [e2] at h
    obtain ⟨sa, sc, -⟩ := List.pairwise_append.1 h
    exact key a c sa (List.pairwise_cons.1 sc).2 ha hc
theorem rollS_app (l : List (List Int × List Int)) (a b : List Was) : rollS l (a ++ b) = rollS (rollS l b) a := by simp [rollS]

/-- A store's journal, against what its content was when each part began (the innermost last). -/
structure Jr (l : List (List Int × List Int)) (j : List Was) (b : List Nat) (was : List (List (List Int × List Int))) : Prop where
  len : b.length = was.length
  le : ∀ n ∈ b, n ≤ j.length
  up : b.Pairwise (· ≤ ·)
  snap : ∀ (i n : Nat) (x : List (List Int × List Int)), b[i]? = some n → was[i]? = some x → rollS l (j.drop n) = x
  noj : b = [] → j = []
  z0 : ∀ n : Nat, b[0]? = some n → n = 0
theorem Jr.start (l : List (List Int × List Int)) : Jr l [] [] [] := ⟨rfl, by simp, List.Pairwise.nil, by simp, fun _ => rfl, by simp⟩
/-- A change whose undoing gives what was. -/
theorem Jr.change {l l' : List (List Int × List Int)} {j : List Was} {b : List Nat} {was : List (List (List Int × List Int))} (h : Jr l j b was) (hb : b ≠ []) (x : Was) (hu : undoS l' x = l) : Jr l' (j ++ [x]) b was := by
  refine ⟨h.len, fun n hn => by have := h.le n hn; rw [List.length_append]; omega, h.up, fun i n y hn hy => ?_, fun e => absurd e hb, h.z0⟩
  have hnl := h.le n (List.mem_of_getElem? hn)
  rw [List.drop_append_of_le_length hnl, rollS_snoc, hu]
  exact h.snap i n y hn hy
/-- With no part begun. -/
theorem Jr.free {l l' : List (List Int × List Int)} {j : List Was} {was : List (List (List Int × List Int))} (h : Jr l j [] was) : Jr l' j [] was :=
  ⟨h.len, by simp, h.up, by simp, h.noj, by simp⟩
theorem Jr.beg {l : List (List Int × List Int)} {j : List Was} {b : List Nat} {was : List (List (List Int × List Int))} (h : Jr l j b was) : Jr l j (b ++ [j.length]) (was ++ [l]) := by
  refine ⟨by simp [h.len], fun n hn => ?_, List.pairwise_append.2 ⟨h.up, List.pairwise_singleton _ _, fun x hx y hy => by rw [List.mem_singleton] at hy; subst hy; exact h.le x hx⟩, fun i n y hn hy => ?_, fun e => by simp at e, fun n hn => ?_⟩
  · rcases List.mem_append.1 hn with hn | hn
    · exact h.le n hn
    · rw [List.mem_singleton] at hn; omega
  · by_cases hi : i < b.length
    · rw [List.getElem?_append_left hi] at hn
      rw [List.getElem?_append_left (by rw [← h.len]; exact hi)] at hy
      exact h.snap i n y hn hy
    · have hi2 : i = b.length := by
        have := (List.getElem?_eq_some_iff.1 hn).1
        simp at this; omega
      subst hi2
      rw [List.getElem?_append_right (Nat.le_refl _), Nat.sub_self] at hn
      rw [h.len, List.getElem?_append_right (Nat.le_refl _), Nat.sub_self] at hy
      simp at hn hy
      rw [← hn, ← hy, List.drop_length]; rfl
  · by_cases hb : b = []
    · subst hb; rw [h.noj rfl] at hn; simp at hn; omega
    · have hbl : 0 < b.length := by cases b with | nil => exact absurd rfl hb | cons _ _ => simp
      rw [List.getElem?_append_left hbl] at hn
      exact h.z0 n hn
theorem Jr.com {l : List (List Int × List Int)} {j : List Was} {b : List Nat} {n : Nat} {was : List (List (List Int × List Int))} {x : List (List Int × List Int)} (h : Jr l j (b ++ [n]) (was ++ [x])) : Jr l (keepJ b j) b was := by
  have hl : b.length = was.length := by have := h.len; simpa using this
  by_cases hb : b = []
  · subst hb
    obtain rfl : was = [] := List.eq_nil_of_length_eq_zero hl.symm
    exact ⟨rfl, by simp, List.Pairwise.nil, by simp, fun _ => by simp [keepJ], by simp⟩
  · rw [keepJ, if_neg hb]
    refine ⟨hl, fun m hm => h.le m (List.mem_append_left _ hm), (List.pairwise_append.1 h.up).1, fun i m y hm hy => ?_, fun e => absurd e hb, fun m hm => h.z0 m (by rw [List.getElem?_append_left (List.getElem?_eq_some_iff.1 hm).1]; exact hm)⟩
    exact h.snap i m y (by rw [List.getElem?_append_left (List.getElem?_eq_some_iff.1 hm).1]; exact hm) (by rw [List.getElem?_append_left (List.getElem?_eq_some_iff.1 hy).1]; exact hy)
/-- Rolled back: the content is what it was when the innermost part began. -/
theorem Jr.rol {l : List (List Int × List Int)} {j : List Was} {b : List Nat} {n : Nat} {was : List (List (List Int × List Int))} {x : List (List Int × List Int)} (h : Jr l j (b ++ [n]) (was ++ [x])) : rollS l (j.drop n) = x ∧ Jr x (j.take n) b was := by
  have hl : b.length = was.length := by have := h.len; simpa using this
  have hx : rollS l (j.drop n) = x := h.snap b.length n x (by simp) (by rw [hl]; simp)
  have hnj := h.le n (by simp)
  refine ⟨hx, hl, fun m hm => ?_, (List.pairwise_append.1 h.up).1, fun i m y hm hy => ?_, fun e => ?_, fun m hm => h.z0 m (by rw [List.getElem?_append_left (List.getElem?_eq_some_iff.1 hm).1]; exact hm)⟩
  · have := (List.pairwise_append.1 h.up).2.2 m hm n (by simp)
    rw [List.length_take]; omega
  · have hmn := (List.pairwise_append.1 h.up).2.2 m (List.mem_of_getElem? hm) n (by simp)
    have hs := h.snap i m y (by rw [List.getElem?_append_left (List.getElem?_eq_some_iff.1 hm).1]; exact hm) (by rw [List.getElem?_append_left (List.getElem?_eq_some_iff.1 hy).1]; exact hy)
    rw [← hs, ← hx, ← rollS_app]
    congr 1
    conv => rhs; rw [← List.take_append_drop n j]
    rw [List.drop_append_of_le_length (by rw [List.length_take]; omega)]
  · subst e; rw [h.z0 n (by simp)]; rfl
end Go.Proofs.Ytjhjgncnadhbhaa
