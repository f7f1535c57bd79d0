
/- Several texts, one behind the other: O8, O9, O10, O11, O12, O13, O14, OS, C15, C16. -/
import Derived.Test.YtgphdioolcfmmaaBM2
import Derived.ScopeJumps
import Derived.Lib.SlBytesConst
import Derived.Laws.BytesArg
import Derived.Lib.Bytes
import Derived.Test.YtgphdioolcfmmaaC8
import Derived.Test.YtgphdioolcfmmaaC7
/- store: Set, Delete, Begin, Commit. -/
set_option linter.unusedSimpArgs false
set_option linter.unusedVariables false
set_option maxRecDepth 20000
namespace Go.Proofs.Ytgphdioolcfmmaa
open Go.RowKit

section
variable {W : World} {s base : Nat} {A : Nat → Prop} {vp vj vb : Value} {r : List Rec} {j : List Was} {b : List Nat}
/-- What is handed in stays as it is, if it isn't the store's. -/
theorem Src.fr {W W' : World} {A A' : Nat → Prop} {u : Value} {q : List Int} (h : Src W u q) (hf : Fr W W' A A') (ho : ∀ g, u.ownBlock = some g → ¬ A g) : Src W' u q := by
  rcases h with h | ⟨ad, cap, e, hc⟩
  · exact .inl h
  · refine .inr ⟨ad, cap, e, fun i x hi => ?_⟩
    have h1 := hc i x hi
    have hbl : (ad.add i).block = ad.block := by unfold Addr.add; split <;> rfl
    have hlt : ad.block < W.heap.size := by
      rcases Nat.lt_or_ge ad.block W.heap.size with h | h
      · exact h
      · rw [World.cell?, hbl, Array.getElem?_eq_none h] at h1; simp at h1
    exact (World.cell?_of_block (a := ad.add i) (by rw [hbl]; exact hf.block _ hlt (ho _ (by rw [e]; rfl)))).trans h1
set_option maxHeartbeats 4000000 in
theorem set_any {uk uv : Value} {k v : List Int} (h : StC W s base A vp vj vb r j b) (hs : Srt r) (hn : r.length < 100000) (hj : j.length ≤ 100000) (hk : Src W uk k) (hv : Src W uv v) (hkb : Byte k) (hvb : Byte v) (hkl : k.length ≤ 1048576) (hvl : v.length ≤ 1048576) (hko : ∀ g, uk.ownBlock = some g → ¬ A g) (hvo : ∀ g, uv.ownBlock = some g → ¬ A g) :
    Calls Try.prog 69 #[.pointer (some ⟨s, 0, none⟩), uk, uv] W fun e w' => e = .returned (.tuple #[]) ∧ ∃ A' vp' vj' r' j', StC w' s base A' vp' vj' vb r' j' b ∧ Srt r' ∧ cont r' = putS (cont r) k v ∧ r'.length ≤ r.length + 1 ∧ JS (cont r) k j j' b ∧ Fr W w' A A' := by
  have hN := note_any h hs (by omega) hj hk hkb hkl
  obtain ⟨sk, ck, rfl, -⟩ := hk.parts
  obtain ⟨sv, cv, rfl, -⟩ := hv.parts
  go_enter Try.func69, Try.ntmps69
  go_wp2_with (first
    | (go_at_call 78; refine hN.mono ?_; rintro e w1 ⟨rfl, A1, vj1, j1, h1, hJ, f1⟩; have hk1 := hk.fr f1 hko; have hv1 := hv.fr f1 hvo; have hO1 := own_any hkl hk1)
    | (go_at_call 67; refine hO1.mono ?_; rintro e w2 ⟨kv, rfl, ho2, hb2⟩; have hv2 := hv1.kept (grown_none hb2); have hO2 := own_any hvl hv2; clear hO1; obtain rfl := ho2.1)
    | (go_at_call 67; refine hO2.mono ?_; rintro e w3 ⟨vv, rfl, ho3, hb3⟩; clear hO2; have ho2' := ho2.kept (hb3.block _ ho2.lt); have h3 := ((h1.below hb2).below hb3).ext (B := fun n => A1 n ∨ n = w1.heap.size ∨ n = w2.heap.size) (fun n hn => .inl hn) (fun n hn => by rcases hn with hn | rfl | rfl; exact (((h1.below hb2).below hb3).foot n hn); exact ⟨h1.le, ho2'.lt⟩; exact ⟨Nat.le_trans h1.le hb2.size, ho3.lt⟩); have hP := put_any h3 hs hn (ho2'.inA (.inr (.inl rfl)) hkb hkl) (ho3.inA (.inr (.inr rfl)) hvb hvl); obtain rfl := ho3.1)
    | (go_at_call 80; refine hP.mono ?_; rintro e w4 ⟨rfl, A4, vp4, r4, h4, hs4, hc4, hl4, f4⟩))
  refine bodyPost_end (v := .tuple #[]) (by simp [results, Try.results69]) rfl ?_
  have fm : Fr w1 w3 A1 (fun n => A1 n ∨ n = w1.heap.size ∨ n = w2.heap.size) := (Fr.more (W := w1) (fun n hn => .inl hn) (fun n hn => by rcases hn with hn | hn | hn; exact .inl hn; exact .inr (by omega); exact .inr (by have := hb2.size; omega))).trans (Fr.below (bt hb2 hb3))
  exact ⟨rfl, _, _, _, _, _, h4, hs4, hc4, hl4, hJ, (f1.trans fm).trans f4⟩
set_option maxHeartbeats 4000000 in
theorem del_any {uk : Value} {k : List Int} (h : StC W s base A vp vj vb r j b) (hs : Srt r) (hn : r.length ≤ 100000) (hj : j.length ≤ 100000) (hk : Src W uk k) (hkb : Byte k) (hkl : k.length ≤ 1048576) (hko : ∀ g, uk.ownBlock = some g → ¬ A g) :
    Calls Try.prog 68 #[.pointer (some ⟨s, 0, none⟩), uk] W fun e w' => e = .returned (.tuple #[]) ∧ ∃ A' vp' vj' r' j', StC w' s base A' vp' vj' vb r' j' b ∧ Srt r' ∧ cont r' = dropS (cont r) k ∧ r'.length ≤ r.length ∧ ((getS (cont r) k = none ∧ j' = j) ∨ (getS (cont r) k ≠ none ∧ JS (cont r) k j j' b)) ∧ Fr W w' A A' := by
  have hF := find_any h hs (by omega) hk hkb
  have hk' := hk
  obtain ⟨sk, ck, rfl, -⟩ := hk'.parts
  go_enter Try.func68, Try.ntmps68
  go_wp2_with (first
    | (go_at_call 64; refine hF.mono ?_; rintro e w1 ⟨i, f, rfl, hfs, hb1⟩; have h1 := h.below hb1; have hk1 := hk.kept (grown_none hb1); have hN := note_any h1 hs (by omega) hj hk1 hkb hkl; cases f)
    | (go_at_call 78; refine hN.mono ?_; rintro e w2 ⟨rfl, A2, vj2, j2, h2, hJ, f2⟩; have hk2 := hk1.fr f2 hko; have hD := drop_any h2 hs hn hk2 hkb)
    | (go_at_call 79; refine hD.mono ?_; rintro e w3 ⟨rfl, A3, vp3, r3, h3, hs3, hc3, hl3, f3⟩))
  · refine bodyPost_end (v := .tuple #[]) (by simp [results, Try.results68]) rfl ?_
    refine ⟨rfl, _, _, _, _, _, h1, hs, ?_, Nat.le_refl _, .inl ⟨get_no hfs hs, rfl⟩, Fr.below hb1⟩
    rw [dropS, filter_lo hfs, filter_no hfs hs, ← cont_app, List.take_append_drop]
  · refine bodyPost_end (v := .tuple #[]) (by simp [results, Try.results68]) rfl ?_
    obtain ⟨hi, hik, hgt⟩ := hfs.yes hs
    exact ⟨rfl, _, _, _, _, _, h3, hs3, hc3, hl3, .inr ⟨by rw [get_yes hfs hs hi]; simp, hJ⟩, ((Fr.below hb1).trans f2).trans f3⟩
end
end Go.Proofs.Ytgphdioolcfmmaa

/- store: Begin, over, Commit, undo. -/
namespace Go.Proofs.Ytgphdioolcfmmaa
open Go.RowKit

theorem row_cut {W : World} {base : Nat} {e : TypeId} {size n m g cap : Nat} {xs : List Value} (h : W.ownsRow base e size (.slice (some ⟨g, 0, none⟩) n cap) n xs) (hm : m ≤ n) : W.ownsRow base e size (.slice (some ⟨g, 0, none⟩) m cap) m (xs.take (m * size)) := by
  have hms := Nat.mul_le_mul_right size hm
  rcases h.2 with ⟨e, _⟩ | ⟨g', cap', cur, e, h1, h2, h3, h4, h5, h6⟩
  · simp at e
  · simp at e
    obtain ⟨rfl, rfl⟩ := e
    refine ⟨by rw [List.length_take, h.1]; omega, .inr ⟨g, cap, cur, rfl, h1, h2, by omega, h4, h5, ?_⟩⟩
    rw [← h6, List.take_take]; congr 1; omega
theorem cellsI_app (a b : List Nat) : cellsI (a ++ b) = cellsI a ++ cellsI b := by simp [cellsI]
theorem cellsI_len (a : List Nat) : (cellsI a).length = a.length := by simp [cellsI]
section
variable {W : World} {s base : Nat} {A : Nat → Prop} {vp vj vb : Value} {r : List Rec} {j : List Was} {b : List Nat}
end
end Go.Proofs.Ytgphdioolcfmmaa

/- store: Commit, undo, Rollback. -/
namespace Go.Proofs.Ytgphdioolcfmmaa
open Go.RowKit

/-- A scope with jumps back to one label: what is behind the label is walked once. -/
theorem wp_scope_jumps2 {P : Program} {a : Act} {w : World} {Q : Exit → Act → World → Prop} {c rest : Code} (l : Nat) (J : Act → World → Prop) (μ : Act → World → Nat) (hf : findLabel c l = some rest)
    (pass : ∀ a w, J a w → rest.wp P (Exit.jump l (fun a' w' => J a' w' ∧ μ a' w' < μ a w) Q) a w)
    (first : (∀ a w, J a w → rest.wp P (Exit.jump l J Q) a w) → c.wp P (Exit.jump l J Q) a w) : (Code.scope c).wp P Q a w := by
  refine wp_scope_jumps l J μ hf (first fun a w hJ => Code.wp_mono ?_ (pass a w hJ)) pass
  intro e a' w' h
  cases e with
  | goto l' => exact ⟨h.1, h.2.1⟩
  | _ => exact h

/-- With no part begun any more nothing is noted. -/
def keepJ (b : List Nat) (j : List Was) : List Was := if b = [] then [] else j
theorem cellsJ_len (j : List Was) : (cellsJ j).length = j.length * 3 := by
  induction j with
  | nil => rfl
  | cons x j ih => rw [cellsJ, List.flatMap_cons, List.length_append, ← cellsJ, ih, List.length_cons]; simp; omega
theorem cellsJ_last (j : List Was) (x : Was) : (cellsJ (j ++ [x]))[j.length * 3]? = some x.kv ∧ (cellsJ (j ++ [x]))[j.length * 3 + 1]? = some x.vv ∧ (cellsJ (j ++ [x]))[j.length * 3 + 2]? = some (.bool x.there) := by
  have hl := cellsJ_len j
  rw [cellsJ_app]
  refine ⟨?_, ?_, ?_⟩ <;> rw [List.getElem?_append_right (by omega)]
  · rw [show j.length * 3 - (cellsJ j).length = 0 by omega]; rfl
  · rw [show j.length * 3 + 1 - (cellsJ j).length = 1 by omega]; rfl
  · rw [show j.length * 3 + 2 - (cellsJ j).length = 2 by omega]; rfl
def undoS (l : List (List Int × List Int)) (x : Was) : List (List Int × List Int) := if x.there then putS l x.k x.v else dropS l x.k
/-- All that was noted since is undone, the last first. -/
def rollS (l : List (List Int × List Int)) (j : List Was) : List (List Int × List Int) := j.foldr (fun x l => undoS l x) l
theorem rollS_snoc (l : List (List Int × List Int)) (j : List Was) (x : Was) : rollS l (j ++ [x]) = rollS (undoS l x) j := by simp [rollS]
section
variable {W : World} {s base : Nat} {A : Nat → Prop} {vp vj vb : Value} {r : List Rec} {j : List Was} {b : List Nat}
set_option maxHeartbeats 1000000 in
theorem new_any (W : World) : Calls Try.prog 11 #[] W fun e w' => e = .returned (.pointer (some ⟨W.heap.size, 0, none⟩)) ∧ StC w' W.heap.size W.heap.size (fun k => k = W.heap.size) (.slice none 0 0) (.slice none 0 0) (.slice none 0 0) [] [] [] ∧ Below W.heap.size W w' := by
  go_enter Try.func11, Try.ntmps11
  go_wp2
  go_ret
  refine ⟨rfl, ⟨World.alloc_heap_new W _, World.ownsRow_nil _ _ _ _, World.ownsRow_nil _ _ _ _, World.ownsRow_nil _ _ _ _, by simp, by simp, fun k hk => by subst hk; simp, rfl, fun g hg => by simp [Value.ownBlock] at hg, fun g hg => by simp [Value.ownBlock] at hg, fun g hg => by simp [Value.ownBlock] at hg, by simp⟩, ba (Below.refl _ _) _⟩
end
/-- What holds whenever one goes on undoing. -/
def RbI (W : World) (s base : Nat) (A : Nat → Prop) (vb : Value) (r : List Rec) (j : List Was) (b : List Nat) (n : Nat) (L : List (List Int × List Int)) (X : World) : Prop :=
  ∃ A' vp' vj' r', ∃ m : Nat, StC X s base A' vp' vj' vb r' (j.take m) b ∧ Srt r' ∧ n ≤ m ∧ m ≤ j.length ∧ rollS (cont r') ((j.take m).drop n) = L ∧ r'.length + m ≤ r.length + j.length ∧ Fr W X A A'
end Go.Proofs.Ytgphdioolcfmmaa

/- jointurelaw05.rolls: the document's example. -/
namespace Go.Proofs.Ytgphdioolcfmmaa
open Go.RowKit

theorem cvA (W : World) (x : Int) : (convert 81 81 (.slice (some ⟨W.heap.size, 0, none⟩) 1 1)).run Try.prog (W.alloc (.cells #[.int .u8 x] 5)) = .ok (.slice (some ⟨W.heap.size, 0, none⟩) 1 1) (W.alloc (.cells #[.int .u8 x] 5 (1, 2))) :=
  Lib.run_convert_bytes_const W 81 5 #[.int .u8 x] 1 1 Try.underlying81 Try.underlying5
theorem cvB (W : World) (x y : Int) : (convert 81 81 (.slice (some ⟨W.heap.size + 1, 0, none⟩) 1 1)).run Try.prog ((W.alloc (.cells #[.int .u8 x] 5 (1, 2))).alloc (.cells #[.int .u8 y] 5)) = .ok (.slice (some ⟨W.heap.size + 1, 0, none⟩) 1 1) ((W.alloc (.cells #[.int .u8 x] 5 (1, 2))).alloc (.cells #[.int .u8 y] 5 (1, 2))) := by
  have := Lib.run_convert_bytes_const (P := Try.prog) (W.alloc (.cells #[.int .u8 x] 5 (1, 2))) 81 5 #[.int .u8 y] 1 1 Try.underlying81 Try.underlying5
  rw [show (W.alloc (.cells #[.int .u8 x] 5 (1, 2))).heap.size = W.heap.size + 1 by simp] at this
  exact this
theorem src_mark (W : World) (x : Int) {n : Nat} (hn : n = W.heap.size) : Src (W.alloc (.cells #[.int .u8 x] 5 (1, 2))) (.slice (some ⟨n, 0, none⟩) 1 1) [x] := by
  subst hn
  refine .inr ⟨⟨_, 0, none⟩, 1, rfl, fun i y hi => ?_⟩
  rw [add_cell]
  have hb : (W.alloc (.cells #[.int .u8 x] 5 (1, 2))).heap[W.heap.size]? = some (.cells #[.int .u8 x] 5 (1, 2)) := al_at rfl
  cases i with
  | zero => simp at hi; subst hi; unfold World.cell?; simp only [hb]; rfl
  | succ i => simp at hi
section
variable {W : World} {s base : Nat} {A : Nat → Prop} {vp vj vb : Value} {r : List Rec} {j : List Was} {b : List Nat}
theorem byte1 {x : Int} (h : 0 ≤ x ∧ x ≤ 255) : Byte [x] := by intro y hy; rw [List.mem_singleton] at hy; subst hy; exact h
theorem set_new (x y : Int) (hx : 0 ≤ x ∧ x ≤ 255) (hy : 0 ≤ y ∧ y ≤ 255) (h : StC W s base A vp vj vb r j b) (hs : Srt r) (hn : r.length < 100000) (hj : j.length ≤ 100000) :
    Calls Try.prog 69 #[.pointer (some ⟨s, 0, none⟩), .slice (some ⟨W.heap.size, 0, none⟩) 1 1, .slice (some ⟨W.heap.size + 1, 0, none⟩) 1 1] ((W.alloc (.cells #[.int .u8 x] 5 (1, 2))).alloc (.cells #[.int .u8 y] 5 (1, 2))) fun e w' => e = .returned (.tuple #[]) ∧ ∃ A' vp' vj' r' j', StC w' s base A' vp' vj' vb r' j' b ∧ Srt r' ∧ cont r' = putS (cont r) [x] [y] ∧ r'.length ≤ r.length + 1 ∧ JS (cont r) [x] j j' b ∧ Fr W w' A A' := by
  have hB : Below W.heap.size W ((W.alloc (.cells #[.int .u8 x] 5 (1, 2))).alloc (.cells #[.int .u8 y] 5 (1, 2))) := ba (ba (Below.refl _ _) _) _
  have h1 := h.below hB
  have hkx : Src (W.alloc (.cells #[.int .u8 x] 5 (1, 2))) (.slice (some ⟨W.heap.size, 0, none⟩) 1 1) [x] := src_mark W x rfl
  refine (set_any h1 hs hn hj (hkx.kept (World.grownBy_alloc _ _ none)) (src_mark _ y (by simp)) (byte1 hx) (byte1 hy) (by simp) (by simp) (fun g hg hA => ?_) (fun g hg hA => ?_)).mono ?_
  · have := (h.foot g hA).2; simp [Value.ownBlock] at hg; omega
  · have := (h.foot g hA).2; simp [Value.ownBlock] at hg; omega
  · rintro e w' ⟨rfl, A', vp', vj', r', j', k1, k2, k3, k4, k5, k6⟩
    exact ⟨rfl, A', vp', vj', r', j', k1, k2, k3, k4, k5, (Fr.below hB).trans k6⟩
theorem del_new (x : Int) (hx : 0 ≤ x ∧ x ≤ 255) (h : StC W s base A vp vj vb r j b) (hs : Srt r) (hn : r.length ≤ 100000) (hj : j.length ≤ 100000) :
    Calls Try.prog 68 #[.pointer (some ⟨s, 0, none⟩), .slice (some ⟨W.heap.size, 0, none⟩) 1 1] (W.alloc (.cells #[.int .u8 x] 5 (1, 2))) fun e w' => e = .returned (.tuple #[]) ∧ ∃ A' vp' vj' r' j', StC w' s base A' vp' vj' vb r' j' b ∧ Srt r' ∧ cont r' = dropS (cont r) [x] ∧ r'.length ≤ r.length ∧ ((getS (cont r) [x] = none ∧ j' = j) ∨ (getS (cont r) [x] ≠ none ∧ JS (cont r) [x] j j' b)) ∧ Fr W w' A A' := by
  have hB : Below W.heap.size W (W.alloc (.cells #[.int .u8 x] 5 (1, 2))) := ba (Below.refl _ _) _
  have h1 := h.below hB
  refine (del_any h1 hs hn hj (src_mark W x rfl) (byte1 hx) (by simp) (fun g hg hA => ?_)).mono ?_
  · have := (h.foot g hA).2; simp [Value.ownBlock] at hg; omega
  · rintro e w' ⟨rfl, A', vp', vj', r', j', k1, k2, k3, k4, k5, k6⟩
    exact ⟨rfl, A', vp', vj', r', j', k1, k2, k3, k4, k5, (Fr.below hB).trans k6⟩
theorem get_new (x : Int) (hx : 0 ≤ x ∧ x ≤ 255) (q : List Int) (h : StC W s base A vp vj vb r j b) (hs : Srt r) (hn : r.length ≤ 100000) (hq : getS (cont r) [x] = some q) :
    Calls Try.prog 53 #[.pointer (some ⟨s, 0, none⟩), .slice (some ⟨W.heap.size, 0, none⟩) 1 1] (W.alloc (.cells #[.int .u8 x] 5 (1, 2))) fun e w' => ∃ v g, e = .returned (.tuple #[v, .bool true]) ∧ Own w' g v q ∧ StC w' s base A vp vj vb r j b ∧ Below W.heap.size W w' := by
  have hB : Below W.heap.size W (W.alloc (.cells #[.int .u8 x] 5 (1, 2))) := ba (Below.refl _ _) _
  have h1 := h.below hB
  refine (get_any h1 hs hn (src_mark W x rfl) (byte1 hx)).mono ?_
  rintro e w' ⟨hb, k⟩
  rcases k with ⟨k, -⟩ | ⟨v, g, q', k, rfl, ho, -⟩
  · rw [hq] at k; cases k
  · rw [hq] at k; simp at k; subst k
    exact ⟨v, g, rfl, ho, h1.below hb, bt hB hb⟩
end
theorem str49 {X : World} {g : Nat} {v : Value} (h : Own X g v [49]) : (convert 81 9 v).run Try.prog X = .ok (.string ⟨#[49]⟩) X := by
  obtain ⟨rfl, hb⟩ := h
  have := run_convert_bytes_arg (P := Try.prog) X 81 5 Try.underlying81 Try.underlying5 g 0 1 1 [49] rfl (fun i hi => by
    obtain rfl : i = 0 := by omega
    rw [(cells_of_block hb).1]; rfl) 9 Try.underlying9
  exact this
/-- The example's journal: a was 1, then 2. -/
theorem ex_roll {x y : Was} (hx : WasS x [([97], [49])] [97]) (hy : WasS y [([97], [50])] [97]) : rollS [] ([x] ++ [y]) = [([97], [49])] := by
  obtain ⟨k1, t1⟩ := hx
  obtain ⟨k2, t2⟩ := hy
  have g1 : getS [([97], [49])] [97] = some [49] := by decide
  have g2 : getS [([97], [50])] [97] = some [50] := by decide
  rw [g1] at t1
  rw [g2] at t2
  have a1 : x.there = true ∧ x.v = [49] := by
    rcases t1 with ⟨t, e⟩ | ⟨_, e⟩
    · simp at e; exact ⟨t, e.symm⟩
    · cases e
  have a2 : y.there = true ∧ y.v = [50] := by
    rcases t2 with ⟨t, e⟩ | ⟨_, e⟩
    · simp at e; exact ⟨t, e.symm⟩
    · cases e
  rw [rollS_snoc]
  simp only [rollS, List.foldr, undoS, a1.1, a2.1, if_true, k1, k2, a1.2, a2.2]
  decide
end Go.Proofs.Ytgphdioolcfmmaa

/- store: of nothing; are two alike that have nothing? -/
namespace Go.Proofs.Ytgphdioolcfmmaa
open Go.RowKit

section
variable {W : World} {s base : Nat} {A : Nat → Prop} {vp vj vb : Value} {r : List Rec} {j : List Was} {b : List Nat}
set_option maxHeartbeats 1000000 in
theorem all_nil (W : World) : Calls Try.prog 65 #[.pointer none] W fun e w' => e = .returned (.slice none 0 0) ∧ w' = W := by
  go_enter Try.func65, Try.ntmps65
  go_wp2
  go_ret
  exact ⟨rfl, rfl⟩
set_option maxHeartbeats 1000000 in
theorem depth_nil (W : World) : Calls Try.prog 85 #[.pointer none] W fun e w' => e = .returned (.int .i64 0) ∧ w' = W := by
  go_enter Try.func85, Try.ntmps85
  go_wp2
  go_ret
  exact ⟨rfl, rfl⟩
set_option maxHeartbeats 1000000 in
theorem find_nil {u : Value} {key : List Int} (hu : Src W u key) (hk : Byte key) :
    Calls Try.prog 64 #[.pointer none, u] W fun e w' => e = .returned (.tuple #[.int .i64 0, .bool false]) ∧ Below W.heap.size W w' := by
  have hS := search_any (r := []) (A := fun _ => False) (World.ownsRow_nil W W.heap.size 113 2) (by simp) List.Pairwise.nil (by simp) hu hk
  go_enter Try.func64, Try.ntmps64
  go_wp2_with (first
    | (go_at_call 65; refine (all_nil W).mono ?_; rintro e w1 ⟨rfl, hw⟩; obtain rfl := hw.symm)
    | (go_at_call 74; refine hS.mono ?_; rintro e w2 ⟨i, f, rfl, hF, hb⟩; obtain rfl : i = 0 := (by have := hF.le; simpa using this); obtain rfl : f = false := (by cases f; rfl; obtain ⟨x, hx, -⟩ := hF.is.1 rfl; simp at hx)))
  go_ret2
  exact ⟨rfl, hb⟩
set_option maxHeartbeats 1000000 in
theorem set_nil (u v : Value) (W : World) : Calls Try.prog 69 #[.pointer none, u, v] W fun e w' => e = .returned (.tuple #[]) ∧ w' = W := by
  go_enter Try.func69, Try.ntmps69
  go_wp2
  exact bodyPost_end (v := .tuple #[]) (by simp [results, Try.results69]) rfl ⟨rfl, rfl⟩
set_option maxHeartbeats 1000000 in
theorem del_nil {u : Value} {key : List Int} (hu : Src W u key) (hk : Byte key) :
    Calls Try.prog 68 #[.pointer none, u] W fun e w' => e = .returned (.tuple #[]) ∧ Below W.heap.size W w' := by
  have hF := find_nil hu hk
  go_enter Try.func68, Try.ntmps68
  go_wp2_with (go_at_call 64; refine hF.mono ?_; rintro e w1 ⟨rfl, hb⟩)
  exact bodyPost_end (v := .tuple #[]) (by simp [results, Try.results68]) rfl ⟨rfl, hb⟩
set_option maxHeartbeats 1000000 in
theorem get_nil {u : Value} {key : List Int} (hu : Src W u key) (hk : Byte key) :
    Calls Try.prog 53 #[.pointer none, u] W fun e w' => e = .returned (.tuple #[.slice none 0 0, .bool false]) ∧ Below W.heap.size W w' := by
  have hF := find_nil hu hk
  go_enter Try.func53, Try.ntmps53
  go_wp2_with (go_at_call 64; refine hF.mono ?_; rintro e w1 ⟨rfl, hb⟩)
  go_ret2
  exact ⟨rfl, hb⟩
set_option maxHeartbeats 1000000 in
theorem keys_nil {u : Value} {key : List Int} (hu : Src W u key) (hk : Byte key) :
    Calls Try.prog 51 #[.pointer none, u] W fun e w' => e = .returned (.slice none 0 0) ∧ Below W.heap.size W w' := by
  have hF := find_nil hu hk
  go_enter Try.func51, Try.ntmps51
  go_wp2_with (first
    | (go_at_call 64; refine hF.mono ?_; rintro e w1 ⟨rfl, hb⟩)
    | (go_at_call 65; refine (all_nil _).mono ?_; rintro e w2 ⟨rfl, hw⟩; obtain rfl := hw.symm))
  apply wp_loop_rounds 1
  simp only [Code.rounds]
  go_wp2
  go_ret
  exact ⟨rfl, hb⟩
end
end Go.Proofs.Ytgphdioolcfmmaa

/- store: bytes that begin so; Keys. -/
namespace Go.Proofs.Ytgphdioolcfmmaa
open Go.RowKit

theorem bytesOf_inj : ∀ (p q : List Int), Byte p → Byte q → Lib.bytesOf p = Lib.bytesOf q → p = q
  | [], [], _, _, _ => rfl
  | [], _ :: _, _, _, h => by simp [Lib.bytesOf] at h
  | _ :: _, [], _, _, h => by simp [Lib.bytesOf] at h
  | a :: p, b :: q, hp, hq, h => by
    have ha := hp a (by simp)
    have hb := hq b (by simp)
    simp only [Lib.bytesOf, List.map_cons, List.cons.injEq] at h
    have ih := bytesOf_inj p q (fun x hx => hp x (by simp [hx])) (fun x hx => hq x (by simp [hx])) h.2
    have h2 := congrArg UInt8.toNat h.1
    simp only [UInt8.toNat_ofNat'] at h2
    rw [ih, show a = b by omega]
theorem conv_src {W : World} {u : Value} {p : List Int} (h : Src W u p) (hp : Byte p) : ∃ s : ByteArray, (convert 81 9 u).run Try.prog W = .ok (.string s) W ∧ s.toList = Lib.bytesOf p := by
  rcases h with ⟨rfl, rfl⟩ | ⟨ad, cap, rfl, hc⟩
  · refine ⟨_, run_convert_bytes_nil (P := Try.prog) W 81 5 Try.underlying81 Try.underlying5 0 0 9 Try.underlying9, ?_⟩
    rw [Lib.toList_data]; rfl
  · have h1 := run_convert_bytes_back (P := Try.prog) W 81 9 5 ad cap (Lib.bytesOf p) Try.underlying81 Try.underlying5 Try.underlying9 (fun j hj => by
      have hj' : j < p.length := by simpa [Lib.bytesOf] using hj
      have hx := hp p[j] (List.getElem_mem hj')
      rw [hc j p[j] (List.getElem?_eq_getElem hj')]
      simp only [Lib.bytesOf, List.getElem_map, UInt8.toNat_ofNat']
      congr 2
      omega)
    rw [show (Lib.bytesOf p).length = p.length by simp [Lib.bytesOf]] at h1
    exact ⟨_, h1, by rw [Lib.toList_data]⟩
set_option maxHeartbeats 1000000 in
theorem bequal_any {W : World} {u v : Value} {p q : List Int} (hu : Src W u p) (hv : Src W v q) (hp : Byte p) (hq : Byte q) :
    Calls Try.prog 77 #[u, v] W fun e w' => e = .returned (.bool (decide (p = q))) ∧ w' = W := by
  obtain ⟨s1, c1, e1⟩ := conv_src hu hp
  obtain ⟨s2, c2, e2⟩ := conv_src hv hq
  have he : (s1.toList == s2.toList) = decide (p = q) := by
    rw [e1, e2]
    by_cases h : p = q
    · subst h; simp
    · rw [decide_eq_false h]; simp; exact fun e => h (bytesOf_inj p q hp hq e)
  have he' : Hid _ := he
  clear e1 e2 he
  go_enter Try.func77, Try.ntmps77
  go_wp2
  go_ret
  exact ⟨congrArg (fun b => Ending.returned (.bool b)) he'.out, rfl⟩
/-- Does a key begin so? -/
def begs (k p : List Int) : Bool := decide (p.length ≤ k.length) && decide (k.take p.length = p)
set_option maxHeartbeats 2000000 in
theorem hasPrefix_any {W : World} {g : Nat} {kv u : Value} {k p : List Int} (hk : Own W g kv k) (hu : Src W u p) (hkb : Byte k) (hpb : Byte p) (hkl : k.length ≤ 1048576) (hpl : p.length ≤ 1048576) :
    Calls Try.prog 66 #[kv, u] W fun e w' => e = .returned (.bool (begs k p)) ∧ w' = W := by
  obtain rfl := hk.1
  obtain ⟨su, cu, rfl, -⟩ := hu.parts
  have hkl' : (k.length : Int) ≤ 1048576 := by omega
  have hpl' : (p.length : Int) ≤ 1048576 := by omega
  by_cases hle : p.length ≤ k.length
  · have hle' : (p.length : Int) ≤ (k.length : Int) := by omega
    have hs : Src W (.slice (some ⟨g, 0, none⟩) p.length k.length) (k.take p.length) := by
      refine .inr ⟨⟨g, 0, none⟩, k.length, by rw [List.length_take]; congr 1; omega, fun i x hi => ?_⟩
      rw [List.getElem?_take] at hi
      split at hi
      · rw [add_cell, (cells_of_block hk.2).1]; simp [encB, hi]
      · simp at hi
    have hE := bequal_any hs hu (fun x hx => hkb x (List.mem_of_mem_take hx)) hpb
    have hb : Hid (begs k p = decide (k.take p.length = p)) := by unfold Hid; simp [begs, hle]
    generalize decide (k.take p.length = p) = D at *
    go_enter Try.func66, Try.ntmps66
    go_wp2_with (go_at_call 77; refine hE.mono ?_; rintro e w1 ⟨rfl, hw⟩; obtain rfl := hw.symm)
    go_ret
    exact ⟨congrArg (fun b => Ending.returned (.bool b)) hb.out.symm, rfl⟩
  · have hle' : ¬ (p.length : Int) ≤ (k.length : Int) := by omega
    have hb : Hid (begs k p = false) := by unfold Hid; simp [begs, hle]
    go_enter Try.func66, Try.ntmps66
    go_wp2
    go_ret
    exact ⟨congrArg (fun b => Ending.returned (.bool b)) hb.out.symm, rfl⟩

/-- A list of keys, each in a block of its own. -/
structure KeysAt (W : World) (base : Nat) (v : Value) (ks : List (Value × List Int)) : Prop where
  row : W.ownsRow base 81 1 v ks.length (ks.map (·.1))
  own : ∀ x ∈ ks, ∃ g, base ≤ g ∧ Own W g x.1 x.2
theorem KeysAt.below {W W' : World} {base : Nat} {v : Value} {ks : List (Value × List Int)} (h : KeysAt W base v ks) (hb : Below W.heap.size W W') : KeysAt W' base v ks :=
  ⟨none_row h.row (grown_none hb), fun x hx => by obtain ⟨g, h1, h2⟩ := h.own x hx; exact ⟨g, h1, h2.kept (hb.block g h2.lt)⟩⟩
theorem bs_info : (Try.prog.info? 81).map (fun i => (i.zero, i.size, i.bytes)) = some (some (.slice none 0 0), 1, 24) := by kernel_rfl
/-- The keys that begin so, from a place on, up to the first that doesn't. -/
def runS (r : List Rec) (p : List Int) : List (List Int) := (r.takeWhile fun x => begs x.k p).map (·.k)
theorem runS_stop {r : List Rec} {p : List Int} {m : Nat} (h1 : ∀ x ∈ r.take m, begs x.k p = true) (h2 : m = r.length ∨ ∃ h : m < r.length, begs r[m].k p = false) : runS r p = (r.take m).map (·.k) := by
  unfold runS
  congr 1
  conv => lhs; rw [← List.take_append_drop m r]
  rw [List.takeWhile_append_of_pos h1]
  rcases h2 with h2 | ⟨h, h2⟩
  · rw [List.drop_of_length_le (by omega)]; simp
  · rw [List.drop_eq_getElem_cons h, List.takeWhile_cons_of_neg (by simp [h2])]; simp
set_option maxRecDepth 10000 in
set_option maxHeartbeats 8000000 in
theorem keys_any {W : World} {s base : Nat} {A : Nat → Prop} {vp vj vb u : Value} {r : List Rec} {j : List Was} {b : List Nat} {p : List Int} (h : StC W s base A vp vj vb r j b) (hs : Srt r) (hn : r.length ≤ 100000) (hu : Src W u p) (hpb : Byte p) (hpl : p.length ≤ 1048576) :
    Calls Try.prog 51 #[.pointer (some ⟨s, 0, none⟩), u] W fun e w' => ∃ v ks i f, e = .returned v ∧ KeysAt w' W.heap.size v ks ∧ FindS r p i f ∧ ks.map (·.2) = runS (r.drop i) p ∧ Below W.heap.size W w' := by
  obtain ⟨i0, hi0, hz0, hz1, hz2⟩ := bs_info |> info_parts
  have hF := find_any h hs (by omega) hu hpb
  obtain ⟨ap, cp, rfl⟩ := row_slice h.pairs
  have hcp : r.length ≤ cp := by
    rcases h.pairs.2 with ⟨e, e0⟩ | ⟨g, cap, cur, e, _, _, h3, _⟩
    · omega
    · simp at e; omega
  have hn' : (r.length : Int) ≤ 100000 := by omega
  go_enter Try.func51, Try.ntmps51
  go_wp2_with (first
    | (go_at_call 64; refine hF.mono ?_; rintro e w1 ⟨i, f, rfl, hfs, hb1⟩; have h1 := h.below hb1; have hA := all_any h1; have hu1 := hu.kept (grown_none hb1); have hil : (i : Int) ≤ (r.length : Int) := (by have := hfs.le; omega); have hic : (i : Int) ≤ (cp : Int) := (by omega); rcases Nat.lt_or_ge i r.length with hi | hi; obtain ⟨g, cap, ev, hgl, -, -, -, -⟩ := pair_at h1.pairs (List.getElem?_eq_getElem hi); simp at ev; obtain ⟨rfl, rfl⟩ := ev; have k1 : ¬ cp = i := (by omega))
    | (go_at_call 65; refine hA.mono ?_; rintro e w2 ⟨rfl, hw⟩; obtain rfl := hw.symm))
  · obtain ⟨n2, hn2⟩ : ∃ n2, r.length - i = n2 := ⟨_, rfl⟩
    have hdl : (r.drop i).length = n2 := by rw [List.length_drop]; exact hn2
    have hn2' : (n2 : Int) ≤ 100000 := by omega
    have hsz1 := hb1.size
    rw [hn2]
    clear hF hA
    go_loopw [5, 21] (fun lv iv X => ∃ (m : Nat) (ks : List (Value × List Int)), m ≤ n2 ∧ iv = .int .i64 (m : Int) ∧ KeysAt X W.heap.size lv ks ∧ Hid (ks.map (·.2) = ((r.drop i).take m).map (·.k)) ∧ Hid (∀ x ∈ (r.drop i).take m, begs x.k p = true) ∧ Below W.heap.size W X) (fun _ iv _ => n2 - (intOf iv).toNat)
    case atStart => exact ⟨0, [], by omega, rfl, ⟨World.ownsRow_nil _ _ _ _, by simp⟩, by unfold Hid; simp, by unfold Hid; simp, hb1⟩
    case round =>
      obtain ⟨m, ks, hm, rfl, hK, hkm, hall, hB⟩ := hrel
      have hsz := hB.size
      by_cases hlt : m < n2
      · have him : i + m < r.length := by omega
        have hX := h.below hB
        obtain ⟨g', cap', ev, hgl', -, c0, c1, -⟩ := pair_at hX.pairs (List.getElem?_eq_getElem him)
        simp at ev
        obtain ⟨rfl, rfl⟩ := ev
        have c0' : wr.cell? ⟨g, i * 2 + m * 2, none⟩ = some r[i + m].kv := by rw [← Nat.add_mul]; exact c0
        have c1' : wr.cell? ⟨g, i * 2 + m * 2 + 1, none⟩ = some r[i + m].vv := by rw [← Nat.add_mul]; exact c1
        obtain ⟨⟨⟨gk, -, hok⟩, hkb, hkl⟩, hvv⟩ := hX.recs r[i + m] (List.getElem_mem him)
        have hdm : (r.drop i)[m]'(by omega) = r[i + m] := List.getElem_drop
        have htk : Hid (((r.drop i).take (m + 1)) = (r.drop i).take m ++ [r[i + m]]) := by unfold Hid; rw [List.take_succ_eq_append_getElem (by omega), hdm]
        obtain ⟨vs, vc, evv, -⟩ := hvv.src.parts
        rw [evv] at c1'
        have ekv := hok.1
        rw [ekv] at c0' hok
        generalize hxx : r[i + m] = x at *
        obtain ⟨a0, cl0, rfl⟩ := row_slice hK.row
        have hBox : Below wr.heap.size wr (wr.alloc (.cells #[.slice (some ⟨gk, 0, none⟩) x.k.length x.k.length, .slice vs x.v.length vc] 113)) := ba (Below.refl _ _) _
        have hokB := hok.kept (hBox.block gk hok.lt)
        have hP := hasPrefix_any hokB (hu.kept (grown_none (bt hB hBox))) hkb hpb hkl hpl
        have hO := own_any hkl hokB.src
        have hlt' : (m : Int) < (n2 : Int) := by omega
        have hksl : ks.length ≤ 100000 := by have := congrArg List.length hkm.out; simp at this; omega
        cases hbg : begs x.k p with
        | true =>
          rw [hbg] at hP
          go_wp2_with (first
            | (go_at_call 66; refine hP.mono ?_; rintro e w3 ⟨rfl, hw⟩; obtain rfl := hw.symm)
            | (go_at_call 67; refine hO.mono ?_; rintro e w4 ⟨kv4, rfl, ho4, hb4⟩; have hB4 := bt hBox hb4; have hrow4 := none_row hK.row (grown_none hB4); have hz4 := hB4.size; obtain rfl := ho4.1)
            | (at_builtin; refine wpList_append_own_at _ rfl _ _ 95 rfl W.heap.size 81 i0 _ 1 24 Try.underlying95 hi0 hz0 hz1 hz2 rfl (by decide) _ ks.length (ks.map (·.1)) rfl (none_row hrow4 (World.grownBy_alloc w4 _ none)) ⟨w4.heap.size, 0, none⟩ 1 1 [.slice (some ⟨(wr.alloc (.cells #[.slice (some ⟨gk, 0, none⟩) x.k.length x.k.length, .slice vs x.v.length vc] 113)).heap.size, 0, none⟩) x.k.length x.k.length] rfl rfl (fun j u hj => by rw [add_cell, (cells_of_block (World.alloc_heap_new w4 _)).1]; simpa using hj) (by simp [Value.oneCell']) (by unfold maxLen; omega) (by omega) (by simp; omega) ?_; intro v5 w5 hown5 hgr5 _ hat5))
          all_goals go_roundw
          case rel =>
            have hg5 := World.grownBy_alloc w4 (.cells #[.slice (some ⟨wr.heap.size + 1, 0, none⟩) x.k.length x.k.length] 81) none
            have hkeep : ∀ (n : Nat) (v : Value) (q : List Int), Own w4 n v q → Own w5 n v q := fun n v q ho => ho.kept ((hgr5.block n (Nat.lt_of_lt_of_le ho.lt hg5.size) (not_row ((hg5.block n ho.lt (by simp)).trans ho.2) (by decide) (none_row hrow4 hg5))).trans (hg5.block n ho.lt (by simp)))
            refine ⟨m + 1, ks ++ [(_, x.k)], by omega, by go_num, ⟨by rw [List.length_append, List.map_append]; exact hown5, fun y hy => ?_⟩, ?_, ?_, ?_⟩
            · rcases List.mem_append.1 hy with hy | hy
              · obtain ⟨n, q1, q2⟩ := hK.own y hy
                exact ⟨n, q1, hkeep n _ _ (q2.kept (hB4.block n q2.lt))⟩
              · rw [List.mem_singleton] at hy
                subst hy
                exact ⟨_, Nat.le_trans hB.size (World.grownBy_alloc wr _ none).size, hkeep _ _ _ ho4⟩
            · unfold Hid; rw [htk.out, List.map_append, List.map_append, hkm.out]; rfl
            · intro y hy
              rw [htk.out] at hy
              rcases List.mem_append.1 hy with hy | hy
              · exact hall.out y hy
              · rw [List.mem_singleton] at hy; subst hy; exact hbg
            · exact ((bt hB hB4).grown (World.grownBy_alloc w4 _ none) (Nat.le_trans hB.size hB4.size) (by simp)).grown hgr5 (Nat.le_trans (Nat.le_trans hB.size hB4.size) hg5.size) (fun n hn => (hrow4.lt n hn).1)
          case measure => (simp [intOf]; omega)
        | false =>
          rw [hbg] at hP
          go_wp2_with (go_at_call 66; refine hP.mono ?_; rintro e w3 ⟨rfl, hw⟩; obtain rfl := hw.symm)
          go_ret
          refine ⟨_, ks, i, f, rfl, hK.below hBox, hfs, ?_, bt hB hBox⟩
          rw [hkm.out, runS_stop (m := m) hall.out (.inr ⟨by omega, by rw [hdm]; exact hbg⟩)]
      · obtain rfl : m = n2 := by omega
        obtain ⟨a0, cl0, rfl⟩ := row_slice hK.row
        go_wp2
        go_ret
        refine ⟨_, ks, i, f, rfl, hK, hfs, ?_, hB⟩
        rw [hkm.out, runS_stop (m := m) hall.out (.inl hdl.symm)]
  all_goals
    have hd0 : r.drop i = [] := List.drop_of_length_le hi
    apply wp_loop_rounds 1
    simp only [Code.rounds]
    go_wp2
    go_ret
    exact ⟨_, [], i, f, rfl, ⟨World.ownsRow_nil _ _ _ _, by simp⟩, hfs, by rw [hd0]; rfl, hb1⟩
end Go.Proofs.Ytgphdioolcfmmaa

/- store: what is undone is as it was; plain facts. -/
namespace Go.Proofs.Ytgphdioolcfmmaa

/-- Rising by their keys. -/
def SrtC (l : List (List Int × List Int)) : Prop := l.Pairwise fun x y => cmpB x.1 y.1 < 0
theorem srt_cont {r : List Rec} (h : Srt r) : SrtC (cont r) := by
  unfold SrtC cont
  rw [List.pairwise_map]
  exact h
theorem srt_tail {y : Rec} {l : List Rec} (h : Srt (y :: l)) : Srt l ∧ ∀ z ∈ l, cmpB y.k z.k < 0 := ⟨(List.pairwise_cons.1 h).2, (List.pairwise_cons.1 h).1⟩
theorem cmp_pos {p q : List Int} (h : cmpB p q < 0) : 0 < cmpB q p := by have := cmp_flip p q; omega
theorem cmp_neg {p q : List Int} (h : 0 < cmpB q p) : cmpB p q < 0 := by have := cmp_flip p q; omega
/-- A sorted list is what is less than a key, the key (if it is there), and what is greater. -/
theorem split_srt {l : List (List Int × List Int)} (h : SrtC l) (k : List Int) : ∃ a c, (∀ x ∈ a, cmpB x.1 k < 0) ∧ (∀ x ∈ c, 0 < cmpB x.1 k) ∧ ((getS l k = none ∧ l = a ++ c) ∨ ∃ v, getS l k = some v ∧ l = a ++ (k, v) :: c) := by
  induction l with
  | nil => exact ⟨[], [], by simp, by simp, .inl ⟨rfl, rfl⟩⟩
  | cons y l ih =>
    obtain ⟨h1, h2⟩ := List.pairwise_cons.1 h
    rcases Int.lt_trichotomy (cmpB y.1 k) 0 with hc | hc | hc
    · obtain ⟨a, c, ha, hcc, he⟩ := ih h2
      have hg : getS (y :: l) k = getS l k := by unfold getS; rw [List.find?_cons_of_neg (by simp; omega)]
      refine ⟨y :: a, c, fun x hx => ?_, hcc, ?_⟩
      · rcases List.mem_cons.1 hx with rfl | hx
        · exact hc
        · exact ha x hx
      · rw [hg]
        rcases he with ⟨e1, e2⟩ | ⟨v, e1, e2⟩
        · exact .inl ⟨e1, by rw [e2]; rfl⟩
        · exact .inr ⟨v, e1, by rw [e2]; rfl⟩
    · have hk := cmp_eq0 _ _ hc
      refine ⟨[], l, by simp, fun x hx => ?_, .inr ⟨y.2, ?_, ?_⟩⟩
      · have := h1 x hx; rw [hk] at this; exact cmp_pos this
      · unfold getS; rw [List.find?_cons_of_pos (by simp [hc])]; rfl
      · rw [← hk]; rfl
    · have hgt : ∀ x ∈ l, 0 < cmpB x.1 k := fun x hx => by
        have := h1 x hx
        exact cmp_pos (cmp_trans _ _ _ (cmp_neg hc) this)
      refine ⟨[], y :: l, by simp, fun x hx => ?_, .inl ⟨?_, rfl⟩⟩
      · rcases List.mem_cons.1 hx with rfl | hx
        · exact hc
        · exact hgt x hx
      · unfold getS
        rw [List.find?_eq_none.2]
        · rfl
        · intro x hx
          rcases List.mem_cons.1 hx with rfl | hx
          · simp; omega
          · have := hgt x hx; simp; omega
section
variable {a c : List (List Int × List Int)} {k : List Int}
theorem fl_lo (ha : ∀ x ∈ a, cmpB x.1 k < 0) : a.filter (fun x => decide (cmpB x.1 k < 0)) = a := List.filter_eq_self.2 (fun x hx => by simpa using ha x hx)
theorem fl_lo0 (hc : ∀ x ∈ c, 0 < cmpB x.1 k) : c.filter (fun x => decide (cmpB x.1 k < 0)) = [] := List.filter_eq_nil_iff.2 (fun x hx => by have := hc x hx; simp; omega)
theorem fl_hi (hc : ∀ x ∈ c, 0 < cmpB x.1 k) : c.filter (fun x => decide (0 < cmpB x.1 k)) = c := List.filter_eq_self.2 (fun x hx => by simpa using hc x hx)
theorem fl_hi0 (ha : ∀ x ∈ a, cmpB x.1 k < 0) : a.filter (fun x => decide (0 < cmpB x.1 k)) = [] := List.filter_eq_nil_iff.2 (fun x hx => by have := ha x hx; simp; omega)
theorem put_mid (v u : List Int) (ha : ∀ x ∈ a, cmpB x.1 k < 0) (hc : ∀ x ∈ c, 0 < cmpB x.1 k) : putS (a ++ (k, v) :: c) k u = a ++ (k, u) :: c := by
  unfold putS
  rw [List.filter_append, List.filter_append, fl_lo ha, fl_hi0 ha, List.filter_cons_of_neg (by simp [cmp_self]), List.filter_cons_of_neg (by simp [cmp_self]), fl_lo0 hc, fl_hi hc]
  simp
theorem put_new (u : List Int) (ha : ∀ x ∈ a, cmpB x.1 k < 0) (hc : ∀ x ∈ c, 0 < cmpB x.1 k) : putS (a ++ c) k u = a ++ (k, u) :: c := by
  unfold putS
  rw [List.filter_append, List.filter_append, fl_lo ha, fl_hi0 ha, fl_lo0 hc, fl_hi hc]
  simp
theorem drop_mid (v : List Int) (ha : ∀ x ∈ a, cmpB x.1 k < 0) (hc : ∀ x ∈ c, 0 < cmpB x.1 k) : dropS (a ++ (k, v) :: c) k = a ++ c := by
  unfold dropS
  rw [List.filter_append, List.filter_append, fl_lo ha, fl_hi0 ha, List.filter_cons_of_neg (by simp [cmp_self]), List.filter_cons_of_neg (by simp [cmp_self]), fl_lo0 hc, fl_hi hc]
  simp
theorem drop_new (ha : ∀ x ∈ a, cmpB x.1 k < 0) (hc : ∀ x ∈ c, 0 < cmpB x.1 k) : dropS (a ++ c) k = a ++ c := by
  unfold dropS
  rw [List.filter_append, List.filter_append, fl_lo ha, fl_hi0 ha, fl_lo0 hc, fl_hi hc]
  simp
end
/-- A change is undone by what was noted of it. -/
theorem undo_put {l : List (List Int × List Int)} (h : SrtC l) {k v : List Int} {x : Was} (hx : WasS x l k) : undoS (putS l k v) x = l := by
  obtain ⟨a, c, ha, hc, he⟩ := split_srt h k
  obtain ⟨hk, ht⟩ := hx
  unfold undoS
  rcases he with ⟨e1, e2⟩ | ⟨u, e1, e2⟩
  · rcases ht with ⟨_, e⟩ | ⟨t, _⟩
    · rw [e1] at e; cases e
    · rw [t, hk, e2, put_new v ha hc]; simp only [Bool.false_eq_true, if_false]; exact drop_mid v ha hc
  · rcases ht with ⟨t, e⟩ | ⟨_, e⟩
    · rw [e1] at e; simp at e; rw [t, hk, e2, put_mid u v ha hc, if_pos rfl, ← e]; exact put_mid v u ha hc
    · rw [e1] at e; cases e
theorem undo_drop {l : List (List Int × List Int)} (h : SrtC l) {k : List Int} {x : Was} (hx : WasS x l k) : undoS (dropS l k) x = l := by
  obtain ⟨a, c, ha, hc, he⟩ := split_srt h k
  obtain ⟨hk, ht⟩ := hx
  unfold undoS
  rcases he with ⟨e1, e2⟩ | ⟨u, e1, e2⟩
  · rcases ht with ⟨_, e⟩ | ⟨t, _⟩
    · rw [e1] at e; cases e
    · rw [t, hk, e2, drop_new ha hc]; simp only [Bool.false_eq_true, if_false]; exact drop_new ha hc
  · rcases ht with ⟨t, e⟩ | ⟨_, e⟩
    · rw [e1] at e; simp at e; rw [t, hk, e2, drop_mid u ha hc, if_pos rfl, ← e]; exact put_new u ha hc
    · rw [e1] at e; cases e
theorem drop_none {l : List (List Int × List Int)} (h : SrtC l) {k : List Int} (hg : getS l k = none) : dropS l k = l := by
  obtain ⟨a, c, ha, hc, he⟩ := split_srt h k
  rcases he with ⟨e1, e2⟩ | ⟨u, e1, e2⟩
  · rw [e2]; exact drop_new ha hc
  · rw [hg] at e1; cases e1
theorem srt_putS {l : List (List Int × List Int)} (h : SrtC l) (k v : List Int) : SrtC (putS l k v) := by
  obtain ⟨a, c, ha, hc, he⟩ := split_srt h k
  have key : ∀ a c : List (List Int × List Int), SrtC a → SrtC c → (∀ x ∈ a, cmpB x.1 k < 0) → (∀ x ∈ c, 0 < cmpB x.1 k) → SrtC (a ++ (k, v) :: c) := fun a c sa sc ha hc => by
    refine List.pairwise_append.2 ⟨sa, List.pairwise_cons.2 ⟨fun y hy => cmp_neg (hc y hy), sc⟩, fun y hy z hz => ?_⟩
    rcases List.mem_cons.1 hz with rfl | hz
    · exact ha y hy
    · exact cmp_trans _ _ _ (ha y hy) (cmp_neg (hc z hz))
  rcases he with ⟨e1, e2⟩ | ⟨u, e1, e2⟩
  · rw [e2, put_new v ha hc]
    rw [e2] at h
    obtain ⟨sa, sc, -⟩ := List.pairwise_append.1 h
    exact key a c sa sc ha hc
  · rw [e2, put_mid u v ha hc]
    rw [e2] at h
    obtain ⟨sa, sc, -⟩ := List.pairwise_append.1 h
    exact key a c sa (List.pairwise_cons.1 sc).2 ha hc
theorem rollS_app (l : List (List Int × List Int)) (a b : List Was) : rollS l (a ++ b) = rollS (rollS l b) a := by simp [rollS]

/-- A store's journal, against what its content was when each part began (the innermost last). -/
structure Jr (l : List (List Int × List Int)) (j : List Was) (b : List Nat) (was : List (List (List Int × List Int))) : Prop where
  len : b.length = was.length
  le : ∀ n ∈ b, n ≤ j.length
  up : b.Pairwise (· ≤ ·)
  snap : ∀ (i n : Nat) (x : List (List Int × List Int)), b[i]? = some n → was[i]? = some x → rollS l (j.drop n) = x
  noj : b = [] → j = []
  z0 : ∀ n : Nat, b[0]? = some n → n = 0
theorem Jr.start (l : List (List Int × List Int)) : Jr l [] [] [] := ⟨rfl, by simp, List.Pairwise.nil, by simp, fun _ => rfl, by simp⟩
/-- A change whose undoing gives what was. -/
theorem Jr.change {l l' : List (List Int × List Int)} {j : List Was} {b : List Nat} {was : List (List (List Int × List Int))} (h : Jr l j b was) (hb : b ≠ []) (x : Was) (hu : undoS l' x = l) : Jr l' (j ++ [x]) b was := by
  refine ⟨h.len, fun n hn => by have := h.le n hn; rw [List.length_append]; omega, h.up, fun i n y hn hy => ?_, fun e => absurd e hb, h.z0⟩
  have hnl := h.le n (List.mem_of_getElem? hn)
  rw [List.drop_append_of_le_length hnl, rollS_snoc, hu]
  exact h.snap i n y hn hy
/-- With no part begun. -/
theorem Jr.free {l l' : List (List Int × List Int)} {j : List Was} {was : List (List (List Int × List Int))} (h : Jr l j [] was) : Jr l' j [] was :=
  ⟨h.len, by simp, h.up, by simp, h.noj, by simp⟩
theorem Jr.beg {l : List (List Int × List Int)} {j : List Was} {b : List Nat} {was : List (List (List Int × List Int))} (h : Jr l j b was) : Jr l j (b ++ [j.length]) (was ++ [l]) := by
  refine ⟨by simp [h.len], fun n hn => ?_, List.pairwise_append.2 ⟨h.up, List.pairwise_singleton _ _, fun x hx y hy => by rw [List.mem_singleton] at hy; subst hy; exact h.le x hx⟩, fun i n y hn hy => ?_, fun e => by simp at e, fun n hn => ?_⟩
  · rcases List.mem_append.1 hn with hn | hn
    · exact h.le n hn
    · rw [List.mem_singleton] at hn; omega
  · by_cases hi : i < b.length
    · rw [List.getElem?_append_left hi] at hn
      rw [List.getElem?_append_left (by rw [← h.len]; exact hi)] at hy
      exact h.snap i n y hn hy
    · have hi2 : i = b.length := by
        have := (List.getElem?_eq_some_iff.1 hn).1
        simp at this; omega
      subst hi2
      rw [List.getElem?_append_right (Nat.le_refl _), Nat.sub_self] at hn
      rw [h.len, List.getElem?_append_right (Nat.le_refl _), Nat.sub_self] at hy
      simp at hn hy
      rw [← hn, ← hy, List.drop_length]; rfl
  · by_cases hb : b = []
    · subst hb; rw [h.noj rfl] at hn; simp at hn; omega
    · have hbl : 0 < b.length := by cases b with | nil => exact absurd rfl hb | cons _ _ => simp
      rw [List.getElem?_append_left hbl] at hn
      exact h.z0 n hn
theorem Jr.com {l : List (List Int × List Int)} {j : List Was} {b : List Nat} {n : Nat} {was : List (List (List Int × List Int))} {x : List (List Int × List Int)} (h : Jr l j (b ++ [n]) (was ++ [x])) : Jr l (keepJ b j) b was := by
  have hl : b.length = was.length := by have := h.len; simpa using this
  by_cases hb : b = []
  · subst hb
    obtain rfl : was = [] := List.eq_nil_of_length_eq_zero hl.symm
    exact ⟨rfl, by simp, List.Pairwise.nil, by simp, fun _ => by simp [keepJ], by simp⟩
  · rw [keepJ, if_neg hb]
    refine ⟨hl, fun m hm => h.le m (List.mem_append_left _ hm), (List.pairwise_append.1 h.up).1, fun i m y hm hy => ?_, fun e => absurd e hb, fun m hm => h.z0 m (by rw [List.getElem?_append_left (List.getElem?_eq_some_iff.1 hm).1]; exact hm)⟩
    exact h.snap i m y (by rw [List.getElem?_append_left (List.getElem?_eq_some_iff.1 hm).1]; exact hm) (by rw [List.getElem?_append_left (List.getElem?_eq_some_iff.1 hy).1]; exact hy)
/-- Rolled back: the content is what it was when the innermost part began. -/
theorem Jr.rol {l : List (List Int × List Int)} {j : List Was} {b : List Nat} {n : Nat} {was : List (List (List Int × List Int))} {x : List (List Int × List Int)} (h : Jr l j (b ++ [n]) (was ++ [x])) : rollS l (j.drop n) = x ∧ Jr x (j.take n) b was := by
  have hl : b.length = was.length := by have := h.len; simpa using this
  have hx : rollS l (j.drop n) = x := h.snap b.length n x (by simp) (by rw [hl]; simp)
  have hnj := h.le n (by simp)
  refine ⟨hx, hl, fun m hm => ?_, (List.pairwise_append.1 h.up).1, fun i m y hm hy => ?_, fun e => ?_, fun m hm => h.z0 m (by rw [List.getElem?_append_left (List.getElem?_eq_some_iff.1 hm).1]; exact hm)⟩
  · have := (List.pairwise_append.1 h.up).2.2 m hm n (by simp)
    rw [List.length_take]; omega
  · have hmn := (List.pairwise_append.1 h.up).2.2 m (List.mem_of_getElem? hm) n (by simp)
    have hs := h.snap i m y (by rw [List.getElem?_append_left (List.getElem?_eq_some_iff.1 hm).1]; exact hm) (by rw [List.getElem?_append_left (List.getElem?_eq_some_iff.1 hy).1]; exact hy)
    rw [← hs, ← hx, ← rollS_app]
    congr 1
    conv => rhs; rw [← List.take_append_drop n j]
    rw [List.drop_append_of_le_length (by rw [List.length_take]; omega)]
  · subst e; rw [h.z0 n (by simp)]; rfl
end Go.Proofs.Ytgphdioolcfmmaa

/- The program's store as a bundle: what is in it, what was when each part began; its calls over that. (For the layers over it.) -/
namespace Go.Proofs.Ytgphdioolcfmmaa
open Go.RowKit

theorem begs_cons (a b : Int) (x p : List Int) : begs (a :: x) (b :: p) = (decide (a = b) && begs x p) := by
  by_cases h1 : a = b
  · subst h1; simp [begs]
  · simp [begs, h1]
theorem begs_ge : ∀ (p k : List Int), begs k p = true → 0 ≤ cmpB k p
  | [], [], _ => by simp [cmpB]
  | [], _ :: _, _ => by simp [cmpB]
  | b :: p, [], h => by simp [begs] at h
  | b :: p, a :: k, h => by
    rw [begs_cons] at h
    simp at h
    obtain ⟨rfl, h⟩ := h
    have := begs_ge p k h
    simp [cmpB, this]
theorem begs_past : ∀ (p x y : List Int), 0 ≤ cmpB x p → begs x p = false → cmpB x y < 0 → begs y p = false
  | [], x, y, _, h, _ => by simp [begs] at h
  | b :: p, [], y, h, _, _ => by simp [cmpB] at h
  | b :: p, a :: x, [], _, _, h => by simp [cmpB] at h
  | b :: p, a :: x, c :: y, h1, h2, h3 => by
    rw [begs_cons] at h2 ⊢
    simp only [cmpB] at h1 h3
    by_cases hab : a < b
    · rw [if_pos hab] at h1; omega
    · by_cases hba : b < a
      · by_cases hac : a < c
        · simp [show ¬ c = b by omega]
        · by_cases hca : c < a
          · rw [if_neg hac, if_pos hca] at h3; omega
          · simp [show ¬ c = b by omega]
      · obtain rfl : a = b := by omega
        rw [if_neg hab, if_neg hba] at h1
        simp at h2
        by_cases hac : a < c
        · simp [show ¬ c = a by omega]
        · by_cases hca : c < a
          · rw [if_neg hac, if_pos hca] at h3; omega
          · obtain rfl : a = c := by omega
            rw [if_neg hac, if_neg hca] at h3
            simp [begs_past p x y h1 h2 h3]
theorem run_filter {p : List Int} : ∀ r : List Rec, Srt r → (∀ x ∈ r, 0 ≤ cmpB x.k p) → r.takeWhile (fun x => begs x.k p) = r.filter (fun x => begs x.k p)
  | [], _, _ => rfl
  | x :: r, hs, h => by
    obtain ⟨h1, h2⟩ := srt_tail hs
    cases hb : begs x.k p with
    | true =>
      rw [List.takeWhile_cons_of_pos (by simpa using hb), List.filter_cons_of_pos (by simpa using hb), run_filter r h1 (fun y hy => h y (by simp [hy]))]
    | false =>
      rw [List.takeWhile_cons_of_neg (by simp [hb]), List.filter_cons_of_neg (by simp [hb]), eq_comm, List.filter_eq_nil_iff]
      intro y hy
      rw [begs_past p x.k y.k (h x (by simp)) hb (h2 y hy)]
      simp
/-- The keys that begin so. -/
def keysS (L : List (List Int × List Int)) (p : List Int) : List (List Int) := (L.filter (fun x => begs x.1 p)).map (·.1)
theorem keysS_cont (r : List Rec) (p : List Int) : (r.filter (fun x => begs x.k p)).map (·.k) = keysS (cont r) p := by
  unfold keysS cont
  rw [List.filter_map, List.map_map]
  rfl
theorem runS_keys {r : List Rec} {p : List Int} {i : Nat} {f : Bool} (hs : Srt r) (h : FindS r p i f) : runS (r.drop i) p = keysS (cont r) p := by
  rw [← keysS_cont]
  unfold runS
  rw [run_filter (r.drop i) (hs.sublist (List.drop_sublist _ _)) h.hi']
  conv => rhs; rw [← List.take_append_drop i r]
  have e : (r.take i).filter (fun x => begs x.k p) = [] := by
    rw [List.filter_eq_nil_iff]
    intro x hx hb
    have := begs_ge p x.k (by simpa using hb)
    have := h.lo' x hx
    omega
  rw [List.filter_append, e, List.nil_append]
theorem keysS_srt {L : List (List Int × List Int)} (h : SrtC L) (p : List Int) : (keysS L p).Pairwise (fun x y => cmpB x y < 0) := by
  unfold keysS
  rw [List.pairwise_map]
  exact h.sublist List.filter_sublist
theorem Own.isB {W : World} {g : Nat} {v : Value} {q : List Int} (h : Own W g v q) (hl : q.length ≤ 1048576) : IsBytes W v q := by
  obtain ⟨rfl, hb⟩ := h
  refine .inr ⟨g, 0, q.length, rfl, by omega, (Array.getElem?_eq_some_iff.1 hb).1, fun i x hi => ?_⟩
  rw [(cells_of_block hb).1]; simp [encB, hi]
theorem Src.nil {W W' : World} {u : Value} (h : Src W u []) : Src W' u [] := by
  rcases h with h | ⟨ad, cap, e, -⟩
  · exact .inl h
  · exact .inr ⟨ad, cap, e, by simp⟩
theorem Src.fr2 {W W' : World} {A A' : Nat → Prop} {u : Value} {q : List Int} (h : Src W u q) (hf : Fr W W' A A') (ho : q = [] ∨ ∀ g, u.ownBlock = some g → ¬ A g) : Src W' u q := by
  rcases ho with rfl | ho
  · exact h.nil
  · exact h.fr hf ho
section
variable {W : World} {s base : Nat} {A : Nat → Prop} {vp vj vb : Value} {r : List Rec} {j : List Was} {b : List Nat}
set_option maxHeartbeats 4000000 in
theorem set_any2 {uk uv : Value} {k v : List Int} (h : StC W s base A vp vj vb r j b) (hs : Srt r) (hn : r.length < 100000) (hj : j.length ≤ 100000) (hk : Src W uk k) (hv : Src W uv v) (hkb : Byte k) (hvb : Byte v) (hkl : k.length ≤ 1048576) (hvl : v.length ≤ 1048576) (hko : k = [] ∨ ∀ g, uk.ownBlock = some g → ¬ A g) (hvo : v = [] ∨ ∀ g, uv.ownBlock = some g → ¬ A g) :
    Calls Try.prog 69 #[.pointer (some ⟨s, 0, none⟩), uk, uv] W fun e w' => e = .returned (.tuple #[]) ∧ ∃ A' vp' vj' r' j', StC w' s base A' vp' vj' vb r' j' b ∧ Srt r' ∧ cont r' = putS (cont r) k v ∧ r'.length ≤ r.length + 1 ∧ JS (cont r) k j j' b ∧ Fr W w' A A' := by
  have hN := note_any h hs (by omega) hj hk hkb hkl
  obtain ⟨sk, ck, rfl, -⟩ := hk.parts
  obtain ⟨sv, cv, rfl, -⟩ := hv.parts
  go_enter Try.func69, Try.ntmps69
  go_wp2_with (first
    | (go_at_call 78; refine hN.mono ?_; rintro e w1 ⟨rfl, A1, vj1, j1, h1, hJ, f1⟩; have hk1 := hk.fr2 f1 hko; have hv1 := hv.fr2 f1 hvo; have hO1 := own_any hkl hk1)
    | (go_at_call 67; refine hO1.mono ?_; rintro e w2 ⟨kv, rfl, ho2, hb2⟩; have hv2 := hv1.kept (grown_none hb2); have hO2 := own_any hvl hv2; clear hO1; obtain rfl := ho2.1)
    | (go_at_call 67; refine hO2.mono ?_; rintro e w3 ⟨vv, rfl, ho3, hb3⟩; clear hO2; have ho2' := ho2.kept (hb3.block _ ho2.lt); have h3 := ((h1.below hb2).below hb3).ext (B := fun n => A1 n ∨ n = w1.heap.size ∨ n = w2.heap.size) (fun n hn => .inl hn) (fun n hn => by rcases hn with hn | rfl | rfl; exact (((h1.below hb2).below hb3).foot n hn); exact ⟨h1.le, ho2'.lt⟩; exact ⟨Nat.le_trans h1.le hb2.size, ho3.lt⟩); have hP := put_any h3 hs hn (ho2'.inA (.inr (.inl rfl)) hkb hkl) (ho3.inA (.inr (.inr rfl)) hvb hvl); obtain rfl := ho3.1)
    | (go_at_call 80; refine hP.mono ?_; rintro e w4 ⟨rfl, A4, vp4, r4, h4, hs4, hc4, hl4, f4⟩))
  refine bodyPost_end (v := .tuple #[]) (by simp [results, Try.results69]) rfl ?_
  have fm : Fr w1 w3 A1 (fun n => A1 n ∨ n = w1.heap.size ∨ n = w2.heap.size) := (Fr.more (W := w1) (fun n hn => .inl hn) (fun n hn => by rcases hn with hn | hn | hn; exact .inl hn; exact .inr (by omega); exact .inr (by have := hb2.size; omega))).trans (Fr.below (bt hb2 hb3))
  exact ⟨rfl, _, _, _, _, _, h4, hs4, hc4, hl4, hJ, (f1.trans fm).trans f4⟩
set_option maxHeartbeats 4000000 in
theorem del_any2 {uk : Value} {k : List Int} (h : StC W s base A vp vj vb r j b) (hs : Srt r) (hn : r.length ≤ 100000) (hj : j.length ≤ 100000) (hk : Src W uk k) (hkb : Byte k) (hkl : k.length ≤ 1048576) (hko : k = [] ∨ ∀ g, uk.ownBlock = some g → ¬ A g) :
    Calls Try.prog 68 #[.pointer (some ⟨s, 0, none⟩), uk] W fun e w' => e = .returned (.tuple #[]) ∧ ∃ A' vp' vj' r' j', StC w' s base A' vp' vj' vb r' j' b ∧ Srt r' ∧ cont r' = dropS (cont r) k ∧ r'.length ≤ r.length ∧ ((getS (cont r) k = none ∧ j' = j) ∨ (getS (cont r) k ≠ none ∧ JS (cont r) k j j' b)) ∧ Fr W w' A A' := by
  have hF := find_any h hs (by omega) hk hkb
  have hk' := hk
  obtain ⟨sk, ck, rfl, -⟩ := hk'.parts
  go_enter Try.func68, Try.ntmps68
  go_wp2_with (first
    | (go_at_call 64; refine hF.mono ?_; rintro e w1 ⟨i, f, rfl, hfs, hb1⟩; have h1 := h.below hb1; have hk1 := hk.kept (grown_none hb1); have hN := note_any h1 hs (by omega) hj hk1 hkb hkl; cases f)
    | (go_at_call 78; refine hN.mono ?_; rintro e w2 ⟨rfl, A2, vj2, j2, h2, hJ, f2⟩; have hk2 := hk1.fr2 f2 hko; have hD := drop_any h2 hs hn hk2 hkb)
    | (go_at_call 79; refine hD.mono ?_; rintro e w3 ⟨rfl, A3, vp3, r3, h3, hs3, hc3, hl3, f3⟩))
  · refine bodyPost_end (v := .tuple #[]) (by simp [results, Try.results68]) rfl ?_
    refine ⟨rfl, _, _, _, _, _, h1, hs, ?_, Nat.le_refl _, .inl ⟨get_no hfs hs, rfl⟩, Fr.below hb1⟩
    rw [dropS, filter_lo hfs, filter_no hfs hs, ← cont_app, List.take_append_drop]
  · refine bodyPost_end (v := .tuple #[]) (by simp [results, Try.results68]) rfl ?_
    obtain ⟨hi, -, -⟩ := hfs.yes hs
    exact ⟨rfl, _, _, _, _, _, h3, hs3, hc3, hl3, .inr ⟨by rw [get_yes hfs hs hi]; simp, hJ⟩, ((Fr.below hb1).trans f2).trans f3⟩
end
theorem put_len {l : List (List Int × List Int)} (h : SrtC l) (k v : List Int) : (putS l k v).length ≤ l.length + 1 := by
  obtain ⟨a, c, ha, hc, he⟩ := split_srt h k
  rcases he with ⟨-, e2⟩ | ⟨u, -, e2⟩
  · rw [e2, put_new v ha hc]; simp; omega
  · rw [e2, put_mid u v ha hc]; simp
theorem drop_len {l : List (List Int × List Int)} (h : SrtC l) (k : List Int) : (dropS l k).length ≤ l.length := by
  obtain ⟨a, c, ha, hc, he⟩ := split_srt h k
  rcases he with ⟨-, e2⟩ | ⟨u, -, e2⟩
  · rw [e2, drop_new ha hc]; omega
  · rw [e2, drop_mid u ha hc]; simp
theorem srt_dropS {l : List (List Int × List Int)} (h : SrtC l) (k : List Int) : SrtC (dropS l k) := by
  obtain ⟨a, c, ha, hc, he⟩ := split_srt h k
  rcases he with ⟨-, e2⟩ | ⟨u, -, e2⟩
  · rw [e2, drop_new ha hc, ← e2]; exact h
  · rw [e2, drop_mid u ha hc]
    rw [e2] at h
    exact h.sublist (List.Sublist.append (List.Sublist.refl _) (List.sublist_cons_self _ _))
theorem cont_srt {r : List Rec} (h : SrtC (cont r)) : Srt r := by
  unfold SrtC cont at h
  rw [List.pairwise_map] at h
  exact h
theorem cont_len (r : List Rec) : (cont r).length = r.length := by simp [cont]
/-- The program's store: what is in it, and what was when each part began. -/
def StD (W : World) (s base : Nat) (A : Nat → Prop) (L : List (List Int × List Int)) (ds : List (List (List Int × List Int))) (n : Nat) : Prop :=
  ∃ vp vj vb r j b, StC W s base A vp vj vb r j b ∧ Srt r ∧ cont r = L ∧ Jr L j b ds ∧ L.length ≤ n ∧ j.length ≤ n ∧ ds.length ≤ n ∧ ∀ x ∈ ds, x.length ≤ n
section
variable {W : World} {s base : Nat} {A : Nat → Prop} {L : List (List Int × List Int)} {ds : List (List (List Int × List Int))} {n : Nat}
theorem StD.kept {W' : World} (h : StD W s base A L ds n) (e : ∀ k, A k → W'.heap[k]? = W.heap[k]?) (hs : W.heap.size ≤ W'.heap.size) : StD W' s base A L ds n := by
  obtain ⟨vp, vj, vb, r, j, b, h1, h2⟩ := h
  exact ⟨vp, vj, vb, r, j, b, h1.kept e hs, h2⟩
theorem StD.foot (h : StD W s base A L ds n) : ∀ k, A k → base ≤ k ∧ k < W.heap.size := by
  obtain ⟨vp, vj, vb, r, j, b, h1, h2⟩ := h
  exact h1.foot
theorem StD.below {W' : World} (h : StD W s base A L ds n) (hb : Below W.heap.size W W') : StD W' s base A L ds n :=
  h.kept (fun k hk => hb.block k (h.foot k hk).2) hb.size
theorem StD.srt (h : StD W s base A L ds n) : SrtC L := by
  obtain ⟨vp, vj, vb, r, j, b, h1, h2, h3, -⟩ := h
  exact h3 ▸ srt_cont h2
theorem StD.up (h : StD W s base A L ds n) {n' : Nat} (hn : n ≤ n') : StD W s base A L ds n' := by
  obtain ⟨vp, vj, vb, r, j, b, h1, h2, h3, h4, h5, h6, h7, h8⟩ := h
  exact ⟨vp, vj, vb, r, j, b, h1, h2, h3, h4, by omega, by omega, by omega, fun x hx => Nat.le_trans (h8 x hx) hn⟩
theorem stdSet {uk uv : Value} {k v : List Int} (h : StD W s base A L ds n) (hn : n ≤ 1000) (hk : Src W uk k) (hv : Src W uv v) (hkb : Byte k) (hvb : Byte v) (hkl : k.length ≤ 1048576) (hvl : v.length ≤ 1048576) (hko : k = [] ∨ ∀ g, uk.ownBlock = some g → ¬ A g) (hvo : v = [] ∨ ∀ g, uv.ownBlock = some g → ¬ A g) :
    Calls Try.prog 69 #[.pointer (some ⟨s, 0, none⟩), uk, uv] W fun e w' => e = .returned (.tuple #[]) ∧ ∃ A', StD w' s base A' (putS L k v) ds (n + 1) ∧ Fr W w' A A' := by
  have hS := h.srt
  obtain ⟨vp, vj, vb, r, j, b, h1, h2, h3, h4, h5, h6, h7, h8⟩ := h
  subst h3
  have hpl := put_len hS k v
  have hcl := cont_len r
  refine (set_any2 h1 h2 (by omega) (by omega) hk hv hkb hvb hkl hvl hko hvo).mono ?_
  rintro e w' ⟨rfl, A', vp', vj', r', j', g1, g2, g3, g4, g5, g6⟩
  refine ⟨rfl, A', ⟨vp', vj', vb, r', j', b, g1, g2, g3, ?_, by omega, ?_, by omega, fun x hx => Nat.le_trans (h8 x hx) (by omega)⟩, g6⟩
  · rcases g5 with ⟨rfl, rfl⟩ | ⟨hb, x, hx, rfl⟩
    · exact h4.free
    · exact h4.change hb x (undo_put hS hx)
  · rcases g5 with ⟨rfl, rfl⟩ | ⟨hb, x, hx, rfl⟩
    · omega
    · simp; omega
theorem stdDel {uk : Value} {k : List Int} (h : StD W s base A L ds n) (hn : n ≤ 1000) (hk : Src W uk k) (hkb : Byte k) (hkl : k.length ≤ 1048576) (hko : k = [] ∨ ∀ g, uk.ownBlock = some g → ¬ A g) :
    Calls Try.prog 68 #[.pointer (some ⟨s, 0, none⟩), uk] W fun e w' => e = .returned (.tuple #[]) ∧ ∃ A', StD w' s base A' (dropS L k) ds (n + 1) ∧ Fr W w' A A' := by
  have hS := h.srt
  obtain ⟨vp, vj, vb, r, j, b, h1, h2, h3, h4, h5, h6, h7, h8⟩ := h
  subst h3
  have hpl := drop_len hS k
  have hcl := cont_len r
  refine (del_any2 h1 h2 (by omega) (by omega) hk hkb hkl hko).mono ?_
  rintro e w' ⟨rfl, A', vp', vj', r', j', g1, g2, g3, g4, g5, g6⟩
  refine ⟨rfl, A', ⟨vp', vj', vb, r', j', b, g1, g2, g3, ?_, by omega, ?_, by omega, fun x hx => Nat.le_trans (h8 x hx) (by omega)⟩, g6⟩
  · rcases g5 with ⟨e, rfl⟩ | ⟨-, ⟨rfl, rfl⟩ | ⟨hb, x, hx, rfl⟩⟩
    · rw [drop_none hS e]; exact h4
    · exact h4.free
    · exact h4.change hb x (undo_drop hS hx)
  · rcases g5 with ⟨e, rfl⟩ | ⟨-, ⟨rfl, rfl⟩ | ⟨hb, x, hx, rfl⟩⟩
    · omega
    · omega
    · simp; omega
theorem snoc_of {b : List Nat} {k : Nat} (h : b.length = k + 1) : ∃ c m, b = c ++ [m] := by
  have hne : b ≠ [] := by intro e; subst e; simp at h
  exact ⟨b.dropLast, b.getLast hne, (List.dropLast_concat_getLast hne).symm⟩
end
theorem stdNew (W : World) : Calls Try.prog 11 #[] W fun e w' => e = .returned (.pointer (some ⟨W.heap.size, 0, none⟩)) ∧ StD w' W.heap.size W.heap.size (fun k => k = W.heap.size) [] [] 0 ∧ Below W.heap.size W w' := by
  refine (new_any W).mono ?_
  rintro e w' ⟨rfl, h, hb⟩
  exact ⟨rfl, ⟨_, _, _, [], [], [], h, List.Pairwise.nil, rfl, Jr.start _, by simp, by simp, by simp, by simp⟩, hb⟩
/-- A list of keys that can be read. -/
def Kst (W : World) (v : Value) (K : List (List Int)) : Prop := (∃ a c, v = .slice a K.length c) ∧ ∀ (i : Nat) (hi : i < K.length), ∃ g cap a c, v = .slice (some ⟨g, 0, none⟩) K.length cap ∧ g < W.heap.size ∧ W.cell? ⟨g, i, none⟩ = some (.slice a K[i].length c) ∧ IsBytes W (.slice a K[i].length c) K[i]
theorem Kst.below {W W' : World} {v : Value} {K : List (List Int)} (h : Kst W v K) (hb : Below W.heap.size W W') : Kst W' v K := by
  refine ⟨h.1, fun i hi => ?_⟩
  obtain ⟨g, cap, a, c, e, h1, h2, h3⟩ := h.2 i hi
  exact ⟨g, cap, a, c, e, Nat.lt_of_lt_of_le h1 hb.size, (hb.cell (p := ⟨g, i, none⟩) h1).trans h2, h3.below hb⟩
theorem kst_of {W : World} {base : Nat} {v : Value} {ks : List (Value × List Int)} (h : W.ownsRow base 81 1 v ks.length (ks.map (·.1))) (hb : ∀ x ∈ ks, IsBytes W x.1 x.2) : Kst W v (ks.map (·.2)) := by
  refine ⟨by rw [List.length_map]; exact row_slice h, fun i hi => ?_⟩
  rw [List.length_map] at hi
  rcases h.2 with ⟨_, h0⟩ | ⟨g, cap, cur, rfl, h1, h2, h3⟩
  · omega
  · have hc := World.ownsRow.cellAt h i (by omega)
    rw [List.getElem?_map, List.getElem?_eq_getElem hi] at hc
    have hx := hb ks[i] (List.getElem_mem hi)
    obtain ⟨a, c, e⟩ := hx.slice
    have e2 : (ks.map (·.2))[i]'(by rw [List.length_map]; exact hi) = ks[i].2 := by simp
    refine ⟨g, cap, a, c, by rw [List.length_map], (Array.getElem?_eq_some_iff.1 h2).1, ?_, ?_⟩
    · rw [e2, ← e]; exact hc
    · rw [e2, ← e]; exact hx
section
variable {W : World} {s base : Nat} {A : Nat → Prop} {L : List (List Int × List Int)} {ds : List (List (List Int × List Int))} {n : Nat} {u : Value} {k p : List Int}
theorem stdGet (h : StD W s base A L ds n) (hn : n ≤ 1000) (hu : Src W u k) (hk : Byte k) :
    Calls Try.prog 53 #[.pointer (some ⟨s, 0, none⟩), u] W fun e w' => Below W.heap.size W w' ∧ ((getS L k = none ∧ e = .returned (.tuple #[.slice none 0 0, .bool false])) ∨ ∃ v q, getS L k = some q ∧ e = .returned (.tuple #[v, .bool true]) ∧ IsBytes w' v q) := by
  obtain ⟨vp, vj, vb, r, j, b, h1, h2, h3, h4, h5, h6, h7, h8⟩ := h
  subst h3
  have hcl := cont_len r
  refine (get_any h1 h2 (by omega) hu hk).mono ?_
  rintro e w' ⟨hb, ⟨e1, rfl⟩ | ⟨v, g, q, e1, rfl, ho, -, -, hql⟩⟩
  · exact ⟨hb, .inl ⟨e1, rfl⟩⟩
  · exact ⟨hb, .inr ⟨_, _, e1, rfl, ho.isB hql⟩⟩
theorem stdKeys (h : StD W s base A L ds n) (hn : n ≤ 1000) (hu : Src W u p) (hp : Byte p) (hpl : p.length ≤ 1048576) :
    Calls Try.prog 51 #[.pointer (some ⟨s, 0, none⟩), u] W fun e w' => ∃ v, e = .returned v ∧ Kst w' v (keysS L p) ∧ Below W.heap.size W w' := by
  obtain ⟨vp, vj, vb, r, j, b, h1, h2, h3, h4, h5, h6, h7, h8⟩ := h
  subst h3
  have hcl := cont_len r
  refine (keys_any h1 h2 (by omega) hu hp hpl).mono ?_
  rintro e w' ⟨v, ks, i, f, rfl, g1, g2, g3, g4⟩
  rw [runS_keys h2 g2] at g3
  refine ⟨v, rfl, ?_, g4⟩
  rw [← g3]
  refine kst_of g1.row (fun x hx => ?_)
  obtain ⟨g, -, ho⟩ := g1.own x hx
  refine ho.isB ?_
  have hx2 : x.2 ∈ keysS (cont r) p := by rw [← g3]; exact List.mem_map_of_mem hx
  rw [← keysS_cont] at hx2
  obtain ⟨y, hy, hyx⟩ := List.mem_map.1 hx2
  rw [← hyx]
  exact (h1.recs y (List.mem_filter.1 hy).1).1.2.2
theorem stdDepth (h : StD W s base A L ds n) : Calls Try.prog 85 #[.pointer (some ⟨s, 0, none⟩)] W fun e w' => e = .returned (.int .i64 (ds.length : Int)) ∧ w' = W := by
  obtain ⟨vp, vj, vb, r, j, b, h1, h2, h3, h4, h5⟩ := h
  rw [← h4.len]
  exact depth_any h1
end
theorem keysS_all (L : List (List Int × List Int)) : (keysS L []).length = L.length := by
  unfold keysS
  rw [List.filter_eq_self.2 (fun x _ => by simp [begs]), List.length_map]
end Go.Proofs.Ytgphdioolcfmmaa

/- Lists that are purses' may be. -/
namespace Go.Proofs.Ytgphdioolcfmmaa
open Go.RowKit

theorem lst_right {z : Nat → Cn} (hz : Purse z) : ∀ k, k ≤ 8 → RightP (lst z k)
  | 0, _ => by intro i x hi; simp [lst] at hi
  | k + 1, hk => by
    have ih := lst_right hz k (by omega)
    intro i x hi
    simp only [lst] at hi ⊢
    by_cases hlt : i < (lst z k).length
    · rw [List.getElem?_append_left hlt] at hi
      obtain ⟨h1, h2, h3⟩ := ih i x hi
      refine ⟨h1, h2, fun j y hj hy => h3 j y hj ?_⟩
      rw [List.getElem?_append_left (by omega)] at hy
      exact hy
    · rw [List.getElem?_append_right (by omega)] at hi
      have hm : x ∈ oneL (z k) := List.mem_of_getElem? hi
      have hi0 : i - (lst z k).length = 0 := by
        have h1 : (oneL (z k)).length ≤ 1 := by unfold oneL; split <;> simp
        have h2 := (List.getElem?_eq_some_iff.1 hi).1
        omega
      unfold oneL at hm
      split at hm
      · simp at hm
      · rename_i hq
        rw [List.mem_singleton] at hm
        subst hm
        refine ⟨?_, by simpa using hq, fun j y hj hy => ?_⟩
        · rw [(hz k (by omega)).2]; omega
        · rw [List.getElem?_append_left (by omega)] at hy
          obtain ⟨e, he, rfl, -⟩ := lst_mem k y (List.mem_of_getElem? hy)
          rw [(hz e (by omega)).2, (hz k (by omega)).2]; omega
theorem rightL_any {v : Value} {z : Nat → Cn} (hz : Purse z) (w : World) (h : IsCoins w v (lst z 8)) :
    Calls Try.prog 55 #[v] w fun e w' => e = .returned (.bool true) ∧ Below w.heap.size w w' := by
  have := right_any w h (lst_wf hz)
  rwa [right_eq (lst_right hz 8 (Nat.le_refl _)) (lst_wf hz)] at this
end Go.Proofs.Ytgphdioolcfmmaa

/- Coins that are answered, as rows of their own. -/
namespace Go.Proofs.Ytgphdioolcfmmaa
open Go.RowKit

theorem grown_below {W W' : World} (hb : Below W.heap.size W W') : W.grownBy W' none := ⟨hb.os, hb.tape, hb.output, hb.size, fun k hk _ => hb.block k hk⟩
theorem own_below {W W' : World} {base : Nat} {e : TypeId} {size : Nat} {v : Value} {n : Nat} {xs : List Value} (h : W.ownsRow base e size v n xs) (hb : Below W.heap.size W W') : W'.ownsRow base e size v n xs :=
  h.kept (grown_below hb) (by cases hv : v.ownBlock <;> simp)
theorem own_ne {W : World} {b b' : Nat} {e e' : TypeId} {s s' : Nat} {v v' : Value} {n n' : Nat} {xs xs' : List Value} (h : W.ownsRow b e s v n xs) (h' : W.ownsRow b' e' s' v' n' xs') (hne : e ≠ e') : v.ownBlock = none ∨ v.ownBlock ≠ v'.ownBlock := by
  rcases h.2 with ⟨rfl, _⟩ | ⟨g, cap, cur, rfl, _, hg, _⟩
  · exact .inl rfl
  · rcases h'.2 with ⟨rfl, _⟩ | ⟨g', cap', cur', rfl, _, hg', _⟩
    · exact .inr (by simp [Value.ownBlock])
    · refine .inr (fun ee => ?_)
      have : g = g' := by simpa [Value.ownBlock] using ee
      subst this
      rw [hg] at hg'
      simp at hg'
      exact hne hg'.2
theorem own_slice {W : World} {base : Nat} {e : TypeId} {size : Nat} {v : Value} {k : Nat} {xs : List Value} (h : W.ownsRow base e size v k xs) : v.oneCell' = true := by
  rcases h.2 with ⟨rfl, rfl⟩ | ⟨g, cap, _, rfl, _⟩ <;> rfl
theorem not_rowC {W : World} {B : Nat} {c : Array Value} {t e : TypeId} (h : W.heap[B]? = some (.cells c t (0, 0))) (hte : t ≠ e) {base size k : Nat} {v : Value} {xs : List Value} (hr : W.ownsRow base e size v k xs) : some B ≠ v.ownBlock := by
  rcases hr.2 with ⟨rfl, _⟩ | ⟨g, cap, cur, rfl, _, hgb, _⟩
  · simp [Value.ownBlock]
  · intro e'
    obtain rfl : B = g := by simpa [Value.ownBlock] using e'
    have := h.symm.trans hgb
    simp at this
    exact hte this.2
theorem row_sliceC {W : World} {base : Nat} {e : TypeId} {size : Nat} {v : Value} {k : Nat} {xs : List Value} (h : W.ownsRow base e size v k xs) : ∃ a cap, v = .slice a k cap := by
  rcases h.2 with ⟨rfl, rfl⟩ | ⟨g, cap, _, rfl, _⟩
  · exact ⟨_, _, rfl⟩
  · exact ⟨_, _, rfl⟩
theorem lst_same {s z : Nat → Cn} (hz : Purse z) (h : ∀ d, d < 8 → LimC (s d) ∧ (s d).d = d ∧ vl (s d) = vl (z d)) : lst s 8 = lst z 8 :=
  lst_congr 8 (fun d hd => (cn_one (h d hd).1 (h d hd).2.1 (h d hd).2.2).trans (cn_one (hz d hd).1 (hz d hd).2 rfl).symm)
theorem nil_coins (W : World) : IsCoins W (.slice none 0 0) (lst zeroP 8) := .inl ⟨lst_zero 8, none, 0, rfl⟩
theorem vl_zero (d : Nat) : vl (zeroP d) = 0 := by show val 0 0 0 0 = 0; exact val0

set_option maxHeartbeats 2000000 in
theorem addC_own {va : Value} {z : Nat → Cn} (hz : Purse z) (w : World) (hA : IsCoins w va (lst z 8)) :
    Calls Try.prog 42 #[va, .slice none 0 0] w fun e w' => ∃ u, e = .returned (.tuple #[u, .int .i64 0]) ∧ w'.ownsRow w.heap.size 65 5 u (lst z 8).length (cellsL (lst z 8)) ∧ Below w.heap.size w w' := by
  have hof : ∀ (x0 x1 x2 x3 y0 y1 y2 y3 : Int) (W : World), Lim x0 x1 x2 x3 → Lim y0 y1 y2 y3 →
      Below (w.alloc (.cells #[.func (.func 60) #[] #[]] 106)).heap.size (w.alloc (.cells #[.func (.func 60) #[] #[]] 106)) W →
      Calls Try.prog 60 (#[.agg #[.int .u64 x0, .int .u64 x1, .int .u64 x2, .int .u64 x3], .agg #[.int .u64 y0, .int .u64 y1, .int .u64 y2, .int .u64 y3]] ++ #[]) W fun e w' =>
        ∃ z0 z1 z2 z3 c : Int, e = .returned (.tuple #[.agg #[.int .u64 z0, .int .u64 z1, .int .u64 z2, .int .u64 z3], .int .i64 c]) ∧ Lim z0 z1 z2 z3 ∧ AddS (val x0 x1 x2 x3) (val y0 y1 y2 y3) (val z0 z1 z2 z3) c ∧ Below W.heap.size W w' :=
    fun x0 x1 x2 x3 y0 y1 y2 y3 W hx hy _ => add_any x0 x1 x2 x3 y0 y1 y2 y3 hx hy W
  have hB := nil_coins w
  go_enter Try.func42, Try.ntmps42
  go_wp2_with (first
    | (go_at_call 58; refine (ofEachM_any _ _ rfl).mono ?_; rintro e w1 ⟨rfl, rfl⟩)
    | (go_at_call 71; refine (ofEach_any 60 #[] AddS w.heap.size _ (hA.below (by (repeat (first | (with_reducible exact Below.refl _ _) | (with_reducible assumption) | (with_reducible apply bd) | (with_reducible apply ba) | (with_reducible refine bp ?_ (by first | omega | (simp [pad_size]; done) | (simp [pad_size]; omega)) _ _) | (with_reducible refine bs ?_ (by first | omega | (simp [pad_size]; done) | (simp [pad_size]; omega)) _) | (with_reducible refine bt ?_ (by assumption)))))) (hB.below (by (repeat (first | (with_reducible exact Below.refl _ _) | (with_reducible assumption) | (with_reducible apply bd) | (with_reducible apply ba) | (with_reducible refine bp ?_ (by first | omega | (simp [pad_size]; done) | (simp [pad_size]; omega)) _ _) | (with_reducible refine bs ?_ (by first | omega | (simp [pad_size]; done) | (simp [pad_size]; omega)) _) | (with_reducible refine bt ?_ (by assumption)))))) (amt_lim hz) (amt_lim purse_zero) (by (repeat (first | (with_reducible exact al_at (by simp [pad_size])) | (with_reducible refine Eq.trans (dr_blk _ _) ?_) | (with_reducible refine Eq.trans (al_old (by first | omega | (simp [pad_size]; done) | (simp [pad_size]; omega))) ?_) | (with_reducible refine Eq.trans (pad_block (by first | omega | (simp [pad_size]; done) | (simp [pad_size]; omega)) (by first | omega | (simp [pad_size]; done) | (simp [pad_size]; omega))) ?_) | (with_reducible assumption)))) (enters_of Try.func60 (by kernel_rfl) rfl) hof).mono ?_; clear hof; rintro e w1 (⟨s, v, rfl, hs, hown, hb⟩ | ⟨kk, c, z0, hk, hc, hS, rfl, hb⟩)))
  · go_ret2
    refine ⟨v, rfl, ?_, bt (by (repeat (first | (with_reducible exact Below.refl _ _) | (with_reducible assumption) | (with_reducible apply bd) | (with_reducible apply ba) | (with_reducible refine bp ?_ (by first | omega | (simp [pad_size]; done) | (simp [pad_size]; omega)) _ _) | (with_reducible refine bs ?_ (by first | omega | (simp [pad_size]; done) | (simp [pad_size]; omega)) _) | (with_reducible refine bt ?_ (by assumption))))) hb⟩
    rw [← lst_same (s := s) hz (fun d hd => by
      have := hs d hd; have hl := vl_lo hz hd; rw [amt_full hz hd, amt_full purse_zero hd, vl_zero] at this
      refine ⟨this.1, this.2.1, ?_⟩
      rcases this.2.2 with ⟨-, -, e⟩ | ⟨-, e, -⟩ <;> omega)]
    exact row_base hown (by simp)
  · exfalso
    have hl := vl_lo hz hk
    rw [amt_full hz hk, amt_full purse_zero hk, vl_zero] at hS
    rcases hS with ⟨-, e, -⟩ | ⟨e, -⟩ <;> omega
set_option maxHeartbeats 2000000 in
theorem subC_own {va : Value} {z : Nat → Cn} (hz : Purse z) (w : World) (hA : IsCoins w va (lst z 8)) :
    Calls Try.prog 41 #[va, .slice none 0 0] w fun e w' => ∃ u, e = .returned (.tuple #[u, .int .i64 0]) ∧ w'.ownsRow w.heap.size 65 5 u (lst z 8).length (cellsL (lst z 8)) ∧ Below w.heap.size w w' := by
  have hof : ∀ (x0 x1 x2 x3 y0 y1 y2 y3 : Int) (W : World), Lim x0 x1 x2 x3 → Lim y0 y1 y2 y3 →
      Below (w.alloc (.cells #[.func (.func 59) #[] #[]] 106)).heap.size (w.alloc (.cells #[.func (.func 59) #[] #[]] 106)) W →
      Calls Try.prog 59 (#[.agg #[.int .u64 x0, .int .u64 x1, .int .u64 x2, .int .u64 x3], .agg #[.int .u64 y0, .int .u64 y1, .int .u64 y2, .int .u64 y3]] ++ #[]) W fun e w' =>
        ∃ z0 z1 z2 z3 c : Int, e = .returned (.tuple #[.agg #[.int .u64 z0, .int .u64 z1, .int .u64 z2, .int .u64 z3], .int .i64 c]) ∧ Lim z0 z1 z2 z3 ∧ SubS (val x0 x1 x2 x3) (val y0 y1 y2 y3) (val z0 z1 z2 z3) c ∧ Below W.heap.size W w' :=
    fun x0 x1 x2 x3 y0 y1 y2 y3 W hx hy _ => sub_any x0 x1 x2 x3 y0 y1 y2 y3 hx hy W
  have hB := nil_coins w
  go_enter Try.func41, Try.ntmps41
  go_wp2_with (first
    | (go_at_call 58; refine (ofEachM_any _ _ rfl).mono ?_; rintro e w1 ⟨rfl, rfl⟩)
    | (go_at_call 71; refine (ofEach_any 59 #[] SubS w.heap.size _ (hA.below (by (repeat (first | (with_reducible exact Below.refl _ _) | (with_reducible assumption) | (with_reducible apply bd) | (with_reducible apply ba) | (with_reducible refine bp ?_ (by first | omega | (simp [pad_size]; done) | (simp [pad_size]; omega)) _ _) | (with_reducible refine bs ?_ (by first | omega | (simp [pad_size]; done) | (simp [pad_size]; omega)) _) | (with_reducible refine bt ?_ (by assumption)))))) (hB.below (by (repeat (first | (with_reducible exact Below.refl _ _) | (with_reducible assumption) | (with_reducible apply bd) | (with_reducible apply ba) | (with_reducible refine bp ?_ (by first | omega | (simp [pad_size]; done) | (simp [pad_size]; omega)) _ _) | (with_reducible refine bs ?_ (by first | omega | (simp [pad_size]; done) | (simp [pad_size]; omega)) _) | (with_reducible refine bt ?_ (by assumption)))))) (amt_lim hz) (amt_lim purse_zero) (by (repeat (first | (with_reducible exact al_at (by simp [pad_size])) | (with_reducible refine Eq.trans (dr_blk _ _) ?_) | (with_reducible refine Eq.trans (al_old (by first | omega | (simp [pad_size]; done) | (simp [pad_size]; omega))) ?_) | (with_reducible refine Eq.trans (pad_block (by first | omega | (simp [pad_size]; done) | (simp [pad_size]; omega)) (by first | omega | (simp [pad_size]; done) | (simp [pad_size]; omega))) ?_) | (with_reducible assumption)))) (enters_of Try.func59 (by kernel_rfl) rfl) hof).mono ?_; clear hof; rintro e w1 (⟨s, v, rfl, hs, hown, hb⟩ | ⟨kk, c, z0, hk, hc, hS, rfl, hb⟩)))
  · go_ret2
    refine ⟨v, rfl, ?_, bt (by (repeat (first | (with_reducible exact Below.refl _ _) | (with_reducible assumption) | (with_reducible apply bd) | (with_reducible apply ba) | (with_reducible refine bp ?_ (by first | omega | (simp [pad_size]; done) | (simp [pad_size]; omega)) _ _) | (with_reducible refine bs ?_ (by first | omega | (simp [pad_size]; done) | (simp [pad_size]; omega)) _) | (with_reducible refine bt ?_ (by assumption))))) hb⟩
    rw [← lst_same (s := s) hz (fun d hd => by
      have := hs d hd; have hl := vl_lo hz hd; rw [amt_full hz hd, amt_full purse_zero hd, vl_zero] at this
      refine ⟨this.1, this.2.1, ?_⟩
      rcases this.2.2 with ⟨-, -, e⟩ | ⟨-, e, -⟩ <;> omega)]
    exact row_base hown (by simp)
  · exfalso
    have hl := vl_lo hz hk
    rw [amt_full hz hk, amt_full purse_zero hk, vl_zero] at hS
    rcases hS with ⟨-, e, -⟩ | ⟨e, -⟩ <;> omega
end Go.Proofs.Ytgphdioolcfmmaa
