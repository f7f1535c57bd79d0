
/- jointurelaw05.rolls: the document's example. -/
import Derived.Test.YtafcianpajheiaaO10
import Derived.Lib.SlBytesConst
import Derived.Laws.BytesArg
set_option linter.unusedSimpArgs false
set_option linter.unusedVariables false
set_option maxRecDepth 20000
namespace Go.Proofs.Ytafcianpajheiaa
open Go.RowKit

theorem cvA (W : World) (x : Int) : (convert 77 77 (.slice (some ⟨W.heap.size, 0, none⟩) 1 1)).run Try.prog (W.alloc (.cells #[.int .u8 x] 5)) = .ok (.slice (some ⟨W.heap.size, 0, none⟩) 1 1) (W.alloc (.cells #[.int .u8 x] 5 (1, 2))) :=
  Lib.run_convert_bytes_const W 77 5 #[.int .u8 x] 1 1 Try.underlying77 Try.underlying5
theorem cvB (W : World) (x y : Int) : (convert 77 77 (.slice (some ⟨W.heap.size + 1, 0, none⟩) 1 1)).run Try.prog ((W.alloc (.cells #[.int .u8 x] 5 (1, 2))).alloc (.cells #[.int .u8 y] 5)) = .ok (.slice (some ⟨W.heap.size + 1, 0, none⟩) 1 1) ((W.alloc (.cells #[.int .u8 x] 5 (1, 2))).alloc (.cells #[.int .u8 y] 5 (1, 2))) := by
  have := Lib.run_convert_bytes_const (P := Try.prog) (W.alloc (.cells #[.int .u8 x] 5 (1, 2))) 77 5 #[.int .u8 y] 1 1 Try.underlying77 Try.underlying5
  rw [show (W.alloc (.cells #[.int .u8 x] 5 (1, 2))).heap.size = W.heap.size + 1 by simp] at this
  exact this
theorem src_mark (W : World) (x : Int) {n : Nat} (hn : n = W.heap.size) : Src (W.alloc (.cells #[.int .u8 x] 5 (1, 2))) (.slice (some ⟨n, 0, none⟩) 1 1) [x] := by
  subst hn
  refine .inr ⟨⟨_, 0, none⟩, 1, rfl, fun i y hi => ?_⟩
  rw [add_cell]
  have hb : (W.alloc (.cells #[.int .u8 x] 5 (1, 2))).heap[W.heap.size]? = some (.cells #[.int .u8 x] 5 (1, 2)) := al_at rfl
  cases i with
  | zero => simp at hi; subst hi; unfold World.cell?; simp only [hb]; rfl
  | succ i => simp at hi
section
variable {W : World} {s base : Nat} {A : Nat → Prop} {vp vj vb : Value} {r : List Rec} {j : List Was} {b : List Nat}
theorem byte1 {x : Int} (h : 0 ≤ x ∧ x ≤ 255) : Byte [x] := by intro y hy; rw [List.mem_singleton] at hy; subst hy; exact h
theorem set_new (x y : Int) (hx : 0 ≤ x ∧ x ≤ 255) (hy : 0 ≤ y ∧ y ≤ 255) (h : StC W s base A vp vj vb r j b) (hs : Srt r) (hn : r.length < 100000) (hj : j.length ≤ 100000) :
    Calls Try.prog 35 #[.pointer (some ⟨s, 0, none⟩), .slice (some ⟨W.heap.size, 0, none⟩) 1 1, .slice (some ⟨W.heap.size + 1, 0, none⟩) 1 1] ((W.alloc (.cells #[.int .u8 x] 5 (1, 2))).alloc (.cells #[.int .u8 y] 5 (1, 2))) fun e w' => e = .returned (.tuple #[]) ∧ ∃ A' vp' vj' r' j', StC w' s base A' vp' vj' vb r' j' b ∧ Srt r' ∧ cont r' = putS (cont r) [x] [y] ∧ r'.length ≤ r.length + 1 ∧ JS (cont r) [x] j j' b ∧ Fr W w' A A' := by
  have hB : Below W.heap.size W ((W.alloc (.cells #[.int .u8 x] 5 (1, 2))).alloc (.cells #[.int .u8 y] 5 (1, 2))) := ba (ba (Below.refl _ _) _) _
  have h1 := h.below hB
  have hkx : Src (W.alloc (.cells #[.int .u8 x] 5 (1, 2))) (.slice (some ⟨W.heap.size, 0, none⟩) 1 1) [x] := src_mark W x rfl
  refine (set_any h1 hs hn hj (hkx.kept (World.grownBy_alloc _ _ none)) (src_mark _ y (by simp)) (byte1 hx) (byte1 hy) (by simp) (by simp) (fun g hg hA => ?_) (fun g hg hA => ?_)).mono ?_
  · have := (h.foot g hA).2; simp [Value.ownBlock] at hg; omega
  · have := (h.foot g hA).2; simp [Value.ownBlock] at hg; omega
  · rintro e w' ⟨rfl, A', vp', vj', r', j', k1, k2, k3, k4, k5, k6⟩
    exact ⟨rfl, A', vp', vj', r', j', k1, k2, k3, k4, k5, (Fr.below hB).trans k6⟩
theorem del_new (x : Int) (hx : 0 ≤ x ∧ x ≤ 255) (h : StC W s base A vp vj vb r j b) (hs : Srt r) (hn : r.length ≤ 100000) (hj : j.length ≤ 100000) :
    Calls Try.prog 34 #[.pointer (some ⟨s, 0, none⟩), .slice (some ⟨W.heap.size, 0, none⟩) 1 1] (W.alloc (.cells #[.int .u8 x] 5 (1, 2))) fun e w' => e = .returned (.tuple #[]) ∧ ∃ A' vp' vj' r' j', StC w' s base A' vp' vj' vb r' j' b ∧ Srt r' ∧ cont r' = dropS (cont r) [x] ∧ r'.length ≤ r.length ∧ ((getS (cont r) [x] = none ∧ j' = j) ∨ (getS (cont r) [x] ≠ none ∧ JS (cont r) [x] j j' b)) ∧ Fr W w' A A' := by
  have hB : Below W.heap.size W (W.alloc (.cells #[.int .u8 x] 5 (1, 2))) := ba (Below.refl _ _) _
  have h1 := h.below hB
  refine (del_any h1 hs hn hj (src_mark W x rfl) (byte1 hx) (by simp) (fun g hg hA => ?_)).mono ?_
  · have := (h.foot g hA).2; simp [Value.ownBlock] at hg; omega
  · rintro e w' ⟨rfl, A', vp', vj', r', j', k1, k2, k3, k4, k5, k6⟩
    exact ⟨rfl, A', vp', vj', r', j', k1, k2, k3, k4, k5, (Fr.below hB).trans k6⟩
theorem get_new (x : Int) (hx : 0 ≤ x ∧ x ≤ 255) (q : List Int) (h : StC W s base A vp vj vb r j b) (hs : Srt r) (hn : r.length ≤ 100000) (hq : getS (cont r) [x] = some q) :
    Calls Try.prog 39 #[.pointer (some ⟨s, 0, none⟩), .slice (some ⟨W.heap.size, 0, none⟩) 1 1] (W.alloc (.cells #[.int .u8 x] 5 (1, 2))) fun e w' => ∃ v g, e = .returned (.tuple #[v, .bool true]) ∧ Own w' g v q ∧ StC w' s base A vp vj vb r j b ∧ Below W.heap.size W w' := by
  have hB : Below W.heap.size W (W.alloc (.cells #[.int .u8 x] 5 (1, 2))) := ba (Below.refl _ _) _
  have h1 := h.below hB
  refine (get_any h1 hs hn (src_mark W x rfl) (byte1 hx)).mono ?_
  rintro e w' ⟨hb, k⟩
  rcases k with ⟨k, -⟩ | ⟨v, g, q', k, rfl, ho, -⟩
  · rw [hq] at k; cases k
  · rw [hq] at k; simp at k; subst k
    exact ⟨v, g, rfl, ho, h1.below hb, bt hB hb⟩
end
theorem str49 {X : World} {g : Nat} {v : Value} (h : Own X g v [49]) : (convert 77 9 v).run Try.prog X = .ok (.string ⟨#[49]⟩) X := by
  obtain ⟨rfl, hb⟩ := h
  have := run_convert_bytes_arg (P := Try.prog) X 77 5 Try.underlying77 Try.underlying5 g 0 1 1 [49] rfl (fun i hi => by
    obtain rfl : i = 0 := by omega
    rw [(cells_of_block hb).1]; rfl) 9 Try.underlying9
  exact this
/-- The example's journal: a was 1, then 2. -/
theorem ex_roll {x y : Was} (hx : WasS x [([97], [49])] [97]) (hy : WasS y [([97], [50])] [97]) : rollS [] ([x] ++ [y]) = [([97], [49])] := by
  obtain ⟨k1, t1⟩ := hx
  obtain ⟨k2, t2⟩ := hy
  have g1 : getS [([97], [49])] [97] = some [49] := by decide
  have g2 : getS [([97], [50])] [97] = some [50] := by decide
  rw [g1] at t1
  rw [g2] at t2
  have a1 : x.there = true ∧ x.v = [49] := by
    rcases t1 with ⟨t, e⟩ | ⟨_, e⟩
    · simp at e; exact ⟨t, e.symm⟩
    · cases e
  have a2 : y.there = true ∧ y.v = [50] := by
    rcases t2 with ⟨t, e⟩ | ⟨_, e⟩
    · simp at e; exact ⟨t, e.symm⟩
    · cases e
  rw [rollS_snoc]
  simp only [rollS, List.foldr, undoS, a1.1, a2.1, if_true, k1, k2, a1.2, a2.2]
  decide
end Go.Proofs.Ytafcianpajheiaa
