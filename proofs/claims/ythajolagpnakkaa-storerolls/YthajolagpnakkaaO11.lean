
/- jointurelaw05.rolls: the document's example. -/
import Derived.Test.YthajolagpnakkaaO10
import Derived.Lib.SlBytesConst
import Derived.Laws.BytesArg
set_option linter.unusedSimpArgs false
set_option linter.unusedVariables false
namespace Go.Proofs.Ythajolagpnakkaa
open Go.RowKit

theorem cvA (W : World) (x : Int) : (convert 33 33 (.slice (some ⟨W.heap.size, 0, none⟩) 1 1)).run Try.prog (W.alloc (.cells #[.int .u8 x] 5)) = .ok (.slice (some ⟨W.heap.size, 0, none⟩) 1 1) (W.alloc (.cells #[.int .u8 x] 5 (1, 2))) :=
  Lib.run_convert_bytes_const W 33 5 #[.int .u8 x] 1 1 Try.underlying33 Try.underlying5
theorem cvB (W : World) (x y : Int) : (convert 33 33 (.slice (some ⟨W.heap.size + 1, 0, none⟩) 1 1)).run Try.prog ((W.alloc (.cells #[.int .u8 x] 5 (1, 2))).alloc (.cells #[.int .u8 y] 5)) = .ok (.slice (some ⟨W.heap.size + 1, 0, none⟩) 1 1) ((W.alloc (.cells #[.int .u8 x] 5 (1, 2))).alloc (.cells #[.int .u8 y] 5 (1, 2))) := by
  have := Lib.run_convert_bytes_const (P := Try.prog) (W.alloc (.cells #[.int .u8 x] 5 (1, 2))) 33 5 #[.int .u8 y] 1 1 Try.underlying33 Try.underlying5
  rw [show (W.alloc (.cells #[.int .u8 x] 5 (1, 2))).heap.size = W.heap.size + 1 by simp] at this
  exact this
theorem src_mark (W : World) (x : Int) {n : Nat} (hn : n = W.heap.size) : Src (W.alloc (.cells #[.int .u8 x] 5 (1, 2))) (.slice (some ⟨n, 0, none⟩) 1 1) [x] := by
  subst hn
  refine .inr ⟨⟨_, 0, none⟩, 1, rfl, fun i y hi => ?_⟩
  rw [add_cell]
  have hb : (W.alloc (.cells #[.int .u8 x] 5 (1, 2))).heap[W.heap.size]? = some (.cells #[.int .u8 x] 5 (1, 2)) := al_at rfl
  cases i with
  | zero => simp at hi; subst hi; unfold World.cell?; simp only [hb]; rfl
  | succ i => simp at hi
section
variable {W : World} {s base : Nat} {A : Nat → Prop} {vp vj vb : Value} {r : List Rec} {j : List Was} {b : List Nat}
theorem byte1 {x : Int} (h : 0 ≤ x ∧ x ≤ 255) : Byte [x] := by intro y hy; rw [List.mem_singleton] at hy; subst hy; exact h
theorem set_new (x y : Int) (hx : 0 ≤ x ∧ x ≤ 255) (hy : 0 ≤ y ∧ y ≤ 255) (h : StC W s base A vp vj vb r j b) (hs : Srt r) (hn : r.length < 100000) (hj : j.length ≤ 100000) :
    Calls Try.prog 32 #[.pointer (some ⟨s, 0, none⟩), .slice (some ⟨W.heap.size, 0, none⟩) 1 1, .slice (some ⟨W.heap.size + 1, 0, none⟩) 1 1] ((W.alloc (.cells #[.int .u8 x] 5 (1, 2))).alloc (.cells #[.int .u8 y] 5 (1, 2))) fun e w' => e = .returned (.tuple #[]) ∧ ∃ A' vp' vj' r' j', StC w' s base A' vp' vj' vb r' j' b ∧ Srt r' ∧ cont r' = putS (cont r) [x] [y] ∧ r'.length ≤ r.length + 1 ∧ JS (cont r) [x] j j' b ∧ Fr W w' A A' := by
  have hB : Below W.heap.size W ((W.alloc (.cells #[.int .u8 x] 5 (1, 2))).alloc (.cells #[.int .u8 y] 5 (1, 2))) := ba (ba (Below.refl _ _) _) _
  have h1 := h.below hB
  have hkx : Src (W.alloc (.cells #[.int .u8 x] 5 (1, 2))) (.slice (some ⟨W.heap.size, 0, none⟩) 1 1) [x] := src_mark W x rfl
  refine (set_any h1 hs hn hj (hkx.kept (World.grownBy_alloc _ _ none)) (src_mark _ y (by simp)) (byte1 hx) (byte1 hy) (by simp) (by simp) (fun g hg hA => ?_) (fun g hg hA => ?_)).mono ?_
  · have := (h.foot g hA).2; simp [Value.ownBlock] at hg; omega
  · have := (h.foot g hA).2; simp [Value.ownBlock] at hg; omega
  · rintro e w' ⟨rfl, A', vp', vj', r', j', k1, k2, k3, k4, k5, k6⟩
    exact ⟨rfl, A', vp', vj', r', j', k1, k2, k3, k4, k5, (Fr.below hB).trans k6⟩
theorem del_new (x : Int) (hx : 0 ≤ x ∧ x ≤ 255) (h : StC W s base A vp vj vb r j b) (hs : Srt r) (hn : r.length ≤ 100000) (hj : j.length ≤ 100000) :
    Calls Try.prog 33 #[.pointer (some ⟨s, 0, none⟩), .slice (some ⟨W.heap.size, 0, none⟩) 1 1] (W.alloc (.cells #[.int .u8 x] 5 (1, 2))) fun e w' => e = .returned (.tuple #[]) ∧ ∃ A' vp' vj' r' j', StC w' s base A' vp' vj' vb r' j' b ∧ Srt r' ∧ cont r' = dropS (cont r) [x] ∧ r'.length ≤ r.length ∧ ((getS (cont r) [x] = none ∧ j' = j) ∨ (getS (cont r) [x] ≠ none ∧ JS (cont r) [x] j j' b)) ∧ Fr W w' A A' := by
  have hB : Below W.heap.size W (W.alloc (.cells #[.int .u8 x] 5 (1, 2))) := ba (Below.refl _ _) _
  have h1 := h.below hB
  refine (del_any h1 hs hn hj (src_mark W x rfl) (byte1 hx) (by simp) (fun g hg hA => ?_)).mono ?_
  · have := (h.foot g hA).2; simp [Value.ownBlock] at hg; omega
  · rintro e w' ⟨rfl, A', vp', vj', r', j', k1, k2, k3, k4, k5, k6⟩
    exact ⟨rfl, A', vp', vj', r', j', k1, k2, k3, k4, k5, (Fr.below hB).trans k6⟩
theorem get_new (x : Int) (hx : 0 ≤ x ∧ x ≤ 255) (q : List Int) (h : StC W s base A vp vj vb r j b) (hs : Srt r) (hn : r.length ≤ 100000) (hq : getS (cont r) [x] = some q) :
    Calls Try.prog 28 #[.pointer (some ⟨s, 0, none⟩), .slice (some ⟨W.heap.size, 0, none⟩) 1 1] (W.alloc (.cells #[.int .u8 x] 5 (1, 2))) fun e w' => ∃ v g, e = .returned (.tuple #[v, .bool true]) ∧ Own w' g v q ∧ StC w' s base A vp vj vb r j b ∧ Below W.heap.size W w' := by
  have hB : Below W.heap.size W (W.alloc (.cells #[.int .u8 x] 5 (1, 2))) := ba (Below.refl _ _) _
  have h1 := h.below hB
  refine (get_any h1 hs hn (src_mark W x rfl) (byte1 hx)).mono ?_
  rintro e w' ⟨hb, k⟩
  rcases k with ⟨k, -⟩ | ⟨v, g, q', k, rfl, ho, -⟩
  · rw [hq] at k; cases k
  · rw [hq] at k; simp at k; subst k
    exact ⟨v, g, rfl, ho, h1.below hb, bt hB hb⟩
end
theorem str49 {X : World} {g : Nat} {v : Value} (h : Own X g v [49]) : (convert 33 9 v).run Try.prog X = .ok (.string ⟨#[49]⟩) X := by
  obtain ⟨rfl, hb⟩ := h
  have := run_convert_bytes_arg (P := Try.prog) X 33 5 Try.underlying33 Try.underlying5 g 0 1 1 [49] rfl (fun i hi => by
    obtain rfl : i = 0 := by omega
    rw [(cells_of_block hb).1]; rfl) 9 Try.underlying9
  exact this
/-- The example's journal: a was 1, then 2. -/
theorem ex_roll {x y : Was} (hx : WasS x [([97], [49])] [97]) (hy : WasS y [([97], [50])] [97]) : rollS [] ([x] ++ [y]) = [([97], [49])] := by
  obtain ⟨k1, t1⟩ := hx
  obtain ⟨k2, t2⟩ := hy
  have g1 : getS [([97], [49])] [97] = some [49] := by decide
  have g2 : getS [([97], [50])] [97] = some [50] := by decide
  rw [g1] at t1
  rw [g2] at t2
  have a1 : x.there = true ∧ x.v = [49] := by
    rcases t1 with ⟨t, e⟩ | ⟨_, e⟩
    · simp at e; exact ⟨t, e.symm⟩
    · cases e
  have a2 : y.there = true ∧ y.v = [50] := by
    rcases t2 with ⟨t, e⟩ | ⟨_, e⟩
    · simp at e; exact ⟨t, e.symm⟩
    · cases e
  rw [rollS_snoc]
  simp only [rollS, List.foldr, undoS, a1.1, a2.1, if_true, k1, k2, a1.2, a2.2]
  decide
set_option maxRecDepth 10000 in
set_option maxHeartbeats 8000000 in
theorem rolls_any (w : World) : Calls Try.prog 11 #[] w fun e w' => e = .returned (.bool true) ∧ Below w.heap.size w w' := by
  have cA := cvA
  have cB := cvB
  go_enter Try.func11, Try.ntmps11
  go_wp2_with (first
    | (go_at_call 13; refine (new_any _).mono ?_; rintro e w1 ⟨rfl, h1, hb1⟩; have S1 := set_new 97 49 (by omega) (by omega) h1 List.Pairwise.nil (by simp) (by simp))
    | (go_at_call 32; refine S1.mono ?_; clear S1; rintro e w2 ⟨rfl, A2, vp2, vj2, r2, j2, h2, hs2, hc2, hl2, hj2, f2⟩; have e2 : j2 = [] := (by rcases hj2 with ⟨-, e⟩ | ⟨e, -⟩; exact e; exact absurd rfl e); subst e2; have B3 := begin_any h2 (by simp) (by simp))
    | (go_at_call 19; refine B3.mono ?_; clear B3; rintro e w3 ⟨rfl, A3, vb3, h3, f3⟩; have S4 := set_new 97 50 (by omega) (by omega) h3 hs2 (by simp at hl2; omega) (by simp))
    | (go_at_call 32; refine S4.mono ?_; clear S4; rintro e w4 ⟨rfl, A4, vp4, vj4, r4, j4, h4, hs4, hc4, hl4, hj4, f4⟩; obtain ⟨x4, hx4, rfl⟩ : ∃ x, WasS x (cont r2) [97] ∧ j4 = [] ++ [x] := (by rcases hj4 with ⟨e, -⟩ | ⟨-, e⟩; simp at e; exact e); have B5 := begin_any h4 (by simp) (by simp))
    | (go_at_call 19; refine B5.mono ?_; clear B5; rintro e w5 ⟨rfl, A5, vb5, h5, f5⟩; have hl4' : r4.length ≤ 2 := (by simp at hl2; omega); have D6 := del_new 97 (by omega) h5 hs4 (by omega) (by simp))
    | (go_at_call 33; refine D6.mono ?_; clear D6; rintro e w6 ⟨rfl, A6, vp6, vj6, r6, j6, h6, hs6, hc6, hl6, hj6, f6⟩; have hc2' : cont r2 = [([97], [49])] := (by rw [hc2]; decide); have hc4' : cont r4 = [([97], [50])] := (by rw [hc4, hc2']; decide); obtain ⟨x6, hx6, rfl⟩ : ∃ x, WasS x (cont r4) [97] ∧ j6 = ([] ++ [x4]) ++ [x] := (by rcases hj6 with ⟨e, -⟩ | ⟨-, e⟩; (rw [hc4'] at e; exact absurd e (by decide)); (rcases e with ⟨e, -⟩ | ⟨-, e⟩; simp at e; exact e)); have C7 := commit_some (b := [0]) (n := 1) h6 (by simp))
    | (go_at_call 20; refine C7.mono ?_; clear C7; rintro e w7 ⟨rfl, A7, vj7, vb7, h7, f7⟩; have h7' : StC w7 w.heap.size w.heap.size A7 vp6 vj7 vb7 r6 ([] ++ [x4] ++ [x6]) ([] ++ [0]) := h7; have R8 := rollback_some (b := []) (n := 0) h7' hs6 (by simp) (by simp) (by simp; omega))
    | (go_at_call 21; refine R8.mono ?_; clear R8; rintro e w8 ⟨rfl, A8, vp8, vj8, vb8, r8, h8, hs8, hc8, hl8, f8⟩; have R9 := rollback_none h8; have hc2' : cont r2 = [([97], [49])] := (by rw [hc2]; decide); have hc4' : cont r4 = [([97], [50])] := (by rw [hc4, hc2']; decide); have hc8' : cont r8 = [([97], [49])] := (by rw [hc8, hc6, hc4', show dropS [([97], [50])] [97] = [] by decide, List.drop_zero]; rw [hc2'] at hx4; rw [hc4'] at hx6; exact ex_roll hx4 hx6); have hl8' : r8.length = 1 := (by have := congrArg List.length hc8'; simpa [cont] using this); have G9 := get_new 97 (by omega) [49] h8 hs8 (by omega) (by rw [hc8']; decide); have hl8i : (r8.length : Int) = 1 := (by omega); have F8 := ((((((f2.trans f3).trans f4).trans f5).trans f6).trans f7).trans f8); have hB8 := Fr.out hb1 F8 (fun n hn => (by subst hn; exact Nat.le_refl _)))
    | (go_at_call 21; refine R9.mono ?_; clear R9; rintro e w9 ⟨rfl, hw⟩; obtain rfl := hw.symm)
    | (go_at_call 28; refine G9.mono ?_; clear G9; rintro e w10 ⟨v10, g10, rfl, ho10, h10, hb10⟩; have hcs := str49 ho10; have hL := len_any h10; rw [hl8i] at hL; obtain rfl := ho10.1; simp only [List.length_cons, List.length_nil, Nat.zero_add] at hcs)
    | (go_at_call 27; refine hL.mono ?_; rintro e w11 ⟨rfl, hw⟩; obtain rfl := hw.symm))
  go_ret
  exact ⟨rfl, bt hB8 hb10⟩
end Go.Proofs.Ythajolagpnakkaa
