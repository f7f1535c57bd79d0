
/- codec's reader: what it has, and its first calls. -/
import Derived.Test.YtoikklbnbgoecaaB8
import Derived.Deep.RegionHeld2
set_option linter.unusedSimpArgs false
set_option linter.unusedVariables false
namespace Go.Proofs.Ytoikklbnbgoecaa
open Go.RowKit

/-- A slice's value is these bytes, which lie in block D. -/
def Byt (W : World) (D : Option Nat) (v : Value) (p : List Int) : Prop :=
  ∃ a cap, v = .slice a p.length cap ∧ p.length ≤ cap ∧ p.length ≤ 1048576 ∧ (∀ x ∈ p, 0 ≤ x ∧ x ≤ 255) ∧ (p = [] ∨ ∃ d off, D = some d ∧ a = some ⟨d, off, none⟩ ∧ d < W.heap.size ∧ ∀ i x, p[i]? = some x → W.cell? ⟨d, off + i, none⟩ = some (.int .u8 x))
theorem Byt.is {W : World} {D : Option Nat} {v : Value} {p : List Int} (h : Byt W D v p) : IsBytes W v p := by
  obtain ⟨a, cap, rfl, h1, h2, h3, h4⟩ := h
  rcases h4 with rfl | ⟨d, off, -, rfl, h5, h6⟩
  · exact .inl ⟨rfl, a, cap, rfl⟩
  · exact .inr ⟨d, off, cap, rfl, by omega, h5, h6⟩
theorem Byt.kept {W W' : World} {D : Option Nat} {v : Value} {p : List Int} {r : Option Nat} (h : Byt W D v p) (hg : W.grownBy W' r) (hne : D = none ∨ D ≠ r) : Byt W' D v p := by
  obtain ⟨a, cap, rfl, h1, h2, h3, h4⟩ := h
  refine ⟨a, cap, rfl, h1, h2, h3, ?_⟩
  rcases h4 with rfl | ⟨d, off, rfl, rfl, h5, h6⟩
  · exact .inl rfl
  · exact .inr ⟨d, off, rfl, rfl, Nat.lt_of_lt_of_le h5 hg.size, fun i x hi => (World.cell?_of_block (a := ⟨d, off + i, none⟩) (hg.block d h5 (hne.resolve_left (by simp)))).trans (h6 i x hi)⟩
theorem grown_none {W W' : World} (hb : Below W.heap.size W W') : W.grownBy W' none := ⟨hb.os, hb.tape, hb.output, hb.size, fun k hk _ => hb.block k hk⟩
theorem grown_ref (W : World) (r : Option Nat) : W.grownBy W r := ⟨rfl, rfl, rfl, Nat.le_refl _, fun _ _ _ => rfl⟩
theorem grown_up {W W' : World} {r : Option Nat} (h : W.grownBy W' none) : W.grownBy W' r := ⟨h.os, h.tape, h.output, h.size, fun k hk _ => h.block k hk (by simp)⟩
theorem grown_tr {A B C : World} {r : Option Nat} (h : A.grownBy B r) (k : B.grownBy C r) : A.grownBy C r :=
  ⟨k.os.trans h.os, k.tape.trans h.tape, k.output.trans h.output, Nat.le_trans h.size k.size, fun n hn hne => (k.block n (Nat.lt_of_lt_of_le hn h.size) hne).trans (h.block n hn hne)⟩
theorem grown_al {A B : World} {r : Option Nat} (h : A.grownBy B r) (o : Obj) : A.grownBy (B.alloc o) r := grown_tr h (World.grownBy_alloc B o r)
theorem grown_se {A B : World} {b : Nat} (h : A.grownBy B (some b)) (o : Nat) (v : Value) : A.grownBy (B.setCell ⟨b, o, none⟩ v) (some b) :=
  grown_tr h ⟨rfl, rfl, rfl, by simp [World.setCell], fun k _ hne => Below.heap_setCell B ⟨b, o, none⟩ v k (fun e => hne (by rw [e]))⟩
theorem grown_dr {A B : World} {r : Option Nat} (h : A.grownBy B r) : A.grownBy B.drew r := ⟨h.os, h.tape, h.output, h.size, h.block⟩
/-- What was made since stays as it is, too, where another block is turned. -/
theorem grown_new {A B C : World} {r : Option Nat} {b : Nat} (h : A.grownBy B r) (k : B.grownBy C (some b)) (hb : A.heap.size ≤ b) : A.grownBy C r :=
  ⟨k.os.trans h.os, k.tape.trans h.tape, k.output.trans h.output, Nat.le_trans h.size k.size, fun n hn hne => (k.block n (Nat.lt_of_lt_of_le hn h.size) (fun e => by simp at e; omega)).trans (h.block n hn hne)⟩
theorem below_grown {w W W' : World} {b : Nat} (h : Below w.heap.size w W) (k : W.grownBy W' (some b)) (hb : w.heap.size ≤ b) : Below w.heap.size w W' := h.grown k h.size (fun j e => by simp at e; omega)

/-- A reader in block b, of bytes in block D: those that are left, or none (it has a fault). -/
def RdAt (W : World) (b : Nat) (D : Option Nat) : Option (List Int) → Prop
  | none => W.heap[b]? = some (.cells #[.slice none 0 0, .bool true] 70 (0, 0))
  | some p => ∃ v, W.heap[b]? = some (.cells #[v, .bool false] 70 (0, 0)) ∧ Byt W D v p
theorem RdAt.blk {W : World} {b : Nat} {D : Option Nat} {s : Option (List Int)} (h : RdAt W b D s) : ∃ v, W.heap[b]? = some (.cells #[v, .bool s.isNone] 70 (0, 0)) := by
  cases s with
  | none => exact ⟨_, h⟩
  | some p => obtain ⟨v, h, _⟩ := h; exact ⟨v, h⟩
theorem RdAt.lt {W : World} {b : Nat} {D : Option Nat} {s : Option (List Int)} (h : RdAt W b D s) : b < W.heap.size := by
  obtain ⟨v, h⟩ := h.blk; exact (Array.getElem?_eq_some_iff.1 h).1
theorem RdAt.kept {W W' : World} {b : Nat} {D : Option Nat} {s : Option (List Int)} {r : Option Nat} (h : RdAt W b D s) (hg : W.grownBy W' r) (h1 : some b ≠ r) (h2 : D = none ∨ D ≠ r) : RdAt W' b D s := by
  have hl := h.lt
  cases s with
  | none => exact (hg.block b hl h1).trans h
  | some p => obtain ⟨v, h, k⟩ := h; exact ⟨v, (hg.block b hl h1).trans h, k.kept hg h2⟩

set_option maxHeartbeats 1000000 in
theorem rBad_any {W : World} {b : Nat} {D : Option Nat} {s : Option (List Int)} (h : RdAt W b D s) :
    Calls Try.prog 17 #[.pointer (some ⟨b, 0, none⟩)] W fun e w' => e = .returned (.bool s.isNone) ∧ w' = W := by
  obtain ⟨v, h⟩ := h.blk
  obtain ⟨c, f⟩ := cells_of_block h
  go_enter Try.func17, Try.ntmps17
  go_wp2
  go_ret
  exact ⟨rfl, rfl⟩
def leftS : Option (List Int) → Int
  | none => 0
  | some p => p.length
set_option maxHeartbeats 1000000 in
theorem rLeft_any {W : World} {b : Nat} {D : Option Nat} {s : Option (List Int)} (h : RdAt W b D s) :
    Calls Try.prog 22 #[.pointer (some ⟨b, 0, none⟩)] W fun e w' => e = .returned (.int .i64 (leftS s)) ∧ w' = W := by
  cases s with
  | none =>
    go_enter Try.func22, Try.ntmps22
    go_wp2_with (go_at_call 17; refine (rBad_any h).mono ?_; rintro e w' ⟨rfl, rfl⟩)
    go_ret
    exact ⟨rfl, rfl⟩
  | some p =>
    have h' := h
    obtain ⟨v, h, a, cap, rfl, -⟩ := h
    obtain ⟨c, f⟩ := cells_of_block h
    go_enter Try.func22, Try.ntmps22
    go_wp2_with (go_at_call 17; refine (rBad_any h').mono ?_; rintro e w' ⟨rfl, rfl⟩)
    go_ret
    exact ⟨rfl, rfl⟩
def endS : Option (List Int) → Bool
  | some [] => true
  | _ => false
set_option maxHeartbeats 1000000 in
theorem rEnd_any {W : World} {b : Nat} {D : Option Nat} {s : Option (List Int)} (h : RdAt W b D s) :
    Calls Try.prog 18 #[.pointer (some ⟨b, 0, none⟩)] W fun e w' => e = .returned (.bool (endS s)) ∧ w' = W := by
  obtain ⟨bb, hbb⟩ : ∃ bb, s.isNone = bb := ⟨_, rfl⟩
  obtain ⟨n, hn⟩ : ∃ n, leftS s = n := ⟨_, rfl⟩
  have h1 := rBad_any h
  have h2 := rLeft_any h
  rw [hbb] at h1
  rw [hn] at h2
  have hv : endS s = (!bb && (n == 0)) := by
    subst hbb hn
    match s with
    | none => rfl
    | some [] => rfl
    | some (x :: p) => exact (show false = (!false && ((((x :: p).length : Nat) : Int) == 0)) by rw [Bool.not_false, Bool.true_and]; symm; rw [beq_eq_false_iff_ne, List.length_cons]; omega)
  rw [hv]
  clear hv hbb hn
  cases bb
  all_goals
    go_enter Try.func18, Try.ntmps18
    go_wp2_with (first | (go_at_call 17; refine h1.mono ?_; rintro e w' ⟨rfl, rfl⟩) | (go_at_call 22; refine h2.mono ?_; rintro e w' ⟨rfl, rfl⟩))
    go_ret
    exact ⟨by simp, rfl⟩
set_option maxHeartbeats 1000000 in
theorem rFail_any {W : World} {b : Nat} {D : Option Nat} {s : Option (List Int)} (h : RdAt W b D s) :
    Calls Try.prog 23 #[.pointer (some ⟨b, 0, none⟩)] W fun e w' => e = .returned (.tuple #[]) ∧ RdAt w' b D none ∧ W.grownBy w' (some b) := by
  obtain ⟨v, h⟩ := h.blk
  obtain ⟨c, f⟩ := cells_of_block h
  go_enter Try.func23, Try.ntmps23
  go_wp2
  refine bodyPost_end (v := .tuple #[]) (by simp [results, Try.results23]) rfl ⟨rfl, ?_, grown_se (grown_se (grown_ref _ _) _ _) _ _⟩
  show _ = _
  rw [block_set _ (block_set _ h)]; rfl
end Go.Proofs.Ytoikklbnbgoecaa
