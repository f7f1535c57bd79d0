
/- Both stores anew; a deed out of the list. -/
import Derived.Test.YthajolagpnakkaaO23
set_option linter.unusedSimpArgs false
set_option linter.unusedVariables false
namespace Go.Proofs.Ythajolagpnakkaa
open Go.RowKit

theorem stdNew (W : World) : Calls Try.prog 13 #[] W fun e w' => e = .returned (.pointer (some ⟨W.heap.size, 0, none⟩)) ∧ StD w' W.heap.size W.heap.size (fun k => k = W.heap.size) [] [] 0 ∧ Below W.heap.size W w' := by
  refine (new_any W).mono ?_
  rintro e w' ⟨rfl, h, hb⟩
  exact ⟨rfl, ⟨_, _, _, [], [], [], h, List.Pairwise.nil, rfl, Jr.start _, by simp, by simp, by simp, by simp⟩, hb⟩
theorem rdNew (W : World) : RD (W.alloc (.cells #[.slice none 0 0, .slice none 0 0] 31)) W.heap.size W.heap.size (fun k => k = W.heap.size) [] [] 0 := by
  refine ⟨fun _ => False, .slice none 0 0, .slice none 0 0, [], [], [], ?_, rfl, rfl, List.Pairwise.nil, by simp, by simp, by simp⟩
  have hs : (W.alloc (.cells #[.slice none 0 0, .slice none 0 0] 31)).heap.size = W.heap.size + 1 := by simp
  exact {
    blk := al_at rfl
    cur := ⟨World.ownsRow_nil _ _ _ _, fun g hg => by simp [Value.ownBlock] at hg, by simp⟩
    row := World.ownsRow_nil _ _ _ _
    rows := by simp
    foot := fun k hk => by subst hk; omega
    sub := fun k hk => hk.elim
    bm := rfl
    cm := fun h => h
    bw := fun g hg => by simp [Value.ownBlock] at hg
    cw := fun g hg => by simp [Value.ownBlock] at hg
    le := by omega }
/-- A deed's three cells. -/
theorem dd_at {w X : World} {a : Option Addr} {len : Nat} {l : List Dd} (h : DdsIn w a len l) (hX : Below w.heap.size w X) {i : Nat} (hi : i < l.length) : ∃ blk off, a = some ⟨blk, off, none⟩ ∧ blk < w.heap.size ∧ X.cell? ⟨blk, off + i * 3, none⟩ = some (.int .u8 l[i].d) ∧ X.cell? ⟨blk, off + i * 3 + 1, none⟩ = some (.slice l[i].ka l[i].kn l[i].kc) ∧ X.cell? ⟨blk, off + i * 3 + 2, none⟩ = some (.slice l[i].va l[i].vn l[i].vc) := by
  obtain ⟨h1, h2, h3⟩ := h
  obtain ⟨blk, off, rfl, hb, hcell⟩ := h3.resolve_left (by omega)
  have hg := List.getElem?_eq_getElem hi
  exact ⟨blk, off, rfl, hb, (hX.cell (p := ⟨blk, off + i * 3, none⟩) hb).trans (hcell i l[i] hg 0 _ rfl), (hX.cell (p := ⟨blk, off + i * 3 + 1, none⟩) hb).trans (hcell i l[i] hg 1 _ rfl), (hX.cell (p := ⟨blk, off + i * 3 + 2, none⟩) hb).trans (hcell i l[i] hg 2 _ rfl)⟩
/-- Two stores that go together, behind some deeds. -/
structure Pr (w X : World) (s m : Nat) (L L2 : List (List Int × List Int)) (ds ds2 : List (List (List Int × List Int))) (n n2 : Nat) (base base' : Nat) (A B : Nat → Prop) : Prop where
  st : StD X s base A L ds n
  rd : RD X m base' B L2 ds2 n2
  dis : ∀ k, A k → ¬ B k
  below : Below w.heap.size w X
  lo : w.heap.size ≤ base
  lo' : w.heap.size ≤ base'
theorem Pr.down {w X Y : World} {s m : Nat} {L L2 : List (List Int × List Int)} {ds ds2 : List (List (List Int × List Int))} {n n2 base base' : Nat} {A B : Nat → Prop} (h : Pr w X s m L L2 ds ds2 n n2 base base' A B) (hb : Below X.heap.size X Y) : Pr w Y s m L L2 ds ds2 n n2 base base' A B :=
  ⟨h.st.below hb, h.rd.below hb, h.dis, bt h.below hb, h.lo, h.lo'⟩
theorem RD.lt {W : World} {m base : Nat} {B : Nat → Prop} {L : List (List Int × List Int)} {ds : List (List (List Int × List Int))} {n : Nat} (h : RD W m base B L ds n) : m < W.heap.size ∧ base ≤ W.heap.size := by
  obtain ⟨C, vl, vw, ws, l, was, h1, h2⟩ := h
  exact ⟨(h1.foot m h1.bm).2, h1.le⟩
theorem Pr.does {w X : World} {s m : Nat} {L L2 : List (List Int × List Int)} {ds ds2 : List (List (List Int × List Int))} {n n2 base base' : Nat} {A B : Nat → Prop} (h : Pr w X s m L L2 ds ds2 n n2 base base' A B) (hn : n ≤ 1000) (hn2 : n2 ≤ 1000) {y : Dd} (hy : DdIn w y) (hk : y.kn ≤ 30) (hv : y.vn ≤ 60) :
    Calls Try.prog 14 #[.pointer (some ⟨s, 0, none⟩), .pointer (some ⟨m, 0, none⟩), .agg #[.int .u8 y.d, .slice y.ka y.kn y.kc, .slice y.va y.vn y.vc]] X fun e w' => e = .returned (.bool (ansD y.d ds ds2)) ∧ ∃ A' B', Pr w w' s m (stepL y.d y.k y.v L ds) (stepL y.d y.k y.v L2 ds2) (stepD y.d L ds) (stepD y.d L2 ds2) (n + 1) (n2 + 1) base base' A' B' ∧ Fr2 X w' A B A' B' := by
  obtain ⟨hd, -, -, h1, h2⟩ := hy
  obtain ⟨-, hk2⟩ := h1 (by omega)
  obtain ⟨-, hv2⟩ := h2 (by omega)
  refine (does_any h.st h.rd h.dis hn hn2 h.below h.lo h.rd.lt.2 hd hk2 hv2).mono ?_
  rintro e w' ⟨rfl, A', B', g1, g2, g3⟩
  refine ⟨rfl, A', B', ⟨g1, g2, g3.dis, Fr2.out h.below g3 (fun k hk => Nat.le_trans h.lo (h.st.foot k hk).1) (fun k hk => Nat.le_trans h.lo' (h.rd.foot k hk).1), h.lo, h.lo'⟩, g3⟩
theorem ansD_same (d : Int) (ds : List (List (List Int × List Int))) : ansD d ds ds = true := by
  unfold ansD; split
  · rfl
  · simp
theorem Pr.new {w X Y : World} (hX : Below w.heap.size w X) (h : StD Y X.heap.size X.heap.size (fun k => k = X.heap.size) [] [] 0) (hb : Below X.heap.size X Y) : Pr w (Y.alloc (.cells #[.slice none 0 0, .slice none 0 0] 31)) X.heap.size Y.heap.size [] [] [] [] 0 0 X.heap.size Y.heap.size (fun k => k = X.heap.size) (fun k => k = Y.heap.size) := by
  have hlt := (h.foot X.heap.size rfl).2
  refine ⟨h.below (ba (Below.refl _ _) _), rdNew Y, fun k hk hk2 => ?_, bt hX (bt hb (ba (Below.refl _ _) _)), hX.size, Nat.le_trans hX.size hb.size⟩
  have e1 : k = X.heap.size := hk
  have e2 : k = Y.heap.size := hk2
  omega
end Go.Proofs.Ythajolagpnakkaa
