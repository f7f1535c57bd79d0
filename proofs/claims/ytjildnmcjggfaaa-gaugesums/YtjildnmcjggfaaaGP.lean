
/- Lists of pairs of numbers as arguments; the law's points. -/
import Derived.Test.YtjildnmcjggfaaaGM
import Derived.Test.YtjildnmcjggfaaaGN
import Derived.Maps.AppendAt
set_option linter.unusedSimpArgs false
set_option linter.unusedVariables false
namespace Go.Proofs.Ytjildnmcjggfaaa
open Go.ChangeShapes Go.WideShapes Go.ChangeAt Go.RowKit

structure Tw8 where
  a0 : Int
  a1 : Int
  a2 : Int
  a3 : Int
  b0 : Int
  b1 : Int
  b2 : Int
  b3 : Int
def t8V (t : Tw8) : List Value := [.int .u64 t.a0, .int .u64 t.a1, .int .u64 t.a2, .int .u64 t.a3, .int .u64 t.b0, .int .u64 t.b1, .int .u64 t.b2, .int .u64 t.b3]
def T8ok (t : Tw8) : Prop := Lim t.a0 t.a1 t.a2 t.a3 ∧ Lim t.b0 t.b1 t.b2 t.b3
/-- A pair's point. -/
def ptO (t : Tw8) : Nat × Nat := (fI (val t.a0 t.a1 t.a2 t.a3), fI (val t.b0 t.b1 t.b2 t.b3))
structure TwosIn (w : World) (a : Option Addr) (len : Nat) (l : List Tw8) : Prop where
  ln : l.length = len
  ok : ∀ y ∈ l, T8ok y
  cell : len = 0 ∨ ∃ blk off, a = some ⟨blk, off, none⟩ ∧ blk < w.heap.size ∧ ∀ i y, l[i]? = some y → ∀ j v, (t8V y)[j]? = some v → w.cell? ⟨blk, off + i * 8 + j, none⟩ = some v
theorem twos_open {H : Type} {enc : TypeId × Value → H} {w : World} {base : Nat} {spare : Nat → Bool} {held : Bool} {fuel : Nat} {x : DataW H × List MemPlace} {a : Option Addr} {len cap : Nat} (h : DataW.trod enc Try.prog w base spare held fuel 39 [.slice a len cap] = some x) : ∃ l, TwosIn w a len l := by
  obtain ⟨l, h1, h2, h3⟩ := @open_list H enc w base spare held fuel x Tw8 ⟨⟨0, 0, 0, 0, 0, 0, 0, 0⟩⟩ 39 48 8 (by omega) Try.underlying39 Try.cellsTwo t8V T8ok (fun m cs x h => by
    obtain ⟨a0, a1, a2, a3, b0, b1, b2, b3, e, ha, hb⟩ := two_of_cells h
    exact ⟨⟨a0, a1, a2, a3, b0, b1, b2, b3⟩, e, rfl, ha, hb⟩) a len cap h
  exact ⟨l, h1, h2, h3⟩

def cxV (l : List (Nat × Nat)) : List Value := l.map fun x => .complex .f64 x.1 x.2
def ptV (l : List (Nat × Nat)) : List Value := l.flatMap fun x => [.float .f64 x.1, .float .f64 x.2]
theorem cxV_len (l : List (Nat × Nat)) : (cxV l).length = l.length := by simp [cxV]
theorem cxV_app (l k : List (Nat × Nat)) : cxV (l ++ k) = cxV l ++ cxV k := by simp [cxV]
theorem ptV_app (l k : List (Nat × Nat)) : ptV (l ++ k) = ptV l ++ ptV k := by simp [ptV]
theorem cx_info : (Try.prog.info? 36).map (fun i => (i.zero, i.size, i.bytes)) = some (some (.complex .f64 0 0), 1, 16) := by kernel_rfl
theorem pt_info : (Try.prog.info? 35).map (fun i => (i.zero, i.size, i.bytes)) = some (some (.agg #[.float .f64 0, .float .f64 0]), 2, 16) := by kernel_rfl
/-- Both lists of points, as they are made. -/
structure PJ (w0 W : World) (p q : Value) (L M : List (Nat × Nat)) : Prop where
  rp : W.ownsRow w0.heap.size 36 1 p L.length (cxV L)
  rq : W.ownsRow w0.heap.size 35 2 q M.length (ptV M)
  below : Below w0.heap.size w0 W
section
variable {w0 W : World} {p q : Value} {L M : List (Nat × Nat)}
theorem PJ.le (h : PJ w0 W p q L M) : w0.heap.size ≤ W.heap.size := h.below.size
theorem PJ.call {W' : World} (h : PJ w0 W p q L M) (hb : Below W.heap.size W W') : PJ w0 W' p q L M := ⟨none_row h.rp (grown_none hb), none_row h.rq (grown_none hb), bt h.below hb⟩
theorem PJ.appP (h : PJ w0 W p q L M) {x : Nat × Nat} (hl : L.length ≤ 1000) {o : Oper} {a : Act} {K : Act → World → Prop} {Q : Exit → Act → World → Prop} (s y : Operand)
    (ho : o.op = .call { callee := .builtin .append, args := #[s, y], argTypes := #[40, 40] }) (hs : a.eval s = p) {g : Nat} (hx : a.eval y = .slice (some ⟨g, 0, none⟩) 1 1) (hc : W.cell? ⟨g, 0, none⟩ = some (.complex .f64 x.1 x.2))
    (k : ∀ p' w', PJ w0 w' p' q (L ++ [x]) M → K (a.put o.dst p') w') : o.wp Try.prog a W K Q := by
  obtain ⟨i0, hi, hz0, hz1, hz2⟩ := cx_info |> info_parts
  refine wp_append_own_at W s y 40 ho w0.heap.size 36 i0 _ 1 16 Try.underlying40 hi hz0 hz1 hz2 rfl (by decide) p L.length (cxV L) hs h.rp ⟨g, 0, none⟩ 1 1 [.complex .f64 x.1 x.2] hx rfl (fun j u hj => by rw [add_cell, Nat.zero_add]; match j, hj with | 0, hj => (simp at hj; subst hj; exact hc) | j + 1, hj => simp at hj) (by simp [Value.oneCell']) (by unfold maxLen; omega) (by omega) h.le ?_
  intro u' w' hown hg _ hat
  refine k u' w' ⟨by rw [List.length_append, cxV_app]; exact hown, h.rq.kept hg (rows_apart h.rq h.rp (by decide)), h.below.grown hg h.le (fun k hk => (h.rp.lt k hk).1)⟩
theorem PJ.appQ (h : PJ w0 W p q L M) {x : Nat × Nat} (hl : M.length ≤ 1000) {o : Oper} {a : Act} {K : Act → World → Prop} {Q : Exit → Act → World → Prop} (s y : Operand)
    (ho : o.op = .call { callee := .builtin .append, args := #[s, y], argTypes := #[41, 41] }) (hs : a.eval s = q) {g : Nat} (hx : a.eval y = .slice (some ⟨g, 0, none⟩) 1 1) (hc : W.cell? ⟨g, 0, none⟩ = some (.float .f64 x.1)) (hc1 : W.cell? ⟨g, 1, none⟩ = some (.float .f64 x.2))
    (k : ∀ q' w', PJ w0 w' p q' L (M ++ [x]) → K (a.put o.dst q') w') : o.wp Try.prog a W K Q := by
  obtain ⟨i0, hi, hz0, hz1, hz2⟩ := pt_info |> info_parts
  refine wp_append_own_at W s y 41 ho w0.heap.size 35 i0 _ 2 16 Try.underlying41 hi hz0 hz1 hz2 rfl (by decide) q M.length (ptV M) hs h.rq ⟨g, 0, none⟩ 1 1 [.float .f64 x.1, .float .f64 x.2] hx rfl (fun j u hj => by rw [add_cell, Nat.zero_add]; match j, hj with | 0, hj => (simp at hj; subst hj; exact hc) | 1, hj => (simp at hj; subst hj; exact hc1) | j + 2, hj => simp at hj) (by simp [Value.oneCell']) (by unfold maxLen; omega) (by omega) h.le ?_
  intro u' w' hown hg _ hat
  refine k u' w' ⟨h.rp.kept hg (rows_apart h.rp h.rq (by decide)), by rw [List.length_append, ptV_app]; exact hown, h.below.grown hg h.le (fun k hk => (h.rq.lt k hk).1)⟩
end
end Go.Proofs.Ytjildnmcjggfaaa
