
/- A plan as it comes in: its kind, times, coins and periods. -/
import Derived.Test.YtmfnfnegnfpkiaaPL5
import Derived.Test.YtmfnfnegnfpkiaaV
import Derived.Test.YtmfnfnegnfpkiaaV6
set_option linter.unusedSimpArgs false
set_option linter.unusedVariables false
set_option maxRecDepth 20000
namespace Go.Proofs.Ytmfnfnegnfpkiaa
open Go.ChangeShapes Go.WideShapes Go.ChangeAt Go.RowKit

def cnV (y : Cn) : List Value := [.int .u8 y.d, .int .u64 y.a, .int .u64 y.b, .int .u64 y.c, .int .u64 y.e]
/-- A period that came in: how long, where its coins are, what they are. -/
structure Pa where
  n : Int
  a : Option Addr
  m : Nat
  cap : Nat
  l : List Cn
def paV (y : Pa) : List Value := [.int .u64 y.n, .slice y.a y.m y.cap]
def Pa.pd (y : Pa) : Pd := ⟨y.n, .slice y.a y.m y.cap, y.l⟩
structure PaIn (w : World) (y : Pa) : Prop where
  n : 0 ≤ y.n ∧ y.n < 18446744073709551616
  len : y.l.length = y.m
  cl : IsCL w (.slice y.a y.m y.cap) y.l
  wf : ∀ x ∈ y.l, CnWf x
/-- A plan that came in. -/
structure PlanIn (w : World) (y : Pn) : Prop where
  wf : PnWf y
  cl : IsCL w y.av y.al
  pv : ∃ a n c, y.pv = .slice a n c ∧ n ≤ 9223372036854775807 ∧ (n ≤ 1048576 → IsPds w y.pv y.pl ∧ y.pl.length = n ∧ ∀ q ∈ y.pl, PdWf q)
theorem PlanIn.at {w : World} {y : Pn} (h : PlanIn w y) {a : Option Addr} {n c : Nat} (hv : y.pv = .slice a n c) (hn : n ≤ 1048576) : PnAt w y ∧ PnOk y ∧ y.pl.length = n := by
  obtain ⟨a', n', c', e, -, h2⟩ := h.pv
  rw [hv] at e
  injection e with e1 e2 e3
  subst e2
  obtain ⟨h3, h4, h5⟩ := h2 hn
  exact ⟨⟨h.cl, h3⟩, ⟨h.wf, h5⟩, h4⟩
section
variable {H : Type} {enc : TypeId × Value → H} {w : World} {base : Nat} {spare : Nat → Bool} {held : Bool} {fuel : Nat} {cs : List Value} {x : DataW H × List MemPlace}
theorem Try.cellsPlan : Try.prog.cellsOf 26 = 5 := by kernel_rfl
theorem Try.cellsPeriod : Try.prog.cellsOf 73 = 2 := by kernel_rfl
theorem Try.cellsCs6 : Try.prog.cellsOf 23 = 1 := by kernel_rfl
theorem Try.cellsPs6 : Try.prog.cellsOf 24 = 1 := by kernel_rfl
theorem Try.cellsLong6 : Try.prog.cellsOf 22 = 1 := by kernel_rfl
theorem coins_openL {a : Option Addr} {len cap : Nat} (h : DataW.trod enc Try.prog w base spare held fuel 23 [.slice a len cap] = some x) (hlen : len ≤ 9223372036854775807) :
    ∃ l : List Cn, IsCL w (.slice a len cap) l ∧ l.length = len ∧ ∀ y ∈ l, CnWf y := by
  obtain ⟨l, h1, h2, h3⟩ := @open_list H enc w base spare held fuel x Cn ⟨⟨0, 0, 0, 0, 0⟩⟩ 23 71 5 (by omega) Try.underlying23 Try.cellsCoin cnV CnWf (fun m cs x h => by obtain ⟨y, e, hy⟩ := coin_of_cells h; exact ⟨y, e, rfl, hy⟩) a len cap h
  refine ⟨l, ?_, h1, h2⟩
  rcases h3 with h3 | ⟨blk, off, rfl, hb, hc⟩
  · subst h3
    exact .inl ⟨List.eq_nil_of_length_eq_zero h1, a, cap, rfl⟩
  · by_cases hl : l = []
    · subst hl; simp at h1; subst h1; exact .inl ⟨rfl, _, _, rfl⟩
    · exact .inr ⟨blk, off, cap, by rw [h1], hl, by omega, hb, fun i y hi => ⟨hc i y hi 0 _ rfl, hc i y hi 1 _ rfl, hc i y hi 2 _ rfl, hc i y hi 3 _ rfl, hc i y hi 4 _ rfl⟩⟩
theorem pa_of_cells (h : DataW.trod enc Try.prog w base spare held fuel 73 cs = some x) : ∃ y : Pa, cs = paV y ∧ (paV y).length = 2 ∧ PaIn w y := by
  obtain ⟨xs, m, -, -, hl, hx, hi⟩ := DataW.trod_struct Try.underlying73 h
  rw [Try.cellsPeriod] at hl
  have f0 : DataW.trod enc Try.prog w base spare held m 22 ((cs.drop 0).take (Try.prog.cellsOf 22)) = xs[0]? := hi 0 _ rfl
  have f1 : DataW.trod enc Try.prog w base spare held m 23 ((cs.drop 1).take (Try.prog.cellsOf 23)) = xs[1]? := hi 1 _ rfl
  rw [Try.cellsLong6] at f0
  rw [Try.cellsCs6] at f1
  match cs, hl with
  | [c0, c1], _ =>
    have hx2 : xs.length = 2 := hx
    have g0 := f0.trans (List.getElem?_eq_getElem (by omega))
    have g1 := f1.trans (List.getElem?_eq_getElem (by omega))
    obtain ⟨d, ed, -, wd⟩ := DataW.trod_int Try.underlying22 g0
    obtain ⟨a, n, cap, ea, hn⟩ := slice_form Try.underlying23 g1
    simp at ed ea
    subst ed ea
    obtain ⟨l, h1, h2, h3⟩ := coins_openL g1 hn
    exact ⟨⟨d, a, n, cap, l⟩, rfl, rfl, by have := bounds_u64 wd; show 0 ≤ d ∧ d < _; omega, h2, h1, h3⟩
theorem periods_open {a : Option Addr} {len cap : Nat} (h : DataW.trod enc Try.prog w base spare held fuel 24 [.slice a len cap] = some x) :
    ∃ l : List Pd, len ≤ 1048576 → IsPds w (.slice a len cap) l ∧ l.length = len ∧ ∀ q ∈ l, PdWf q := by
  obtain ⟨l, h1, h2, h3⟩ := @open_list H enc w base spare held fuel x Pa ⟨⟨0, none, 0, 0, []⟩⟩ 24 73 2 (by omega) Try.underlying24 Try.cellsPeriod paV (PaIn w) (fun m cs x h => pa_of_cells h) a len cap h
  refine ⟨l.map Pa.pd, fun hl => ⟨?_, by simpa using h1, ?_⟩⟩
  · rcases h3 with h3 | ⟨blk, off, rfl, hb, hc⟩
    · subst h3
      obtain rfl := List.eq_nil_of_length_eq_zero h1
      exact .inl ⟨rfl, a, cap, rfl⟩
    · by_cases hn : l = []
      · subst hn; simp at h1; subst h1; exact .inl ⟨rfl, _, _, rfl⟩
      · refine .inr ⟨blk, off, cap, by simp [h1], by simpa using hn, by simpa [h1] using hl, hb, fun i q hi => ?_⟩
        rw [List.getElem?_map] at hi
        obtain ⟨y, hy, rfl⟩ := Option.map_eq_some_iff.1 hi
        exact ⟨hc i y hy 0 _ rfl, hc i y hy 1 _ rfl, (h2 y (List.mem_of_getElem? hy)).cl⟩
  · intro q hq
    obtain ⟨y, hy, rfl⟩ := List.mem_map.1 hq
    exact ⟨(h2 y hy).n, (h2 y hy).wf⟩
theorem plan_of_cells (h : DataW.trod enc Try.prog w base spare held fuel 26 cs = some x) : ∃ y : Pn, cs = [.int .u8 y.k, .int .u64 y.s, .int .u64 y.e, y.av, y.pv] ∧ PlanIn w y := by
  obtain ⟨xs, m, -, -, hl, hx, hi⟩ := DataW.trod_struct Try.underlying26 h
  rw [Try.cellsPlan] at hl
  have f0 : DataW.trod enc Try.prog w base spare held m 5 ((cs.drop 0).take (Try.prog.cellsOf 5)) = xs[0]? := hi 0 _ rfl
  have f1 : DataW.trod enc Try.prog w base spare held m 22 ((cs.drop 1).take (Try.prog.cellsOf 22)) = xs[1]? := hi 1 _ rfl
  have f2 : DataW.trod enc Try.prog w base spare held m 22 ((cs.drop 2).take (Try.prog.cellsOf 22)) = xs[2]? := hi 2 _ rfl
  have f3 : DataW.trod enc Try.prog w base spare held m 23 ((cs.drop 3).take (Try.prog.cellsOf 23)) = xs[3]? := hi 3 _ rfl
  have f4 : DataW.trod enc Try.prog w base spare held m 24 ((cs.drop 4).take (Try.prog.cellsOf 24)) = xs[4]? := hi 4 _ rfl
  rw [Try.cellsU8] at f0
  rw [Try.cellsLong6] at f1 f2
  rw [Try.cellsCs6] at f3
  rw [Try.cellsPs6] at f4
  match cs, hl with
  | [c0, c1, c2, c3, c4], _ =>
    have hx2 : xs.length = 5 := hx
    obtain ⟨k, ek, -, wk⟩ := DataW.trod_int Try.underlying5 (f0.trans (List.getElem?_eq_getElem (by omega)))
    obtain ⟨s, es, -, ws⟩ := DataW.trod_int Try.underlying22 (f1.trans (List.getElem?_eq_getElem (by omega)))
    obtain ⟨t, et, -, wt⟩ := DataW.trod_int Try.underlying22 (f2.trans (List.getElem?_eq_getElem (by omega)))
    have g3 := f3.trans (List.getElem?_eq_getElem (by omega))
    have g4 := f4.trans (List.getElem?_eq_getElem (by omega))
    obtain ⟨a, n, cap, ea, hn⟩ := slice_form Try.underlying23 g3
    obtain ⟨a', n', cap', ea', hn'⟩ := slice_form Try.underlying24 g4
    simp at ek es et ea ea'
    subst ek es et ea ea'
    obtain ⟨l, h1, h2, h3⟩ := coins_openL g3 hn
    obtain ⟨pl, hp⟩ := periods_open g4
    exact ⟨⟨k, s, t, .slice a n cap, .slice a' n' cap', l, pl⟩, rfl, ⟨wf_u8 wk, by have := bounds_u64 ws; show 0 ≤ s ∧ s < _; omega, by have := bounds_u64 wt; show 0 ≤ t ∧ t < _; omega, h3⟩, h1, a', n', cap', rfl, hn', hp⟩
theorem okWide_plan {W : World} {b : Nat} {r : Reach} {v : Value} (h : Value.okWide Try.prog W r b 26 v) : ∃ cs, v = .agg cs := by
  unfold Value.okWide at h
  rw [Try.underlying26] at h
  obtain ⟨cs, e, -⟩ := h
  exact ⟨cs, e⟩
theorem plan_in {W : World} {b : Nat} {r : Reach} {v : Value} (hv : Value.okWide Try.prog W r b 26 v) (h : ∃ fuel, DataW.trod enc Try.prog w base spare held fuel 26 v.cells.toList = some x) :
    ∃ y : Pn, v = pnV y ∧ PlanIn w y := by
  obtain ⟨cs, rfl⟩ := okWide_plan hv
  obtain ⟨fuel, h⟩ := h
  obtain ⟨y, e, hl⟩ := plan_of_cells h
  refine ⟨y, ?_, hl⟩
  cases cs
  simp [Value.cells] at e
  rw [e]
  rfl
end
end Go.Proofs.Ytmfnfnegnfpkiaa
