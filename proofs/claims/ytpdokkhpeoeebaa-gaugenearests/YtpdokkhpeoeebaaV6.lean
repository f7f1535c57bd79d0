
/- Arguments as they come in: bytes, and lists of things of any kind. -/
import Derived.Test.YtpdokkhpeoeebaaN2
import Derived.ProofKit
import Derived.OpenShut
import Derived.ShutString
import Derived.ChangeOld
import Derived.Deep.Slices
set_option linter.unusedSimpArgs false
set_option linter.unusedVariables false
set_option maxRecDepth 20000
namespace Go.Proofs.Ytpdokkhpeoeebaa
open Go.ChangeShapes Go.WideShapes Go.ChangeAt Go.RowKit
variable {H : Type} {enc : TypeId × Value → H} {w : World} {base : Nat} {spare : Nat → Bool} {held : Bool} {fuel : Nat} {cs : List Value} {x : DataW H × List MemPlace}

theorem wf_u8 {n : Int} (h : (Lit.int .u8 n).wf = true) : 0 ≤ n ∧ n ≤ 255 := by
  have := bounds_u8 h; omega
theorem lt_of_cell {w : World} {b o : Nat} {v : Value} (h : w.cell? ⟨b, o, none⟩ = some v) : b < w.heap.size := by
  unfold World.cell? at h
  split at h
  · rename_i h1; exact (Array.getElem?_eq_some_iff.1 h1).1
  · cases h
theorem Try.cellsU8' : Try.prog.cellsOf 5 = 1 := by kernel_rfl
theorem byte_of_cells (h : DataW.trod enc Try.prog w base spare held fuel 5 cs = some x) : ∃ b : Int, cs = [.int .u8 b] ∧ 0 ≤ b ∧ b ≤ 255 := by
  obtain ⟨d, ed, -, wd⟩ := DataW.trod_int Try.underlying5 h
  exact ⟨d, ed, wf_u8 wd⟩
theorem slice_len {t e : TypeId} {a : Option Addr} {len cap : Nat} (ht : Try.prog.underlying t = some (.slice e)) (h : DataW.trod enc Try.prog w base spare held fuel t [.slice a len cap] = some x) : len ≤ 9223372036854775807 := by
  rcases Deep.open_slice ht h with ⟨e, -⟩ | ⟨ad, len', cap', m, n, D, Pl, e, hb, hl, hm, hmm, -, hall⟩
  · simp at e; omega
  · simp at e; unfold maxLen at hm; omega
theorem slice_form {t e : TypeId} (ht : Try.prog.underlying t = some (.slice e)) (h : DataW.trod enc Try.prog w base spare held fuel t cs = some x) : ∃ a len cap, cs = [.slice a len cap] ∧ len ≤ 9223372036854775807 := by
  rcases Deep.open_slice ht h with ⟨e, -⟩ | ⟨ad, len', cap', m, n, D, Pl, e, hb, hl, hm, hmm, -, hall⟩
  · exact ⟨none, 0, 0, e, by omega⟩
  · exact ⟨some ad, len', cap', e, by unfold maxLen at hm; omega⟩
/-- A list of things of n cells each, as it comes in. -/
theorem open_list {α : Type} [Inhabited α] {t e : TypeId} {n : Nat} (hn : 0 < n) (ht : Try.prog.underlying t = some (.slice e)) (hc : Try.prog.cellsOf e = n) (ev : α → List Value) (good : α → Prop)
    (hel : ∀ m cs x, DataW.trod enc Try.prog w base spare held m e cs = some x → ∃ y, cs = ev y ∧ (ev y).length = n ∧ good y)
    {a : Option Addr} {len cap : Nat} (h : DataW.trod enc Try.prog w base spare held fuel t [.slice a len cap] = some x) :
    ∃ l : List α, l.length = len ∧ (∀ y ∈ l, good y) ∧ (len = 0 ∨ ∃ blk off, a = some ⟨blk, off, none⟩ ∧ blk < w.heap.size ∧ ∀ i y, l[i]? = some y → ∀ j v, (ev y)[j]? = some v → w.cell? ⟨blk, off + i * n + j, none⟩ = some v) := by
  rcases Deep.open_slice ht h with ⟨e, -⟩ | ⟨ad, len', cap', m, n', D, Pl, e, hb, hl, hm, hmm, -, hall⟩
  · simp at e
    obtain ⟨rfl, rfl, rfl⟩ := e
    exact ⟨[], rfl, by simp, .inl rfl⟩
  · simp at e
    obtain ⟨rfl, rfl, rfl⟩ := e
    have hlm : len ≤ m := by rw [hmm]; split <;> omega
    rw [hc] at hall
    by_cases h0 : len = 0
    · subst h0; exact ⟨[], rfl, by simp, .inl rfl⟩
    · obtain ⟨blk, off, spot⟩ := ad
      have key : ∀ i j v, w.cell? (((⟨blk, off, spot⟩ : Addr).add (i * n)).add j) = some v → w.cell? ⟨blk, off + i * n + j, none⟩ = some v := by
        intro i j v hv
        have hs := World.cell?_spot hv
        unfold Addr.add at hv hs
        split at hv <;> split at hv <;> simp_all
      have step : ∀ i, i < len → ∃ y : α, (∀ j v, (ev y)[j]? = some v → w.cell? ⟨blk, off + i * n + j, none⟩ = some v) ∧ (ev y).length = n ∧ good y := by
        intro i hi
        obtain ⟨cs', hc', ht'⟩ := hall i (by omega)
        obtain ⟨y, rfl, hy0, hy⟩ := hel _ _ _ ht'
        obtain ⟨-, -, hcell⟩ := World.cells?_some hc'
        refine ⟨y, fun j v hj => key i j v ?_, hy0, hy⟩
        have hjl : j < n := by have := (List.getElem?_eq_some_iff.1 hj).1; omega
        have := hcell j (by omega)
        rw [hj] at this
        exact this
      have hspot : spot = none := by
        obtain ⟨cs', hc', ht'⟩ := hall 0 (by omega)
        obtain ⟨y, rfl, hy0, hy⟩ := hel _ _ _ ht'
        obtain ⟨-, -, hcell⟩ := World.cells?_some hc'
        have g0 := hcell 0 (by omega)
        have e1 : ((⟨blk, off, spot⟩ : Addr).add (0 * n)).add 0 = ⟨blk, off, spot⟩ := by simp [Addr.add]
        rw [e1, List.getElem?_eq_getElem (by omega)] at g0
        exact World.cell?_spot (a := ⟨blk, off, spot⟩) g0
      subst hspot
      obtain ⟨f, hf⟩ := @Deep.choose_lt α inferInstance _ _ step
      have hl0 : blk < w.heap.size := by
        obtain ⟨f1, f2, -⟩ := hf 0 (by omega)
        exact lt_of_cell (f1 0 ((ev (f 0))[0]'(by omega)) (List.getElem?_eq_getElem (by omega)))
      refine ⟨(List.range len).map f, by simp, ?_, .inr ⟨blk, off, rfl, hl0, ?_⟩⟩
      · intro y hy
        obtain ⟨i, hi, rfl⟩ := List.mem_map.1 hy
        exact (hf i (by simpa using hi)).2.2
      · intro i y hi
        obtain ⟨hi1, hi2⟩ := List.getElem?_eq_some_iff.1 hi
        simp at hi1 hi2
        subst hi2
        exact (hf i hi1).1
theorem u8_in {n : Int} (h : DataW.trod enc Try.prog w base spare held fuel 5 [.int .u8 n] = some x) : 0 ≤ n ∧ n ≤ 255 := by
  obtain ⟨d, ed, -, wd⟩ := DataW.trod_int Try.underlying5 h
  simp at ed
  rw [ed]
  exact wf_u8 wd
end Go.Proofs.Ytpdokkhpeoeebaa
