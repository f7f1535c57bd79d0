
/- Arguments as they come in: bytes, and lists of things of any kind. -/
import Derived.Test.YtjhjgncnadhbhaaN2
import Derived.ProofKit
import Derived.OpenShut
import Derived.ShutString
import Derived.ChangeOld
import Derived.Deep.Slices
set_option linter.unusedSimpArgs false
set_option linter.unusedVariables false
set_option maxRecDepth 20000
namespace Go.Proofs.Ytjhjgncnadhbhaa
open Go.ChangeShapes Go.WideShapes Go.ChangeAt Go.RowKit
variable {H : Type} {enc : TypeId × Value → H} {w : World} {base : Nat} {spare : Nat → Bool} {held : Bool} {fuel : Nat} {cs : List Value} {x : DataW H × List MemPlace}

theorem wf_u8 {n : Int} (h : (Lit.int .u8 n).wf = true) : 0 ≤ n ∧ n ≤ 255 := by
  have := bounds_u8 h; omega
theorem lt_of_cell {w : World} {b o : Nat} {v : Value} (h : w.cell? ⟨b, o, none⟩ = some v) : b < w.heap.size := by
  unfold World.cell? at h
  split at h
  · rename_i h1; exact (Array.getElem?_eq_some_iff.1 h1).1
  · cases h
theorem Try.cellsU8' : Try.prog.cellsOf 5 = 1 := by kernel_rfl
theorem byte_of_cells (h : DataW.trod enc Try.prog w base spare held fuel 5 cs = some x) : ∃ b : Int, cs = [.int .u8 b] ∧ 0 ≤ b ∧ b ≤ 255 := by
  obtain ⟨d, ed, -, wd⟩ := DataW.trod_int Try.underlying5 h
  exact ⟨d, ed, wf_u8 wd⟩
theorem slice_len {t e : TypeId} {a : Option Addr} {len cap : Nat} (ht : Try.prog.underlying t = some (.slice e)) (h : DataW.trod enc Try.prog w base spare held fuel t [.slice a len cap] = some x) : len ≤ 9223372036854775807 := by
  rcases Deep.open_slice ht h with ⟨e, -⟩ | ⟨ad, len', cap', m, n, D, Pl, e, hb, hl, hm, hmm, -, hall⟩
  · simp at e; omega
  · simp at e; unfold maxLen at hm; omega
theorem bytes_open {a : Option Addr} {len cap : Nat} (h : DataW.trod enc Try.prog w base spare held fuel 42 [.slice a len cap] = some x) (hlen : len ≤ 1048576) :
    ∃ l : List Int, IsBytes w (.slice a len cap) l ∧ l.length = len ∧ ∀ b ∈ l, 0 ≤ b ∧ b ≤ 255 := by
  rcases Deep.open_slice Try.underlying42 h with ⟨e, -⟩ | ⟨ad, len', cap', m, n, D, Pl, e, hb, hl, hm, hmm, -, hall⟩
  · simp at e
    obtain ⟨rfl, rfl, rfl⟩ := e
    exact ⟨[], .inl ⟨rfl, none, 0, rfl⟩, rfl, by simp⟩
  · simp at e
    obtain ⟨rfl, rfl, rfl⟩ := e
    have hlm : len ≤ m := by rw [hmm]; split <;> omega
    rw [Try.cellsU8'] at hall
    by_cases h0 : len = 0
    · subst h0; exact ⟨[], .inl ⟨rfl, some ad, cap, rfl⟩, rfl, by simp⟩
    · obtain ⟨blk, off, spot⟩ := ad
      have step : ∀ i, i < len → ∃ y : Int, w.cell? ⟨blk, off + i, none⟩ = some (.int .u8 y) ∧ 0 ≤ y ∧ y ≤ 255 := by
        intro i hi
        obtain ⟨cs', hc, ht⟩ := hall i (by omega)
        obtain ⟨y, rfl, hy⟩ := byte_of_cells ht
        obtain ⟨-, -, hcell⟩ := World.cells?_some hc
        have g0 := hcell 0 (by omega)
        have key : ∀ j v, w.cell? (((⟨blk, off, spot⟩ : Addr).add (i * 1)).add j) = some v → w.cell? ⟨blk, off + i * 1 + j, none⟩ = some v := by
          intro j v hv
          have hs := World.cell?_spot hv
          unfold Addr.add at hv hs
          split at hv <;> split at hv <;> simp_all
        refine ⟨y, ?_, hy⟩
        simpa using (key 0 _ (by simpa using g0))
      have hspot : spot = none := by
        obtain ⟨cs', hc, ht⟩ := hall 0 (by omega)
        obtain ⟨y, rfl, hy⟩ := byte_of_cells ht
        obtain ⟨-, -, hcell⟩ := World.cells?_some hc
        have g0 := hcell 0 (by omega)
        have e1 : ((⟨blk, off, spot⟩ : Addr).add (0 * 1)).add 0 = ⟨blk, off, spot⟩ := by simp [Addr.add]
        rw [e1] at g0
        exact World.cell?_spot (a := ⟨blk, off, spot⟩) (by simpa using g0)
      subst hspot
      obtain ⟨f, hf⟩ := @Deep.choose_lt Int ⟨0⟩ _ _ step
      have hl0 : blk < w.heap.size := lt_of_cell (hf 0 (by omega)).1
      refine ⟨(List.range len).map f, .inr ⟨blk, off, cap, by simp, by simp; omega, hl0, ?_⟩, by simp, ?_⟩
      · intro i y hi
        obtain ⟨hi1, hi2⟩ := List.getElem?_eq_some_iff.1 hi
        simp at hi1 hi2
        subst hi2
        exact (hf i hi1).1
      · intro y hy
        obtain ⟨i, hi, rfl⟩ := List.mem_map.1 hy
        exact (hf i (by simpa using hi)).2
theorem bytes_open2 {a : Option Addr} {len cap : Nat} (h : DataW.trod enc Try.prog w base spare held fuel 42 [.slice a len cap] = some x) (hlen : len ≤ 1048576) :
    ∃ l : List Int, ∃ E : Option Nat, Src w (.slice a len cap) l ∧ Byt w E (.slice a len cap) l ∧ (∀ d, E = some d → d < w.heap.size) ∧ l.length = len ∧ ∀ b ∈ l, 0 ≤ b ∧ b ≤ 255 := by
  obtain ⟨l, hI, hl, hr⟩ := bytes_open h hlen
  rcases Deep.open_slice Try.underlying42 h with ⟨e, -⟩ | ⟨ad, len', cap', m, n, D, Pl, e, hb, hlc, hm, hmm, -, hall⟩
  · simp at e
    obtain ⟨rfl, rfl, rfl⟩ := e
    obtain rfl := List.eq_nil_of_length_eq_zero hl
    exact ⟨[], none, .inl ⟨rfl, rfl⟩, ⟨none, 0, rfl, Nat.le_refl _, by simp, by simp, .inl rfl⟩, by simp, rfl, by simp⟩
  · simp at e
    obtain ⟨rfl, rfl, rfl⟩ := e
    subst hl
    rcases hI with ⟨rfl, -⟩ | ⟨blk, off, cap', e, h1, h2, h3⟩
    · exact ⟨[], none, .inr ⟨ad, cap, rfl, by simp⟩, ⟨_, cap, rfl, by simp, by simp, by simp, .inl rfl⟩, by simp, rfl, by simp⟩
    · simp at e
      obtain ⟨rfl, -⟩ := e
      exact ⟨l, some blk, .inr ⟨_, cap, rfl, fun i x hi => by rw [add_cell]; exact h3 i x hi⟩, ⟨_, cap, rfl, hlc, hlen, hr, .inr ⟨blk, off, rfl, rfl, h2, h3⟩⟩, fun d hd => by simp at hd; omega, rfl, hr⟩
theorem slice_form {t e : TypeId} (ht : Try.prog.underlying t = some (.slice e)) (h : DataW.trod enc Try.prog w base spare held fuel t cs = some x) : ∃ a len cap, cs = [.slice a len cap] ∧ len ≤ 9223372036854775807 := by
  rcases Deep.open_slice ht h with ⟨e, -⟩ | ⟨ad, len', cap', m, n, D, Pl, e, hb, hl, hm, hmm, -, hall⟩
  · exact ⟨none, 0, 0, e, by omega⟩
  · exact ⟨some ad, len', cap', e, by unfold maxLen at hm; omega⟩
/-- A list of things of n cells each, as it comes in. -/
theorem open_list {α : Type} [Inhabited α] {t e : TypeId} {n : Nat} (hn : 0 < n) (ht : Try.prog.underlying t = some (.slice e)) (hc : Try.prog.cellsOf e = n) (ev : α → List Value) (good : α → Prop)
    (hel : ∀ m cs x, DataW.trod enc Try.prog w base spare held m e cs = some x → ∃ y, cs = ev y ∧ (ev y).length = n ∧ good y)
    {a : Option Addr} {len cap : Nat} (h : DataW.trod enc Try.prog w base spare held fuel t [.slice a len cap] = some x) :
    ∃ l : List α, l.length = len ∧ (∀ y ∈ l, good y) ∧ (len = 0 ∨ ∃ blk off, a = some ⟨blk, off, none⟩ ∧ blk < w.heap.size ∧ ∀ i y, l[i]? = some y → ∀ j v, (ev y)[j]? = some v → w.cell? ⟨blk, off + i * n + j, none⟩ = some v) := by
  rcases Deep.open_slice ht h with ⟨e, -⟩ | ⟨ad, len', cap', m, n', D, Pl, e, hb, hl, hm, hmm, -, hall⟩
  · simp at e
    obtain ⟨rfl, rfl, rfl⟩ := e
    exact ⟨[], rfl, by simp, .inl rfl⟩
  · simp at e
    obtain ⟨rfl, rfl, rfl⟩ := e
    have hlm : len ≤ m := by rw [hmm]; split <;> omega
    rw [hc] at hall
    by_cases h0 : len = 0
    · subst h0; exact ⟨[], rfl, by simp, .inl rfl⟩
    · obtain ⟨blk, off, spot⟩ := ad
      have key : ∀ i j v, w.cell? (((⟨blk, off, spot⟩ : Addr).add (i * n)).add j) = some v → w.cell? ⟨blk, off + i * n + j, none⟩ = some v := by
        intro i j v hv
        have hs := World.cell?_spot hv
        unfold Addr.add at hv hs
        split at hv <;> split at hv <;> simp_all
      have step : ∀ i, i < len → ∃ y : α, (∀ j v, (ev y)[j]? = some v → w.cell? ⟨blk, off + i * n + j, none⟩ = some v) ∧ (ev y).length = n ∧ good y := by
        intro i hi
        obtain ⟨cs', hc', ht'⟩ := hall i (by omega)
        obtain ⟨y, rfl, hy0, hy⟩ := hel _ _ _ ht'
        obtain ⟨-, -, hcell⟩ := World.cells?_some hc'
        refine ⟨y, fun j v hj => key i j v ?_, hy0, hy⟩
        have hjl : j < n := by have := (List.getElem?_eq_some_iff.1 hj).1; omega
        have := hcell j (by omega)
        rw [hj] at this
        exact this
      have hspot : spot = none := by
        obtain ⟨cs', hc', ht'⟩ := hall 0 (by omega)
        obtain ⟨y, rfl, hy0, hy⟩ := hel _ _ _ ht'
        obtain ⟨-, -, hcell⟩ := World.cells?_some hc'
        have g0 := hcell 0 (by omega)
        have e1 : ((⟨blk, off, spot⟩ : Addr).add (0 * n)).add 0 = ⟨blk, off, spot⟩ := by simp [Addr.add]
        rw [e1, List.getElem?_eq_getElem (by omega)] at g0
        exact World.cell?_spot (a := ⟨blk, off, spot⟩) g0
      subst hspot
      obtain ⟨f, hf⟩ := @Deep.choose_lt α inferInstance _ _ step
      have hl0 : blk < w.heap.size := by
        obtain ⟨f1, f2, -⟩ := hf 0 (by omega)
        exact lt_of_cell (f1 0 ((ev (f 0))[0]'(by omega)) (List.getElem?_eq_getElem (by omega)))
      refine ⟨(List.range len).map f, by simp, ?_, .inr ⟨blk, off, rfl, hl0, ?_⟩⟩
      · intro y hy
        obtain ⟨i, hi, rfl⟩ := List.mem_map.1 hy
        exact (hf i (by simpa using hi)).2.2
      · intro i y hi
        obtain ⟨hi1, hi2⟩ := List.getElem?_eq_some_iff.1 hi
        simp at hi1 hi2
        subst hi2
        exact (hf i hi1).1
theorem u8_in {n : Int} (h : DataW.trod enc Try.prog w base spare held fuel 5 [.int .u8 n] = some x) : 0 ≤ n ∧ n ≤ 255 := by
  obtain ⟨d, ed, -, wd⟩ := DataW.trod_int Try.underlying5 h
  simp at ed
  rw [ed]
  exact wf_u8 wd
end Go.Proofs.Ytjhjgncnadhbhaa
