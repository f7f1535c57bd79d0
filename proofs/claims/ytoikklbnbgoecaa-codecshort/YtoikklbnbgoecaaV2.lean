
/- Arguments as they come in: lists of bytes. -/
import Derived.Test.YtoikklbnbgoecaaV0
import Derived.Test.YtoikklbnbgoecaaB2
set_option linter.unusedSimpArgs false
set_option linter.unusedVariables false
namespace Go.Proofs.Ytoikklbnbgoecaa
open Go.ChangeShapes Go.WideShapes Go.ChangeAt Go.RowKit
variable {H : Type} {enc : TypeId × Value → H} {w : World} {base : Nat} {spare : Nat → Bool} {held : Bool} {fuel : Nat} {cs : List Value} {x : DataW H × List MemPlace}

theorem Try.cellsU8' : Try.prog.cellsOf 5 = 1 := by kernel_rfl
theorem byte_of_cells (h : DataW.trod enc Try.prog w base spare held fuel 5 cs = some x) : ∃ b : Int, cs = [.int .u8 b] ∧ 0 ≤ b ∧ b ≤ 255 := by
  obtain ⟨d, ed, -, wd⟩ := DataW.trod_int Try.underlying5 h
  exact ⟨d, ed, wf_u8 wd⟩

theorem slice_len {t e : TypeId} {a : Option Addr} {len cap : Nat} (ht : Try.prog.underlying t = some (.slice e)) (h : DataW.trod enc Try.prog w base spare held fuel t [.slice a len cap] = some x) : len ≤ 9223372036854775807 := by
  rcases Deep.open_slice ht h with ⟨e, -⟩ | ⟨ad, len', cap', m, n, D, Pl, e, hb, hl, hm, hmm, -, hall⟩
  · simp at e; omega
  · simp at e; unfold maxLen at hm; omega

theorem bytes_open {a : Option Addr} {len cap : Nat} (h : DataW.trod enc Try.prog w base spare held fuel 26 [.slice a len cap] = some x) (hlen : len ≤ 1048576) :
    ∃ l : List Int, IsBytes w (.slice a len cap) l ∧ l.length = len ∧ ∀ b ∈ l, 0 ≤ b ∧ b ≤ 255 := by
  rcases Deep.open_slice Try.underlying26 h with ⟨e, -⟩ | ⟨ad, len', cap', m, n, D, Pl, e, hb, hl, hm, hmm, -, hall⟩
  · simp at e
    obtain ⟨rfl, rfl, rfl⟩ := e
    exact ⟨[], .inl ⟨rfl, none, 0, rfl⟩, rfl, by simp⟩
  · simp at e
    obtain ⟨rfl, rfl, rfl⟩ := e
    have hlm : len ≤ m := by rw [hmm]; split <;> omega
    rw [Try.cellsU8'] at hall
    by_cases h0 : len = 0
    · subst h0; exact ⟨[], .inl ⟨rfl, some ad, cap, rfl⟩, rfl, by simp⟩
    · obtain ⟨blk, off, spot⟩ := ad
      have step : ∀ i, i < len → ∃ y : Int, w.cell? ⟨blk, off + i, none⟩ = some (.int .u8 y) ∧ 0 ≤ y ∧ y ≤ 255 := by
        intro i hi
        obtain ⟨cs', hc, ht⟩ := hall i (by omega)
        obtain ⟨y, rfl, hy⟩ := byte_of_cells ht
        obtain ⟨-, -, hcell⟩ := World.cells?_some hc
        have g0 := hcell 0 (by omega)
        have key : ∀ j v, w.cell? (((⟨blk, off, spot⟩ : Addr).add (i * 1)).add j) = some v → w.cell? ⟨blk, off + i * 1 + j, none⟩ = some v := by
          intro j v hv
          have hs := World.cell?_spot hv
          unfold Addr.add at hv hs
          split at hv <;> split at hv <;> simp_all
        refine ⟨y, ?_, hy⟩
        simpa using (key 0 _ (by simpa using g0))
      have hspot : spot = none := by
        obtain ⟨cs', hc, ht⟩ := hall 0 (by omega)
        obtain ⟨y, rfl, hy⟩ := byte_of_cells ht
        obtain ⟨-, -, hcell⟩ := World.cells?_some hc
        have g0 := hcell 0 (by omega)
        have e1 : ((⟨blk, off, spot⟩ : Addr).add (0 * 1)).add 0 = ⟨blk, off, spot⟩ := by simp [Addr.add]
        rw [e1] at g0
        exact World.cell?_spot (a := ⟨blk, off, spot⟩) (by simpa using g0)
      subst hspot
      obtain ⟨f, hf⟩ := @Deep.choose_lt Int ⟨0⟩ _ _ step
      have hl0 : blk < w.heap.size := lt_of_cell (hf 0 (by omega)).1
      refine ⟨(List.range len).map f, .inr ⟨blk, off, cap, by simp, by simp; omega, hl0, ?_⟩, by simp, ?_⟩
      · intro i y hi
        obtain ⟨hi1, hi2⟩ := List.getElem?_eq_some_iff.1 hi
        simp at hi1 hi2
        subst hi2
        exact (hf i hi1).1
      · intro y hy
        obtain ⟨i, hi, rfl⟩ := List.mem_map.1 hy
        exact (hf i (by simpa using hi)).2
end Go.Proofs.Ytoikklbnbgoecaa
