
/- Arguments as they come in: coins, lists of coins. -/
import Derived.Test.YtjhjgncnadhbhaaM
import Derived.Test.YtjhjgncnadhbhaaV0
set_option linter.unusedSimpArgs false
set_option linter.unusedVariables false
set_option maxRecDepth 20000
namespace Go.Proofs.Ytjhjgncnadhbhaa
open Go.ChangeShapes Go.WideShapes Go.ChangeAt Go.RowKit
variable {H : Type} {enc : TypeId × Value → H} {w : World} {base : Nat} {spare : Nat → Bool} {held : Bool} {fuel : Nat} {cs : List Value} {x : DataW H × List MemPlace}

theorem Try.cellsU8 : Try.prog.cellsOf 5 = 1 := by kernel_rfl
theorem Try.cellsCoin : Try.prog.cellsOf 66 = 5 := by kernel_rfl

theorem coin_of_cells (h : DataW.trod enc Try.prog w base spare held fuel 66 cs = some x) : ∃ y : Cn, cs = [.int .u8 y.d, .int .u64 y.a, .int .u64 y.b, .int .u64 y.c, .int .u64 y.e] ∧ CnWf y := by
  obtain ⟨xs, m, -, -, hl, hx, hi⟩ := DataW.trod_struct Try.underlying66 h
  rw [Try.cellsCoin] at hl
  have f0 : DataW.trod enc Try.prog w base spare held m 5 ((cs.drop 0).take (Try.prog.cellsOf 5)) = xs[0]? := hi 0 _ rfl
  have f1 : DataW.trod enc Try.prog w base spare held m 64 ((cs.drop 1).take (Try.prog.cellsOf 64)) = xs[1]? := hi 1 _ rfl
  rw [Try.cellsU8] at f0
  rw [Try.cellsNum] at f1
  match cs, hl with
  | [c0, c1, c2, c3, c4], _ =>
    have hx2 : xs.length = 2 := hx
    obtain ⟨d, ed, -, wd⟩ := DataW.trod_int Try.underlying5 (f0.trans (List.getElem?_eq_getElem (by omega)))
    obtain ⟨a, b, c, e, ec, hlim⟩ := num_of_cells (f1.trans (List.getElem?_eq_getElem (by omega)))
    simp at ed ec
    obtain ⟨rfl, rfl, rfl, rfl⟩ := ec
    subst ed
    exact ⟨⟨d, a, b, c, e⟩, rfl, wf_u8 wd, hlim⟩

theorem coins_open {a : Option Addr} {len cap : Nat} (h : DataW.trod enc Try.prog w base spare held fuel 24 [.slice a len cap] = some x) (hlen : len ≤ 1048576) :
    ∃ l : List Cn, IsCoins w (.slice a len cap) l ∧ l.length = len ∧ ∀ y ∈ l, CnWf y := by
  rcases Deep.open_slice Try.underlying24 h with ⟨e, -⟩ | ⟨ad, len', cap', m, n, D, Pl, e, hb, hl, hm, hmm, -, hall⟩
  · simp at e
    obtain ⟨rfl, rfl, rfl⟩ := e
    exact ⟨[], .inl ⟨rfl, none, 0, rfl⟩, rfl, by simp⟩
  · simp at e
    obtain ⟨rfl, rfl, rfl⟩ := e
    have hlm : len ≤ m := by rw [hmm]; split <;> omega
    rw [Try.cellsCoin] at hall
    by_cases h0 : len = 0
    · subst h0; exact ⟨[], .inl ⟨rfl, some ad, cap, rfl⟩, rfl, by simp⟩
    · obtain ⟨blk, off, spot⟩ := ad
      have step : ∀ i, i < len → ∃ y : Cn, CnAt w blk (off + i * 5) y ∧ CnWf y := by
        intro i hi
        obtain ⟨cs', hc, ht⟩ := hall i (by omega)
        obtain ⟨y, rfl, hy⟩ := coin_of_cells ht
        obtain ⟨-, -, hcell⟩ := World.cells?_some hc
        have g0 := hcell 0 (by omega); have g1 := hcell 1 (by omega); have g2 := hcell 2 (by omega); have g3 := hcell 3 (by omega); have g4 := hcell 4 (by omega)
        have key : ∀ j v, w.cell? (((⟨blk, off, spot⟩ : Addr).add (i * 5)).add j) = some v → w.cell? ⟨blk, off + i * 5 + j, none⟩ = some v := by
          intro j v hv
          have hs := World.cell?_spot hv
          unfold Addr.add at hv hs
          split at hv <;> split at hv <;> simp_all
        refine ⟨y, ⟨?_, ?_, ?_, ?_, ?_⟩, hy⟩
        · simpa using (key 0 _ (by simpa using g0))
        · simpa using (key 1 _ (by simpa using g1))
        · simpa using (key 2 _ (by simpa using g2))
        · simpa using (key 3 _ (by simpa using g3))
        · simpa using (key 4 _ (by simpa using g4))
      have hspot : spot = none := by
        obtain ⟨cs', hc, ht⟩ := hall 0 (by omega)
        obtain ⟨y, rfl, hy⟩ := coin_of_cells ht
        obtain ⟨-, -, hcell⟩ := World.cells?_some hc
        have g0 := hcell 0 (by omega)
        have e1 : ((⟨blk, off, spot⟩ : Addr).add (0 * 5)).add 0 = ⟨blk, off, spot⟩ := by simp [Addr.add]
        rw [e1] at g0
        exact World.cell?_spot (a := ⟨blk, off, spot⟩) (by simpa using g0)
      subst hspot
      obtain ⟨f, hf⟩ := @Deep.choose_lt Cn ⟨⟨0, 0, 0, 0, 0⟩⟩ _ _ step
      have hl0 : blk < w.heap.size := lt_of_cell (hf 0 (by omega)).1.1
      refine ⟨(List.range len).map f, .inr ⟨blk, off, cap, by simp, ?_, by simpa using hlen, hl0, ?_⟩, by simp, ?_⟩
      · intro e; have := congrArg List.length e; simp at this; omega
      · intro i y hi
        obtain ⟨hi1, hi2⟩ := List.getElem?_eq_some_iff.1 hi
        simp at hi1 hi2
        subst hi2
        exact (hf i hi1).1
      · intro y hy
        obtain ⟨i, hi, rfl⟩ := List.mem_map.1 hy
        exact (hf i (by simpa using hi)).2
end Go.Proofs.Ytjhjgncnadhbhaa
