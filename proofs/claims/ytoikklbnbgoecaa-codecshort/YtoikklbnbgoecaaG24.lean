
/- jointurelaw04's parts as they come in; few; lay of any part. -/
import Derived.Test.YtoikklbnbgoecaaG23
import Derived.Test.YtoikklbnbgoecaaV
import Derived.Test.YtoikklbnbgoecaaV5
set_option linter.unusedSimpArgs false
set_option linter.unusedVariables false
namespace Go.Proofs.Ytoikklbnbgoecaa
open Go.ChangeShapes Go.WideShapes Go.ChangeAt Go.RowKit

section
variable {H : Type} {enc : TypeId × Value → H} {w : World} {base : Nat} {spare : Nat → Bool} {held : Bool} {fuel : Nat} {cs : List Value} {x : DataW H × List MemPlace}
theorem Try.cellsPart : Try.prog.cellsOf 36 = 6 := by kernel_rfl
theorem Try.cellsCoins : Try.prog.cellsOf 34 = 1 := by kernel_rfl
def ptV (y : Pt) : List Value := [.int .u8 y.k, .int .u64 y.x0, .int .u64 y.x1, .int .u64 y.x2, .int .u64 y.x3, .slice y.a y.n y.cap]
/-- A part that came in. -/
def PtIn (w : World) (y : Pt) : Prop := (0 ≤ y.k ∧ y.k ≤ 255) ∧ Lim y.x0 y.x1 y.x2 y.x3 ∧ y.n ≤ 9223372036854775807 ∧ (y.n ≤ 1048576 → IsCoins w (.slice y.a y.n y.cap) y.L ∧ ∀ x ∈ y.L, CnWf x)
theorem part_of_cells (h : DataW.trod enc Try.prog w base spare held fuel 36 cs = some x) : ∃ y : Pt, cs = ptV y ∧ (ptV y).length = 6 ∧ PtIn w y := by
  obtain ⟨xs, m, -, -, hl, hx, hi⟩ := DataW.trod_struct Try.underlying36 h
  rw [Try.cellsPart] at hl
  have f0 : DataW.trod enc Try.prog w base spare held m 5 ((cs.drop 0).take (Try.prog.cellsOf 5)) = xs[0]? := hi 0 _ rfl
  have f1 : DataW.trod enc Try.prog w base spare held m 33 ((cs.drop 1).take (Try.prog.cellsOf 33)) = xs[1]? := hi 1 _ rfl
  have f2 : DataW.trod enc Try.prog w base spare held m 34 ((cs.drop 5).take (Try.prog.cellsOf 34)) = xs[2]? := hi 2 _ rfl
  rw [Try.cellsU8] at f0
  rw [Try.cellsNum] at f1
  rw [Try.cellsCoins] at f2
  match cs, hl with
  | [c0, c1, c2, c3, c4, c5], _ =>
    have hx2 : xs.length = 3 := hx
    obtain ⟨d, ed, -, wd⟩ := DataW.trod_int Try.underlying5 (f0.trans (List.getElem?_eq_getElem (by omega)))
    obtain ⟨a, b, c, e, ec, hlim⟩ := num_of_cells (f1.trans (List.getElem?_eq_getElem (by omega)))
    have f3 := f2.trans (List.getElem?_eq_getElem (by omega))
    obtain ⟨sa, sl, sc, es, hsl⟩ := slice_form Try.underlying34 f3
    simp at ed ec es
    obtain ⟨rfl, rfl, rfl, rfl⟩ := ec
    subst ed es
    by_cases hn : sl ≤ 1048576
    · obtain ⟨L, h1, -, h2⟩ := coins_open f3 hn
      exact ⟨⟨d, a, b, c, e, sa, sl, sc, L⟩, rfl, rfl, wf_u8 wd, hlim, hsl, fun _ => ⟨h1, h2⟩⟩
    · exact ⟨⟨d, a, b, c, e, sa, sl, sc, []⟩, rfl, rfl, wf_u8 wd, hlim, hsl, fun h => absurd h hn⟩
/-- A list of parts that came in. -/
structure PartsIn (w : World) (a : Option Addr) (len : Nat) (l : List Pt) : Prop where
  num : l.length = len
  ok : ∀ y ∈ l, PtIn w y
  cell : len = 0 ∨ ∃ blk off, a = some ⟨blk, off, none⟩ ∧ blk < w.heap.size ∧ ∀ i y, l[i]? = some y → ∀ j v, (ptV y)[j]? = some v → w.cell? ⟨blk, off + i * 6 + j, none⟩ = some v
theorem parts_open {a : Option Addr} {len cap : Nat} (h : DataW.trod enc Try.prog w base spare held fuel 22 [.slice a len cap] = some x) : ∃ l, PartsIn w a len l := by
  obtain ⟨l, h1, h2, h3⟩ := @open_list H enc w base spare held fuel x Pt ⟨⟨0, 0, 0, 0, 0, none, 0, 0, []⟩⟩ 22 36 6 (by omega) Try.underlying22 Try.cellsPart ptV (PtIn w) (fun m cs x h => part_of_cells h) a len cap h
  exact ⟨l, h1, h2, h3⟩
end

def fewB (l : List Pt) : Bool := decide (l.length ≤ 30) && l.all (fun y => decide (y.n ≤ 20))
set_option maxHeartbeats 4000000 in
theorem few_any {w : World} {a : Option Addr} {len cap : Nat} {l : List Pt} (hm : len ≤ 9223372036854775807) (h : PartsIn w a len l) (W : World) (hB : Below w.heap.size w W) :
    Calls Try.prog 10 #[.slice a len cap] W fun e w' => e = .returned (.bool (fewB l)) ∧ Below W.heap.size W w' := by
  obtain ⟨hl, hok, hc⟩ := h
  by_cases h30 : 30 < len
  · have h' : (30 : Int) < (len : Int) := by omega
    have e : fewB l = false := by simp [fewB]; omega
    rw [e]
    go_enter Try.func10, Try.ntmps10
    go_wp2
    go_ret
    exact ⟨rfl, Below.refl _ _⟩
  · have h' : ¬ (30 : Int) < (len : Int) := by omega
    go_enter Try.func10, Try.ntmps10
    go_wp2
    go_loopw [3] (fun i X => ∃ (k : Nat), k ≤ len ∧ i = .int .i64 (k : Int) ∧ (∀ y ∈ l.take k, y.n ≤ 20) ∧ Below W.heap.size W X) (fun i _ => len - (intOf i).toNat)
    case atStart => exact ⟨0, by omega, rfl, by simp, Below.refl _ _⟩
    case round =>
      obtain ⟨k, hk, rfl, hall, hX⟩ := hrel
      by_cases hlt : k < len
      · obtain ⟨blk, off, rfl, hb, hcell⟩ := hc.resolve_left (by omega)
        have hkl : k < l.length := by omega
        have hXw : Below w.heap.size w wr := hB.trans (hX.mono hB.size)
        have c5 := (hXw.cell (p := ⟨blk, off + k * 6 + 5, none⟩) hb).trans (hcell k l[k] (List.getElem?_eq_getElem hkl) 5 _ rfl)
        have hy := (hok l[k] (List.getElem_mem hkl)).2.2.1
        have htk : ∀ n, l[k].n = n → n ≤ 20 → ∀ y ∈ l.take (k + 1), y.n ≤ 20 := by
          intro n hn hn2 y hy
          rw [List.take_succ_eq_append_getElem hkl] at hy
          rcases List.mem_append.1 hy with hy | hy
          · exact hall y hy
          · rw [List.mem_singleton] at hy; rw [hy, hn]; exact hn2
        have hno : ∀ n, l[k].n = n → 20 < n → fewB l = false := by
          intro n hn hn2
          simp only [fewB, Bool.and_eq_false_iff]
          right
          rw [List.all_eq_false]
          exact ⟨l[k], List.getElem_mem hkl, by simp; omega⟩
        generalize hn : l[k].n = n at *
        have hlt' : (k : Int) < (len : Int) := by omega
        by_cases hn2 : 20 < n
        · have hn' : (20 : Int) < (n : Int) := by omega
          have e : Hid (fewB l = false) := hno n rfl hn2
          clear hno htk
          go_wp2
          go_ret
          exact ⟨congrArg (fun b => Ending.returned (.bool b)) e.out.symm, hX⟩
        · have hn' : ¬ (20 : Int) < (n : Int) := by omega
          have htk' : Hid _ := htk n rfl (by omega)
          clear htk hno hcell
          go_wp2
          all_goals go_roundw
          case rel => exact ⟨k + 1, by omega, by go_num, htk'.out, hX⟩
          case measure => (simp [intOf]; omega)
      · obtain rfl : k = len := by omega
        rw [List.take_of_length_le (by omega)] at hall
        have e : Hid (fewB l = true) := by unfold Hid; simp only [fewB, Bool.and_eq_true, decide_eq_true_eq, List.all_eq_true]; exact ⟨by omega, hall⟩
        go_wp2
        go_ret
        exact ⟨congrArg (fun b => Ending.returned (.bool b)) e.out.symm, hX⟩

theorem layPt_any {w0 W : World} {b : Nat} {v u : Value} {p q : List Int} {y : Pt} (hy : PtIn w0 y) (hn : y.n ≤ 20) (h : LO w0 W b v u p q) (hl : p.length + 9000 ≤ 1048576) (hl2 : q.length + 9000 ≤ 1048576) :
    Calls Try.prog 12 #[.pointer (some ⟨b, 0, none⟩), u, .agg #[.int .u8 y.k, .int .u64 y.x0, .int .u64 y.x1, .int .u64 y.x2, .int .u64 y.x3, .slice y.a y.n y.cap]] W fun e w' => ∃ v' u', e = .returned (.tuple #[.pointer (some ⟨b, 0, none⟩), u']) ∧ LO w0 w' b v' u' (p ++ layP y) (q ++ layP y) := by
  obtain ⟨hk, hx, -, hc⟩ := hy
  obtain ⟨hc1, hc2⟩ := hc (by omega)
  unfold layP
  rcases (show y.k % 6 = 0 ∨ y.k % 6 = 1 ∨ y.k % 6 = 2 ∨ y.k % 6 = 3 ∨ y.k % 6 = 4 ∨ y.k % 6 = 5 by omega) with e | e | e | e | e | e
  · rw [e]; exact lay_0 y.k y.x0 y.x1 y.x2 y.x3 y.a y.n y.cap hk e hx h hl hl2
  · rw [e]; exact lay_1 y.k y.x0 y.x1 y.x2 y.x3 y.a y.n y.cap hk e hx h hl hl2
  · rw [e]; exact lay_2 y.k y.x0 y.x1 y.x2 y.x3 y.a y.n y.cap hk e hx h hl hl2
  · rw [e]; exact lay_3 y.k y.x0 y.x1 y.x2 y.x3 y.a y.n y.cap hk e hx h hl hl2
  · rw [e]; exact lay_4 y.k y.x0 y.x1 y.x2 y.x3 y.a y.n y.cap hk e hx h hl hl2
  · rw [e]; exact lay_5 y.k y.x0 y.x1 y.x2 y.x3 y.a y.n y.cap hk e hx h hl hl2 (fun X hX => hc1.below hX) hc2
theorem be_rng (n : Int) : ∀ k, ∀ x ∈ be n k, 0 ≤ x ∧ x ≤ 255
  | 0, x, h => by simp [be] at h
  | k + 1, x, h => by
    rw [be] at h
    rcases List.mem_cons.1 h with rfl | h
    · omega
    · exact be_rng n k x h
theorem layN_rng (n : Int) : ∀ x ∈ layN n, 0 ≤ x ∧ x ≤ 255 := by
  intro x h
  have hl := byL_len n 32
  unfold layN at h
  rcases List.mem_cons.1 h with rfl | h
  · omega
  · exact (byL_good n 32).1 x h
theorem layL_rng : ∀ L : List Cn, (∀ c ∈ L, CnWf c) → ∀ x ∈ layL L, 0 ≤ x ∧ x ≤ 255
  | [], _, x, h => by simp [layL] at h
  | c :: L, hw, x, h => by
    rw [layL_cons, layC] at h
    rcases List.mem_append.1 h with h | h
    · rcases List.mem_cons.1 h with rfl | h
      · exact (hw c (by simp)).1
      · exact layN_rng _ x h
    · exact layL_rng L (fun c hc => hw c (by simp [hc])) x h
theorem layP_rng {y : Pt} (h : Ok y) : ∀ x ∈ layP y, 0 ≤ x ∧ x ≤ 255 := by
  obtain ⟨hk, hx, hL⟩ := h
  have hp := purse_of y.L (fun x hx => (hL x hx).2)
  have h3 := lst_len (ofP y.L) 8
  unfold layP
  intro x h
  split at h
  · simp at h; omega
  · split at h
    · simp at h; subst h; unfold flI; split <;> omega
    · split at h
      · exact be_rng _ _ x h
      · split at h
        · exact be_rng _ _ x h
        · split at h
          · exact layN_rng _ x h
          · rcases List.mem_cons.1 h with rfl | h
            · omega
            · exact layL_rng _ (lst_wf hp) x h
theorem layA_rng {l : List Pt} (h : ∀ y ∈ l, Ok y) : ∀ x ∈ layA l, 0 ≤ x ∧ x ≤ 255 := by
  intro x hx
  obtain ⟨y, hy, hx⟩ := List.mem_flatMap.1 hx
  exact layP_rng (h y hy) x hx
theorem PtIn.ok {w : World} {y : Pt} (h : PtIn w y) (hn : y.n ≤ 20) : Ok y := ⟨h.1, h.2.1, (h.2.2.2 (by omega)).2⟩
theorem layA_snoc (l : List Pt) (y : Pt) : layA (l ++ [y]) = layA l ++ layP y := by simp [layA]
theorem fewB_t {l : List Pt} (h : fewB l = true) : l.length ≤ 30 ∧ ∀ y ∈ l, y.n ≤ 20 := by
  simp only [fewB, Bool.and_eq_true, decide_eq_true_eq, List.all_eq_true] at h; exact h
end Go.Proofs.Ytoikklbnbgoecaa
