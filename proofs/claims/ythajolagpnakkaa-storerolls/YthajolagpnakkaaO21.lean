
/- jointurelaw05's deeds as they come in; few. -/
import Derived.Test.YthajolagpnakkaaO20
import Derived.Test.YthajolagpnakkaaV6
set_option linter.unusedSimpArgs false
set_option linter.unusedVariables false
namespace Go.Proofs.Ythajolagpnakkaa
open Go.ChangeShapes Go.WideShapes Go.ChangeAt Go.RowKit

/-- A deed: its number, a key, a value; what they are, if they are not long. -/
structure Dd where
  d : Int
  ka : Option Addr
  kn : Nat
  kc : Nat
  va : Option Addr
  vn : Nat
  vc : Nat
  k : List Int
  v : List Int
def ddV (y : Dd) : List Value := [.int .u8 y.d, .slice y.ka y.kn y.kc, .slice y.va y.vn y.vc]
/-- Bytes that came in. -/
structure ArgB (w : World) (u : Value) (q : List Int) : Prop where
  src : Src w u q
  isb : IsBytes w u q
  byt : Byte q
  len : q.length ≤ 1048576
  own : q = [] ∨ ∀ g, u.ownBlock = some g → g < w.heap.size
theorem ArgB.below {w W : World} {u : Value} {q : List Int} (h : ArgB w u q) (hb : Below w.heap.size w W) : ArgB W u q :=
  ⟨h.src.kept (grown_none hb), h.isb.below hb, h.byt, h.len, h.own.imp id (fun f g hg => Nat.lt_of_lt_of_le (f g hg) hb.size)⟩
/-- A deed that came in. -/
def DdIn (w : World) (y : Dd) : Prop := (0 ≤ y.d ∧ y.d ≤ 255) ∧ y.kn ≤ 9223372036854775807 ∧ y.vn ≤ 9223372036854775807 ∧ (y.kn ≤ 1048576 → y.k.length = y.kn ∧ ArgB w (.slice y.ka y.kn y.kc) y.k) ∧ (y.vn ≤ 1048576 → y.v.length = y.vn ∧ ArgB w (.slice y.va y.vn y.vc) y.v)
section
variable {H : Type} {enc : TypeId × Value → H} {w : World} {base : Nat} {spare : Nat → Bool} {held : Bool} {fuel : Nat} {cs : List Value} {x : DataW H × List MemPlace}
theorem Try.cellsAct : Try.prog.cellsOf 35 = 3 := by kernel_rfl
theorem Try.cellsBs : Try.prog.cellsOf 33 = 1 := by kernel_rfl
theorem arg_of {a : Option Addr} {len cap : Nat} (h : DataW.trod enc Try.prog w base spare held fuel 33 [.slice a len cap] = some x) (hl : len ≤ 1048576) : ∃ q : List Int, q.length = len ∧ ArgB w (.slice a len cap) q := by
  obtain ⟨q, E, h1, h2, h3, h4, h5⟩ := bytes_open2 h hl
  refine ⟨q, h4, h1, h2.is, h5, by omega, ?_⟩
  obtain ⟨a', cap', e, -, -, -, h6⟩ := h2
  rcases h6 with h6 | ⟨d, off, -, rfl, hd, -⟩
  · exact .inl h6
  · simp at e
    obtain ⟨rfl, -⟩ := e
    refine .inr (fun g hg => ?_)
    simp [Value.ownBlock] at hg
    omega
theorem act_of_cells (h : DataW.trod enc Try.prog w base spare held fuel 35 cs = some x) : ∃ y : Dd, cs = ddV y ∧ (ddV y).length = 3 ∧ DdIn w y := by
  obtain ⟨xs, m, -, -, hl, hx, hi⟩ := DataW.trod_struct Try.underlying35 h
  rw [Try.cellsAct] at hl
  have f0 : DataW.trod enc Try.prog w base spare held m 5 ((cs.drop 0).take (Try.prog.cellsOf 5)) = xs[0]? := hi 0 _ rfl
  have f1 : DataW.trod enc Try.prog w base spare held m 33 ((cs.drop 1).take (Try.prog.cellsOf 33)) = xs[1]? := hi 1 _ rfl
  have f2 : DataW.trod enc Try.prog w base spare held m 33 ((cs.drop 2).take (Try.prog.cellsOf 33)) = xs[2]? := hi 2 _ rfl
  rw [Try.cellsU8'] at f0
  rw [Try.cellsBs] at f1 f2
  match cs, hl with
  | [c0, c1, c2], _ =>
    have hx2 : xs.length = 3 := hx
    obtain ⟨d, ed, -, wd⟩ := DataW.trod_int Try.underlying5 (f0.trans (List.getElem?_eq_getElem (by omega)))
    have f3 := f1.trans (List.getElem?_eq_getElem (by omega))
    have f4 := f2.trans (List.getElem?_eq_getElem (by omega))
    obtain ⟨ka, kn, kc, ek, hkn⟩ := slice_form Try.underlying33 f3
    obtain ⟨va, vn, vc, ev, hvn⟩ := slice_form Try.underlying33 f4
    simp at ed ek ev
    subst ed ek ev
    obtain ⟨k, hk⟩ : ∃ k : List Int, kn ≤ 1048576 → k.length = kn ∧ ArgB w (.slice ka kn kc) k := by
      by_cases hn : kn ≤ 1048576
      · obtain ⟨q, h1, h2⟩ := arg_of f3 hn; exact ⟨q, fun _ => ⟨h1, h2⟩⟩
      · exact ⟨[], fun h => absurd h hn⟩
    obtain ⟨v, hv⟩ : ∃ k : List Int, vn ≤ 1048576 → k.length = vn ∧ ArgB w (.slice va vn vc) k := by
      by_cases hn : vn ≤ 1048576
      · obtain ⟨q, h1, h2⟩ := arg_of f4 hn; exact ⟨q, fun _ => ⟨h1, h2⟩⟩
      · exact ⟨[], fun h => absurd h hn⟩
    exact ⟨⟨d, ka, kn, kc, va, vn, vc, k, v⟩, rfl, rfl, wf_u8 wd, hkn, hvn, hk, hv⟩
/-- A list of deeds that came in. -/
structure DdsIn (w : World) (a : Option Addr) (len : Nat) (l : List Dd) : Prop where
  num : l.length = len
  ok : ∀ y ∈ l, DdIn w y
  cell : len = 0 ∨ ∃ blk off, a = some ⟨blk, off, none⟩ ∧ blk < w.heap.size ∧ ∀ i y, l[i]? = some y → ∀ j v, (ddV y)[j]? = some v → w.cell? ⟨blk, off + i * 3 + j, none⟩ = some v
theorem acts_open {a : Option Addr} {len cap : Nat} (h : DataW.trod enc Try.prog w base spare held fuel 22 [.slice a len cap] = some x) : ∃ l, DdsIn w a len l := by
  obtain ⟨l, h1, h2, h3⟩ := @open_list H enc w base spare held fuel x Dd ⟨⟨0, none, 0, 0, none, 0, 0, [], []⟩⟩ 22 35 3 (by omega) Try.underlying22 Try.cellsAct ddV (DdIn w) (fun m cs x h => act_of_cells h) a len cap h
  exact ⟨l, h1, h2, h3⟩
end

def fewD (l : List Dd) : Bool := decide (l.length ≤ 40) && l.all (fun y => decide (y.kn ≤ 30) && decide (y.vn ≤ 60))
theorem fewD_t {l : List Dd} (h : fewD l = true) : l.length ≤ 40 ∧ ∀ y ∈ l, y.kn ≤ 30 ∧ y.vn ≤ 60 := by
  simp only [fewD, Bool.and_eq_true, decide_eq_true_eq, List.all_eq_true] at h; exact h
set_option maxHeartbeats 4000000 in
theorem few_any {w : World} {a : Option Addr} {len cap : Nat} {l : List Dd} (hm : len ≤ 9223372036854775807) (h : DdsIn w a len l) (W : World) (hB : Below w.heap.size w W) :
    Calls Try.prog 12 #[.slice a len cap] W fun e w' => e = .returned (.bool (fewD l)) ∧ Below W.heap.size W w' := by
  obtain ⟨hl, hok, hc⟩ := h
  by_cases h40 : 40 < len
  · have h' : (40 : Int) < (len : Int) := by omega
    have e : fewD l = false := by simp [fewD]; omega
    rw [e]
    go_enter Try.func12, Try.ntmps12
    go_wp2
    go_ret
    exact ⟨rfl, Below.refl _ _⟩
  · have h' : ¬ (40 : Int) < (len : Int) := by omega
    go_enter Try.func12, Try.ntmps12
    go_wp2
    go_loopw [3] (fun i X => ∃ (k : Nat), k ≤ len ∧ i = .int .i64 (k : Int) ∧ (∀ y ∈ l.take k, y.kn ≤ 30 ∧ y.vn ≤ 60) ∧ Below W.heap.size W X) (fun i _ => len - (intOf i).toNat)
    case atStart => exact ⟨0, by omega, rfl, by simp, Below.refl _ _⟩
    case round =>
      obtain ⟨k, hk, rfl, hall, hX⟩ := hrel
      by_cases hlt : k < len
      · obtain ⟨blk, off, rfl, hb, hcell⟩ := hc.resolve_left (by omega)
        have hkl : k < l.length := by omega
        have hXw : Below w.heap.size w wr := hB.trans (hX.mono hB.size)
        have c1 := (hXw.cell (p := ⟨blk, off + k * 3 + 1, none⟩) hb).trans (hcell k l[k] (List.getElem?_eq_getElem hkl) 1 _ rfl)
        have c2 := (hXw.cell (p := ⟨blk, off + k * 3 + 2, none⟩) hb).trans (hcell k l[k] (List.getElem?_eq_getElem hkl) 2 _ rfl)
        have hy1 := (hok l[k] (List.getElem_mem hkl)).2.1
        have hy2 := (hok l[k] (List.getElem_mem hkl)).2.2.1
        have htk : Hid (∀ n m, l[k].kn = n → l[k].vn = m → n ≤ 30 → m ≤ 60 → ∀ y ∈ l.take (k + 1), y.kn ≤ 30 ∧ y.vn ≤ 60) := by
          intro n m hn hm hn2 hm2 y hy
          rw [List.take_succ_eq_append_getElem hkl] at hy
          rcases List.mem_append.1 hy with hy | hy
          · exact hall y hy
          · rw [List.mem_singleton] at hy; rw [hy, hn, hm]; exact ⟨hn2, hm2⟩
        have hno : Hid (∀ n m, l[k].kn = n → l[k].vn = m → (30 < n ∨ 60 < m) → fewD l = false) := by
          intro n m hn hm hn2
          simp only [fewD, Bool.and_eq_false_iff]
          right
          rw [List.all_eq_false]
          refine ⟨l[k], List.getElem_mem hkl, ?_⟩
          simp; omega
        generalize hn : l[k].kn = n at *
        generalize hm2 : l[k].vn = m at *
        have hlt' : (k : Int) < (len : Int) := by omega
        clear hcell hall
        by_cases hn2 : 30 < n
        · have hn' : (30 : Int) < (n : Int) := by omega
          have e : Hid (fewD l = false) := hno.out n m rfl rfl (.inl hn2)
          clear hno htk
          go_wp2
          go_ret
          exact ⟨congrArg (fun b => Ending.returned (.bool b)) e.out.symm, hX⟩
        · have hn' : ¬ (30 : Int) < (n : Int) := by omega
          by_cases hm3 : 60 < m
          · have hm' : (60 : Int) < (m : Int) := by omega
            have e : Hid (fewD l = false) := hno.out n m rfl rfl (.inr hm3)
            clear hno htk
            go_wp2
            go_ret
            exact ⟨congrArg (fun b => Ending.returned (.bool b)) e.out.symm, hX⟩
          · have hm' : ¬ (60 : Int) < (m : Int) := by omega
            have htk' : Hid _ := htk.out n m rfl rfl (by omega) (by omega)
            clear htk hno
            go_wp2
            all_goals go_roundw
            case rel => exact ⟨k + 1, by omega, by go_num, htk'.out, hX⟩
            case measure => (simp [intOf]; omega)
      · obtain rfl : k = len := by omega
        rw [List.take_of_length_le (by omega)] at hall
        have e : Hid (fewD l = true) := by
          unfold Hid
          simp only [fewD, Bool.and_eq_true, decide_eq_true_eq, List.all_eq_true]
          exact ⟨by omega, hall⟩
        go_wp2
        go_ret
        exact ⟨congrArg (fun b => Ending.returned (.bool b)) e.out.symm, hX⟩
end Go.Proofs.Ythajolagpnakkaa
