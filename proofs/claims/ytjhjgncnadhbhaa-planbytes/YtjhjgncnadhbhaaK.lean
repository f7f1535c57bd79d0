
/- Lists of coins in memory; coins.Amount. -/
import Derived.Test.YtjhjgncnadhbhaaB
set_option linter.unusedSimpArgs false
set_option linter.unusedVariables false
set_option maxRecDepth 20000
namespace Go.Proofs.Ytjhjgncnadhbhaa
open Go.RowKit

structure Cn where
  d : Int
  a : Int
  b : Int
  c : Int
  e : Int

/-- The cells of a coin stand from an offset on. -/
def CnAt (W : World) (blk o : Nat) (x : Cn) : Prop :=
  W.cell? ⟨blk, o, none⟩ = some (.int .u8 x.d) ∧ W.cell? ⟨blk, o + 1, none⟩ = some (.int .u64 x.a) ∧ W.cell? ⟨blk, o + 2, none⟩ = some (.int .u64 x.b) ∧ W.cell? ⟨blk, o + 3, none⟩ = some (.int .u64 x.c) ∧ W.cell? ⟨blk, o + 4, none⟩ = some (.int .u64 x.e)

/-- A slice's value that is a list of coins in a world. -/
def IsCoins (W : World) (v : Value) (l : List Cn) : Prop :=
  (l = [] ∧ ∃ a cap, v = .slice a 0 cap) ∨ ∃ blk off cap, v = .slice (some ⟨blk, off, none⟩) l.length cap ∧ l ≠ [] ∧ l.length ≤ 1048576 ∧ blk < W.heap.size ∧ ∀ i x, l[i]? = some x → CnAt W blk (off + i * 5) x

theorem IsCoins.below {W W' : World} {v : Value} {l : List Cn} (h : IsCoins W v l) (hb : Below W.heap.size W W') : IsCoins W' v l := by
  rcases h with h | ⟨blk, off, cap, hv, hne, hlen, hlt, hall⟩
  · exact .inl h
  · refine .inr ⟨blk, off, cap, hv, hne, hlen, Nat.lt_of_lt_of_le hlt hb.size, fun i x hi => ?_⟩
    obtain ⟨h0, h1, h2, h3, h4⟩ := hall i x hi
    exact ⟨(hb.cell (p := ⟨blk, _, none⟩) hlt).trans h0, (hb.cell (p := ⟨blk, _, none⟩) hlt).trans h1, (hb.cell (p := ⟨blk, _, none⟩) hlt).trans h2, (hb.cell (p := ⟨blk, _, none⟩) hlt).trans h3, (hb.cell (p := ⟨blk, _, none⟩) hlt).trans h4⟩

/-- The first coin of a denomination, or noughts. -/
def amt (l : List Cn) (d : Int) : Cn := (l.find? fun x => x.d == d).getD ⟨d, 0, 0, 0, 0⟩

theorem amt_none {l : List Cn} {d : Int} (h : ∀ j x, j < l.length → l[j]? = some x → x.d ≠ d) : amt l d = ⟨d, 0, 0, 0, 0⟩ := by
  have : l.find? (fun x => x.d == d) = none := by
    rw [List.find?_eq_none]
    intro x hx
    obtain ⟨j, hj, rfl⟩ := List.mem_iff_getElem.1 hx
    simpa using h j _ hj (by simp)
  simp [amt, this]

theorem amt_at {l : List Cn} {d : Int} {k : Nat} (hk : k < l.length) (hd : l[k].d = d) (h : ∀ j x, j < k → l[j]? = some x → x.d ≠ d) : amt l d = l[k] := by
  have : l.find? (fun x => x.d == d) = some l[k] := by
    rw [List.find?_eq_some_iff_getElem]
    refine ⟨by simpa using hd, k, hk, rfl, fun j hj => ?_⟩
    simpa using h j _ hj (by simp [Nat.lt_trans hj hk])
  simp [amt, this]

set_option maxHeartbeats 1000000 in
theorem amount_some (blk off cap : Nat) (l : List Cn) (d : Int) (w : World) (hlen : l.length ≤ 1048576) (hlt : blk < w.heap.size) (hall : ∀ i x, l[i]? = some x → CnAt w blk (off + i * 5) x) :
    Calls Try.prog 90 #[.slice (some ⟨blk, off, none⟩) l.length cap, .int .u8 d] w fun e w' =>
      e = .returned (.agg #[.int .u64 (amt l d).a, .int .u64 (amt l d).b, .int .u64 (amt l d).c, .int .u64 (amt l d).e]) ∧ Below w.heap.size w w' := by
  have hpad := pads
  go_enter Try.func90, Try.ntmps90
  go_wp2
  go_loopw [9] (fun i wr => ∃ (k m : Nat) (g : Nat → Obj) (dr : Nat), k ≤ l.length ∧ i = .int .i64 k ∧ w.heap.size + 1 ≤ m ∧ wr = pad (w.alloc (.cells #[.int .u64 0, .int .u64 0, .int .u64 0, .int .u64 0] 64)) m g dr ∧ ∀ j x, j < k → l[j]? = some x → x.d ≠ d) (fun i _ => l.length - (intOf i).toNat)
  case atStart =>
    obtain ⟨m, g, dr, hm, e⟩ := pad_of (Below.refl _ (w.alloc (.cells #[.int .u64 0, .int .u64 0, .int .u64 0, .int .u64 0] 64)))
    exact ⟨0, m, g, dr, Nat.zero_le _, rfl, by simpa using hm, e, fun j x h => by omega⟩
  case round =>
    obtain ⟨k, m, g, dr, hk, rfl, hm, rfl, hno⟩ := hrel
    by_cases hkl : k < l.length
    · obtain ⟨h0, h1, h2, h3, h4⟩ := hall k l[k] (by simp [hkl])
      have st := sz1 (n := w.heap.size) (m := m) hm
      have hlm : blk < m := by omega
      by_cases hd : l[k].d = d
      · go_wp2
        refine bodyPost_ret (v := .agg #[.int .u64 l[k].a, .int .u64 l[k].b, .int .u64 l[k].c, .int .u64 l[k].e]) (by simp only [results, Try.results90]; go_simp) rfl ⟨?_, ?_⟩
        · rw [amt_at hkl hd hno]
        · (repeat (first | (with_reducible exact Below.refl _ _) | (with_reducible assumption) | (with_reducible apply bd) | (with_reducible apply ba) | (with_reducible refine bp ?_ (by first | omega | (simp [pad_size]; done) | (simp [pad_size]; omega)) _ _) | (with_reducible refine bs ?_ (by first | omega | (simp [pad_size]; done) | (simp [pad_size]; omega)) _) | (with_reducible refine bt ?_ (by assumption))))
      · go_wp2
        go_roundw
        case rel =>
          obtain ⟨m', g', dr', hm', e'⟩ := pad_of (ba (bp (Below.refl _ (w.alloc (.cells #[.int .u64 0, .int .u64 0, .int .u64 0, .int .u64 0] 64))) (m := m) (by simpa using hm) g dr) (.cells #[.int .u8 l[k].d, .int .u64 l[k].a, .int .u64 l[k].b, .int .u64 l[k].c, .int .u64 l[k].e] 66))
          refine ⟨k + 1, m', g', dr', by omega, by go_num, by simpa using hm', e', fun j x hj hx => ?_⟩
          by_cases e : j = k
          · subst e; rw [List.getElem?_eq_getElem hkl] at hx; cases hx; exact hd
          · exact hno j x (by omega) hx
        case measure => simp [intOf]; omega
    · have hk' : k = l.length := by omega
      subst hk'
      have st := sz1 (n := w.heap.size) (m := m) hm
      go_wp2
      refine bodyPost_ret (v := .agg #[.int .u64 0, .int .u64 0, .int .u64 0, .int .u64 0]) (by simp only [results, Try.results90]; go_simp) rfl ⟨?_, ?_⟩
      · rw [amt_none hno]
      · (repeat (first | (with_reducible exact Below.refl _ _) | (with_reducible assumption) | (with_reducible apply bd) | (with_reducible apply ba) | (with_reducible refine bp ?_ (by first | omega | (simp [pad_size]; done) | (simp [pad_size]; omega)) _ _) | (with_reducible refine bs ?_ (by first | omega | (simp [pad_size]; done) | (simp [pad_size]; omega)) _) | (with_reducible refine bt ?_ (by assumption))))

set_option maxHeartbeats 1000000 in
theorem amount_none (a : Option Addr) (cap : Nat) (d : Int) (w : World) :
    Calls Try.prog 90 #[.slice a 0 cap, .int .u8 d] w fun e w' =>
      e = .returned (.agg #[.int .u64 0, .int .u64 0, .int .u64 0, .int .u64 0]) ∧ Below w.heap.size w w' := by
  go_enter Try.func90, Try.ntmps90
  go_wp2
  apply wp_loop_rounds 1
  simp only [Code.rounds]
  go_wp2
  refine bodyPost_ret (v := .agg #[.int .u64 0, .int .u64 0, .int .u64 0, .int .u64 0]) (by simp only [results, Try.results90]; go_simp) rfl ⟨rfl, ?_⟩
  (repeat (first | (with_reducible exact Below.refl _ _) | (with_reducible assumption) | (with_reducible apply bd) | (with_reducible apply ba) | (with_reducible refine bp ?_ (by first | omega | (simp [pad_size]; done) | (simp [pad_size]; omega)) _ _) | (with_reducible refine bs ?_ (by first | omega | (simp [pad_size]; done) | (simp [pad_size]; omega)) _) | (with_reducible refine bt ?_ (by assumption))))

theorem amount_any {v : Value} {l : List Cn} (d : Int) (w : World) (h : IsCoins w v l) :
    Calls Try.prog 90 #[v, .int .u8 d] w fun e w' =>
      e = .returned (.agg #[.int .u64 (amt l d).a, .int .u64 (amt l d).b, .int .u64 (amt l d).c, .int .u64 (amt l d).e]) ∧ Below w.heap.size w w' := by
  rcases h with ⟨rfl, a, cap, rfl⟩ | ⟨blk, off, cap, rfl, _, hlen, hlt, hall⟩
  · exact amount_none a cap d w
  · exact amount_some blk off cap l d w hlen hlt hall

set_option maxHeartbeats 1000000 in
theorem one_none (d x0 x1 x2 x3 : Int) (h : 8 ≤ d ∨ eq4 x0 x1 x2 x3 0 0 0 0 = true) (w : World) :
    Calls Try.prog 66 #[.int .u8 d, .agg #[.int .u64 x0, .int .u64 x1, .int .u64 x2, .int .u64 x3]] w fun e w' => e = .returned (.slice none 0 0) ∧ Below w.heap.size w w' := by
  have heq := eq_num
  by_cases hd : 8 ≤ d
  · go_enter Try.func66, Try.ntmps66
    go_wp2
    go_ret
    exact ⟨rfl, by (repeat (first | (with_reducible exact Below.refl _ _) | (with_reducible assumption) | (with_reducible apply bd) | (with_reducible apply ba) | (with_reducible refine bp ?_ (by first | omega | (simp [pad_size]; done) | (simp [pad_size]; omega)) _ _) | (with_reducible refine bs ?_ (by first | omega | (simp [pad_size]; done) | (simp [pad_size]; omega)) _) | (with_reducible refine bt ?_ (by assumption))))⟩
  · have hq : eq4 x0 x1 x2 x3 0 0 0 0 = true := by rcases h with h | h; exact absurd h hd; exact h
    have hd' : decide (8 ≤ d) = false := by simpa using hd
    go_enter Try.func66, Try.ntmps66
    go_wp2
    go_ret
    exact ⟨rfl, by (repeat (first | (with_reducible exact Below.refl _ _) | (with_reducible assumption) | (with_reducible apply bd) | (with_reducible apply ba) | (with_reducible refine bp ?_ (by first | omega | (simp [pad_size]; done) | (simp [pad_size]; omega)) _ _) | (with_reducible refine bs ?_ (by first | omega | (simp [pad_size]; done) | (simp [pad_size]; omega)) _) | (with_reducible refine bt ?_ (by assumption))))⟩

set_option maxHeartbeats 1000000 in
theorem one_some (d x0 x1 x2 x3 : Int) (hd : ¬ 8 ≤ d) (hq : eq4 x0 x1 x2 x3 0 0 0 0 = false) (w : World) :
    Calls Try.prog 66 #[.int .u8 d, .agg #[.int .u64 x0, .int .u64 x1, .int .u64 x2, .int .u64 x3]] w fun e w' => e = .returned (.slice (some ⟨w.heap.size + 1, 0, none⟩) 1 1) ∧
      w' = (w.alloc (.cells #[.int .u64 x0, .int .u64 x1, .int .u64 x2, .int .u64 x3] 64)).alloc (.cells #[.int .u8 d, .int .u64 x0, .int .u64 x1, .int .u64 x2, .int .u64 x3] 66) := by
  have heq := eq_num
  have hd' : decide (8 ≤ d) = false := by simpa using hd
  go_enter Try.func66, Try.ntmps66
  go_wp2
  go_ret
  exact ⟨rfl, rfl⟩
end Go.Proofs.Ytjhjgncnadhbhaa
