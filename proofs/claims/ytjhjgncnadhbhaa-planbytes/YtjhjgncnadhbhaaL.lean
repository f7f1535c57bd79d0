
/- coins.ofEach's closure, whatever function it holds. -/
import Derived.Test.YtjhjgncnadhbhaaK
import Derived.Test.YtjhjgncnadhbhaaG
import Derived.Deep.RegionHeld2
import Derived.Deep.CutRange
import Derived.Laws.AppendOwnNone
import Derived.Maps.AppendAt
set_option linter.unusedSimpArgs false
set_option linter.unusedVariables false
set_option maxRecDepth 20000
namespace Go.Proofs.Ytjhjgncnadhbhaa
open Go.RowKit

def cellsL (l : List Cn) : List Value := l.flatMap fun x => [.int .u8 x.d, .int .u64 x.a, .int .u64 x.b, .int .u64 x.c, .int .u64 x.e]
def vl (x : Cn) : Int := val x.a x.b x.c x.e
def LimC (x : Cn) : Prop := Lim x.a x.b x.c x.e
/-- The coin of a denomination, if it isn't nought. -/
def oneL (x : Cn) : List Cn := if eq4 x.a x.b x.c x.e 0 0 0 0 then [] else [x]
/-- The coins of the first denominations. -/
def lst (z : Nat → Cn) : Nat → List Cn
  | 0 => []
  | k + 1 => lst z k ++ oneL (z k)

theorem cellsL_length (l : List Cn) : (cellsL l).length = l.length * 5 := by
  induction l with
  | nil => rfl
  | cons x l ih => simp [cellsL, List.flatMap_cons] at ih ⊢; omega

theorem lst_len (z : Nat → Cn) (k : Nat) : (lst z k).length ≤ k := by
  induction k with
  | zero => simp [lst]
  | succ k ih =>
    have : (oneL (z k)).length ≤ 1 := by unfold oneL; split <;> simp
    simp only [lst, List.length_append]; omega
theorem lst_congr {z y : Nat → Cn} (k : Nat) (h : ∀ d, d < k → z d = y d) : lst z k = lst y k := by
  induction k with
  | zero => rfl
  | succ k ih => simp only [lst]; rw [ih (fun d hd => h d (by omega)), h k (by omega)]
theorem lst_upd (z : Nat → Cn) (k : Nat) (x : Cn) : lst (fun d => if d = k then x else z d) (k + 1) = lst z k ++ oneL x := by
  simp only [lst, if_true]
  rw [lst_congr (y := z) k (fun d hd => by rw [if_neg (by omega)])]
theorem upd_all {la lb : List Cn} {OfS : Int → Int → Int → Int → Prop} {z : Nat → Cn} {k : Nat} {x : Cn} (hz : ∀ d, d < k → LimC (z d) ∧ (z d).d = d ∧ OfS (vl (amt la d)) (vl (amt lb d)) (vl (z d)) 0) (h1 : LimC x) (h2 : x.d = k) (h3 : OfS (vl (amt la k)) (vl (amt lb k)) (vl x) 0) :
    ∀ d, d < k + 1 → LimC (if d = k then x else z d) ∧ (if d = k then x else z d).d = d ∧ OfS (vl (amt la d)) (vl (amt lb d)) (vl (if d = k then x else z d)) 0 := by
  intro d hd
  by_cases e : d = k
  · subst e; simp only [if_true]; exact ⟨h1, h2, h3⟩
  · simp only [if_neg e]; exact hz d (by omega)
theorem cellsL_append (l m : List Cn) : cellsL (l ++ m) = cellsL l ++ cellsL m := by simp [cellsL, List.flatMap_append]
theorem new_cells (W : World) (o : Obj) (c : Array Value) (t : TypeId) : ∀ j u, c.toList[j]? = some u → ((W.alloc o).alloc (.cells c t)).cell? (Addr.add ⟨W.heap.size + 1, 0, none⟩ j) = some u := by
  intro j u h
  have e : Addr.add ⟨W.heap.size + 1, 0, none⟩ j = ⟨W.heap.size + 1, j, none⟩ := by
    unfold Addr.add; split
    · subst_vars; rfl
    · simp
  rw [e, World.cell?_alloc_at _ _ _ _ (by simp)]
  simpa using h

theorem ownsRow_below {W W' : World} {base : Nat} {e : TypeId} {size : Nat} {v : Value} {n : Nat} {xs : List Value} (h : W.ownsRow base e size v n xs) (hb : Below W.heap.size W W') : W'.ownsRow base e size v n xs := by
  obtain ⟨h1, h2⟩ := h
  refine ⟨h1, ?_⟩
  rcases h2 with h2 | ⟨g, cap, cur, hv, hg, hh, r⟩
  · exact .inl h2
  · exact .inr ⟨g, cap, cur, hv, hg, (hb.block g (Array.getElem?_eq_some_iff.1 hh).1).trans hh, r⟩

theorem coin_info : (Try.prog.info? 66).map (fun i => (i.zero, i.size, i.bytes)) = some (some (.agg #[.int .u8 0, .int .u64 0, .int .u64 0, .int .u64 0, .int .u64 0]), 5, 40) := by kernel_rfl

set_option maxRecDepth 20000 in
set_option maxHeartbeats 2000000 in
theorem ofEach_any (k : Nat) (cap : Array Value) (OfS : Int → Int → Int → Int → Prop) (pc : Nat) {va vb : Value} {la lb : List Cn} (w : World)
    (hA : IsCoins w va la) (hB : IsCoins w vb lb) (hlA : ∀ d, LimC (amt la d)) (hlB : ∀ d, LimC (amt lb d))
    (hpc : w.heap[pc]? = some (.cells #[.func (.func k) #[] cap] 108 (0, 0)))
    (henter : ∀ args w, (callFunc k args).run Try.prog w = .ok (.enter k args) w)
    (hof : ∀ (x0 x1 x2 x3 y0 y1 y2 y3 : Int) (W : World), Lim x0 x1 x2 x3 → Lim y0 y1 y2 y3 → Below w.heap.size w W → Calls Try.prog k (#[.agg #[.int .u64 x0, .int .u64 x1, .int .u64 x2, .int .u64 x3], .agg #[.int .u64 y0, .int .u64 y1, .int .u64 y2, .int .u64 y3]] ++ cap) W fun e w' =>
      ∃ z0 z1 z2 z3 c : Int, e = .returned (.tuple #[.agg #[.int .u64 z0, .int .u64 z1, .int .u64 z2, .int .u64 z3], .int .i64 c]) ∧ Lim z0 z1 z2 z3 ∧ OfS (val x0 x1 x2 x3) (val y0 y1 y2 y3) (val z0 z1 z2 z3) c ∧ Below W.heap.size W w') :
    Calls Try.prog 89 #[va, vb, .pointer (some ⟨pc, 0, none⟩)] w fun e w' =>
      (∃ (z : Nat → Cn) (v : Value), e = .returned (.tuple #[v, .int .i64 0]) ∧ (∀ d, d < 8 → LimC (z d) ∧ (z d).d = d ∧ OfS (vl (amt la d)) (vl (amt lb d)) (vl (z d)) 0) ∧ w'.ownsRow w.heap.size 66 5 v (lst z 8).length (cellsL (lst z 8)) ∧ Below w.heap.size w w') ∨
      (∃ (kk : Nat) (c z0 : Int), kk < 8 ∧ c ≠ 0 ∧ OfS (vl (amt la kk)) (vl (amt lb kk)) z0 c ∧ e = .returned (.tuple #[.slice none 0 0, .int .i64 c]) ∧ Below w.heap.size w w') := by
  have hpad := pads
  obtain ⟨i0, hi, hz0, hz1, hz2⟩ := info_parts coin_info
  have hpl : pc < w.heap.size := (Array.getElem?_eq_some_iff.1 hpc).1
  go_enter Try.func89, Try.ntmps89
  go_wp2
  go_loopw [7, 11] (fun v i wr => ∃ (kk : Nat) (z : Nat → Cn), kk ≤ 8 ∧ i = .int .u8 kk ∧ (∀ d, d < kk → LimC (z d) ∧ (z d).d = d ∧ OfS (vl (amt la d)) (vl (amt lb d)) (vl (z d)) 0) ∧ wr.ownsRow w.heap.size 66 5 v (lst z kk).length (cellsL (lst z kk)) ∧ Below w.heap.size w wr) (fun _ i _ => 8 - (intOf i).toNat)
  case atStart => exact ⟨0, fun _ => ⟨0, 0, 0, 0, 0⟩, by omega, rfl, fun d h => by omega, ⟨rfl, .inl ⟨rfl, rfl⟩⟩, Below.refl _ _⟩
  case round =>
    obtain ⟨kk, z, hk8, rfl, hz, hown, hBw⟩ := hrel
    by_cases hlt : kk < 8
    · have hpr : wr.heap[pc]? = some (.cells #[.func (.func k) #[] cap] 108 (0, 0)) := (hBw.block pc hpl).trans hpc
      have hpl' : pc < wr.heap.size := Nat.lt_of_lt_of_le hpl hBw.size
      obtain ⟨cp, fp⟩ := cells_of_block hpr
      have hAr : IsCoins wr va la := hA.below hBw
      have hBr : IsCoins wr vb lb := hB.below hBw
      go_upto_region 5 with fail
      go_cut [9, 10] from 12 to 33 (fun s9 s10 wx => ∃ (x : Cn) (c : Int) (B : Nat), s9 = .pointer (some ⟨B, 0, none⟩) ∧ s10 = .int .i64 c ∧ LimC x ∧ x.d = kk ∧ OfS (vl (amt la kk)) (vl (amt lb kk)) (vl x) c ∧ wr.heap.size ≤ B ∧ B < wx.heap.size ∧ Below wr.heap.size wr wx ∧ wx.heap[B]? = some (.cells #[.int .u64 x.a, .int .u64 x.b, .int .u64 x.c, .int .u64 x.e] 64 (0, 0)))
      case first =>
        go_region_held2 (fun W => W.cell? ⟨pc, 0, none⟩ = some (.func (.func k) #[] cap)) (go_simp) (first
          | (go_at_call_of 90 va; refine (amount_any _ _ (hAr.below (by (repeat (first | (with_reducible exact Below.refl _ _) | (with_reducible assumption) | (with_reducible apply bd) | (with_reducible apply ba) | (with_reducible refine bp ?_ (by first | omega | (simp [pad_size]; done) | (simp [pad_size]; omega)) _ _) | (with_reducible refine bs ?_ (by first | omega | (simp [pad_size]; done) | (simp [pad_size]; omega)) _) | (with_reducible refine bt ?_ (by assumption))))))).mono ?_; rintro e w1 ⟨rfl, hb⟩; obtain ⟨m1, g1, d1, hm1, rfl⟩ := pad_of hb; clear hb; simp [pad_size] at hm1; (have sp1 : pc < m1 := by omega); (try have st1 := sz1 (n := wr.heap.size) (m := m1) (by omega)))
          | (go_at_call_of 90 vb; refine (amount_any _ _ (hBr.below (by (repeat (first | (with_reducible exact Below.refl _ _) | (with_reducible assumption) | (with_reducible apply bd) | (with_reducible apply ba) | (with_reducible refine bp ?_ (by first | omega | (simp [pad_size]; done) | (simp [pad_size]; omega)) _ _) | (with_reducible refine bs ?_ (by first | omega | (simp [pad_size]; done) | (simp [pad_size]; omega)) _) | (with_reducible refine bt ?_ (by assumption))))))).mono ?_; rintro e w1 ⟨rfl, hb⟩; obtain ⟨m2, g2, d2, hm2, rfl⟩ := pad_of hb; clear hb; simp [pad_size] at hm2; (have sp2 : pc < m2 := by omega); (try have st2 := sz1 (n := wr.heap.size) (m := m2) (by omega)); (try have st3 := sz1 (n := m1) (m := m2) (by omega)))
          | (go_at_fn k; refine (hof _ _ _ _ _ _ _ _ _ (hlA kk) (hlB kk) (by (repeat (first | (with_reducible exact Below.refl _ _) | (with_reducible assumption) | (with_reducible apply bd) | (with_reducible apply ba) | (with_reducible refine bp ?_ (by first | omega | (simp [pad_size]; done) | (simp [pad_size]; omega)) _ _) | (with_reducible refine bs ?_ (by first | omega | (simp [pad_size]; done) | (simp [pad_size]; omega)) _) | (with_reducible refine bt ?_ (by assumption)))))).mono ?_; rintro e w1 ⟨z0, z1, z2, z3, c, rfl, hzl, hzo, hb⟩; obtain ⟨m3, g3, d3, hm3, rfl⟩ := pad_of hb; clear hb; simp [pad_size] at hm3; (have sp3 : pc < m3 := by omega); (try have st4 := sz1 (n := wr.heap.size) (m := m3) (by omega)); (try have st5 := sz1 (n := m1) (m := m3) (by omega)); (try have st6 := sz1 (n := m2) (m := m3) (by omega))))
        all_goals (go_wp2_with fail; go_meet)
        all_goals exact ⟨⟨kk, z0, z1, z2, z3⟩, c, _, rfl, rfl, hzl, rfl, hzo, (by first | omega | (simp [pad_size]; done) | (simp [pad_size]; omega)), (by first | omega | (simp [pad_size]; done) | (simp [pad_size]; omega)), by (repeat (first | (with_reducible exact Below.refl _ _) | (with_reducible assumption) | (with_reducible apply bd) | (with_reducible apply ba) | (with_reducible refine bp ?_ (by first | omega | (simp [pad_size]; done) | (simp [pad_size]; omega)) _ _) | (with_reducible refine bs ?_ (by first | omega | (simp [pad_size]; done) | (simp [pad_size]; omega)) _) | (with_reducible refine bt ?_ (by assumption)))), by (repeat (first | (with_reducible exact al_at (by simp [pad_size])) | (with_reducible refine Eq.trans (dr_blk _ _) ?_) | (with_reducible refine Eq.trans (al_old (by first | omega | (simp [pad_size]; done) | (simp [pad_size]; omega))) ?_) | (with_reducible refine Eq.trans (pad_block (by first | omega | (simp [pad_size]; done) | (simp [pad_size]; omega)) (by first | omega | (simp [pad_size]; done) | (simp [pad_size]; omega))) ?_) | (with_reducible assumption)))⟩
      case rest =>
        obtain ⟨x, c, B, rfl, rfl, hxl, hxd, hxo, hB1, hB2, hBx, hBb⟩ := hcut
        clear hof hAr hBr
        by_cases hc0 : c = 0
        · subst hc0
          obtain ⟨cB, fB⟩ := cells_of_block hBb
          have hownx := ownsRow_below hown hBx
          have hBwx : Below w.heap.size w wc := bt hBw hBx
          rcases Bool.eq_false_or_eq_true (eq4 x.a x.b x.c x.e 0 0 0 0) with hq | hq
          · go_wp2_with (first
              | (go_at_call 66; refine (one_none _ _ _ _ _ (.inr hq) _).mono ?_; rintro e w1 ⟨rfl, hb1⟩)
              | (at_builtin; refine wpList_append_own_none rfl _ _ 24 rfl w.heap.size 66 i0 5 Try.underlying24 hi _ _ _ rfl (ownsRow_below hownx hb1) rfl ?_))
            go_roundw
            case rel =>
              refine ⟨kk + 1, fun d => if d = kk then x else z d, by omega, by go_num, upd_all hz hxl hxd hxo, ?_, bt hBwx hb1⟩
              rw [lst_upd, oneL, if_pos hq, List.append_nil]
              exact ownsRow_below hownx hb1
            case measure => simp [intOf]; omega
          · go_wp2_with (first
              | (go_at_call 66; refine (one_some _ _ _ _ _ (by omega) hq _).mono ?_; rintro e w1 ⟨rfl, rfl⟩)
              | (at_builtin; refine wpList_append_own _ rfl _ _ 24 rfl w.heap.size 66 i0 _ 5 40 Try.underlying24 hi hz0 hz1 hz2 rfl (by decide) _ _ _ rfl ((hownx.alloc _).alloc _) ⟨wc.heap.size + 1, 0, none⟩ 1 1 [.int .u8 kk, .int .u64 x.a, .int .u64 x.b, .int .u64 x.c, .int .u64 x.e] rfl rfl (new_cells wc _ #[.int .u8 kk, .int .u64 x.a, .int .u64 x.b, .int .u64 x.c, .int .u64 x.e] 66) (by simp [Value.oneCell']) (by have := lst_len z kk; unfold maxLen; omega) (by have := lst_len z kk; omega) (by have := hBwx.size; simp; omega) ?_; intro v' w' hown' hgrow _))
            go_roundw
            case rel =>
              refine ⟨kk + 1, fun d => if d = kk then x else z d, by omega, by go_num, upd_all hz hxl hxd hxo, ?_, ?_⟩
              · rw [lst_upd, oneL, if_neg (by simp [hq]), List.length_append, cellsL_append]
                have e : cellsL [x] = [.int .u8 kk, .int .u64 x.a, .int .u64 x.b, .int .u64 x.c, .int .u64 x.e] := by rw [← hxd]; rfl
                rw [e]; exact hown'
              · refine (ba (ba hBwx _) _).grown hgrow (by have := hBwx.size; simp; omega) (fun k' e => ?_)
                obtain ⟨_, h2⟩ := hown
                rcases h2 with ⟨rfl, _⟩ | ⟨g', cap', cur, rfl, hg', _⟩
                · cases e
                · cases e; exact hg'
            case measure => simp [intOf]; omega
        · go_wp2
          go_ret2
          exact .inr ⟨kk, c, _, hlt, hc0, hxo, rfl, bt hBw hBx⟩
    · have hk : kk = 8 := by omega
      subst hk
      go_wp2
      go_ret2
      exact .inl ⟨z, _, rfl, hz, hown, hBw⟩
end Go.Proofs.Ytjhjgncnadhbhaa
