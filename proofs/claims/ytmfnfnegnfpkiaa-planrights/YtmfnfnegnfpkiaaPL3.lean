
/- plan.evenly between a plan's start and its end. -/
import Derived.Test.YtmfnfnegnfpkiaaPL2
import Derived.Test.YtmfnfnegnfpkiaaZ1
import Derived.Test.YtmfnfnegnfpkiaaS
set_option linter.unusedSimpArgs false
set_option linter.unusedVariables false
set_option maxRecDepth 20000
namespace Go.Proofs.Ytmfnfnegnfpkiaa
open Go.RowKit

/-- Of each coin so much: a of b parts, rounded down. -/
def EvC (a b : Int) (x y : Cn) : Prop := y.d = x.d ∧ LimC y ∧ vl y = vl x * a / b
/-- What is left of a coin where there is none, or no such denomination. -/
def oneD (y : Cn) : List Cn := if 8 ≤ y.d then [] else oneL y
theorem md_part {a b c z e : Int} (ha : 0 ≤ a) (hb : 0 ≤ b) (hbc : b < c) (hl : a < 115792089237316195423570985008687907853269984665640564039457584007913129639936) (h : MdS a b c false z e) : z = a * b / c := by
  rcases h with ⟨h, -⟩ | ⟨hc, q, r, h1, h2, h3, h4, h5⟩
  · omega
  · have hq : a * b / c = q := by
      rw [h1, Int.add_comm, Int.add_mul_ediv_right _ _ (by omega), Int.ediv_eq_zero_of_lt h2 h3]; omega
    have hu : upI false q r = q := by simp [upI]
    rw [hu] at h5
    rcases h5 with ⟨-, -, h6⟩ | ⟨h6, -, -⟩
    · rw [hq, h6]
    · exfalso
      have h7 : q * c ≤ a * b := by omega
      have h8 : a * b ≤ a * c := Int.mul_le_mul_of_nonneg_left (by omega) ha
      have h9 : q ≤ a := Int.le_of_mul_le_mul_right (Int.le_trans h7 h8) hc
      omega
set_option maxRecDepth 20000 in
set_option maxHeartbeats 8000000 in
theorem evenly_mid {k s u t : Int} {av pv : Value} {al : List Cn} {pl : List Pd} (w : World) (h : PnAt w ⟨k, s, u, av, pv, al, pl⟩) (hw : PnWf ⟨k, s, u, av, pv, al, pl⟩) (ht1 : s < t) (ht2 : t < u) (hn : al.length ≤ 1048576) :
    Calls Try.prog 47 #[pnV ⟨k, s, u, av, pv, al, pl⟩, .int .u64 t] w fun e w' => ∃ (v : Value) (ys : List Cn), e = .returned v ∧ ys.length = al.length ∧ (∀ (i : Nat) x y, al[i]? = some x → ys[i]? = some y → EvC (t - s) (u - s) x y) ∧ w'.ownsRow w.heap.size 71 5 v (ys.flatMap oneD).length (cellsL (ys.flatMap oneD)) ∧ Below w.heap.size w w' := by
  have hpad := pads
  obtain ⟨i0, hi, hz0, hz1, hz2⟩ := info_parts coin_info
  obtain ⟨h1, h2⟩ := h
  obtain ⟨hwk, hws, hwe, hwf⟩ := hw
  simp only at h1 h2 hwk hws hwe hwf
  obtain ⟨a1, c1, rfl⟩ := h1.slice
  obtain ⟨a2, c2, rfl⟩ := h2.slice
  show Calls Try.prog 47 #[.agg #[.int .u8 k, .int .u64 s, .int .u64 u, .slice a1 al.length c1, .slice a2 pl.length c2], .int .u64 t] w _
  have hw1 : IntKind.u64.wrap (t - s) = t - s := by rw [IntKind.wrap_u64]; omega
  have hw2 : IntKind.u64.wrap (u - s) = u - s := by rw [IntKind.wrap_u64]; omega
  have hn1 : ¬ u ≤ t := by omega
  have hn2 : ¬ t ≤ s := by omega
  have hnl : (al.length : Int) ≤ 1048576 := by omega
  have hpb : Hid (∀ X, Below (w.alloc (.cells #[.int .u8 k, .int .u64 s, .int .u64 u, .slice a1 al.length c1, .slice a2 pl.length c2] 26)).heap.size (w.alloc (.cells #[.int .u8 k, .int .u64 s, .int .u64 u, .slice a1 al.length c1, .slice a2 pl.length c2] 26)) X → X.cell? ⟨w.heap.size, 1, none⟩ = some (.int .u64 s) ∧ X.cell? ⟨w.heap.size, 2, none⟩ = some (.int .u64 u)) := fun X hX => by
    have q1 := (hX.block w.heap.size (by simp)).trans (al_at rfl)
    exact ⟨(cells_of_block q1).1 1, (cells_of_block q1).1 2⟩
  have hb0 : Below w.heap.size w (w.alloc (.cells #[.int .u8 k, .int .u64 s, .int .u64 u, .slice a1 al.length c1, .slice a2 pl.length c2] 26)) := ba (Below.refl _ _) _
  have hP0 : (w.alloc (.cells #[.int .u8 k, .int .u64 s, .int .u64 u, .slice a1 al.length c1, .slice a2 pl.length c2] 26)).heap.size = w.heap.size + 1 := by simp
  go_enter Try.func47, Try.ntmps47
  go_wp2
  generalize w.alloc (.cells #[.int .u8 k, .int .u64 s, .int .u64 u, .slice a1 al.length c1, .slice a2 pl.length c2] 26) = P at *
  go_loopw [5, 24] (fun fv iv X => ∃ (i : Nat) (ys : List Cn), i ≤ al.length ∧ iv = .int .i64 (i : Int) ∧ ys.length = i ∧ Hid (∀ (j : Nat) x y, al[j]? = some x → ys[j]? = some y → EvC (t - s) (u - s) x y) ∧ (ys.flatMap oneD).length ≤ i ∧ X.ownsRow P.heap.size 71 5 fv (ys.flatMap oneD).length (cellsL (ys.flatMap oneD)) ∧ Below P.heap.size P X) (fun _ iv _ => al.length - (intOf iv).toNat)
  case atStart => exact ⟨0, [], by omega, rfl, rfl, by unfold Hid; simp, by simp, World.ownsRow_nil _ _ _ _, Below.refl _ _⟩
  case round =>
    obtain ⟨i, ys, hil, rfl, hyl, hev, hfl, hown, hX⟩ := hrel
    have hXw : Below w.heap.size w wr := hb0.trans (hX.mono (by omega))
    by_cases hlt : i < al.length
    · have hlt' : (i : Int) < (al.length : Int) := by omega
      rcases h1 with ⟨rfl, -⟩ | ⟨blk, off, cap, ev, hne, hlen, hbl, hall⟩
      · simp at hlt
      · simp at ev
        obtain ⟨rfl, rfl⟩ := ev
        have hX1 := IsCL.below (.inr ⟨blk, off, c1, rfl, hne, hlen, hbl, hall⟩) hXw
        obtain ⟨d0, d1, d2, d3, d4⟩ : CnAt wr blk (off + i * 5) al[i] := by
          rcases hX1 with ⟨rfl, -⟩ | ⟨blk', off', cap', ev', _, _, _, hall'⟩
          · simp at hlt
          · simp at ev'
            obtain ⟨⟨rfl, rfl⟩, rfl⟩ := ev'
            exact hall' i al[i] (List.getElem?_eq_getElem hlt)
        have hxw := hwf al[i] (List.getElem_mem hlt)
        have hget : Hid (al[i]? = some al[i]) := List.getElem?_eq_getElem hlt
        generalize al[i] = x at *
        obtain ⟨U, hU⟩ : ∃ U, U = wr.alloc (.cells #[.int .u8 x.d, .int .u64 x.a, .int .u64 x.b, .int .u64 x.c, .int .u64 x.e] 71) := ⟨_, rfl⟩
        have hUb : Below wr.heap.size wr U := by rw [hU]; exact ba (Below.refl _ _) _
        have hUs : U.heap.size = wr.heap.size + 1 := by rw [hU]; simp
        have hUx : U.heap[wr.heap.size]? = some (.cells #[.int .u8 x.d, .int .u64 x.a, .int .u64 x.b, .int .u64 x.c, .int .u64 x.e] 71 (0, 0)) := by rw [hU]; exact al_at rfl
        have hPU : Below P.heap.size P U := bt hX hUb
        have hkeep : Hid (∀ X, Below U.heap.size U X → X.cell? ⟨wr.heap.size, 1, none⟩ = some (.int .u64 x.a) ∧ X.cell? ⟨wr.heap.size, 2, none⟩ = some (.int .u64 x.b) ∧ X.cell? ⟨wr.heap.size, 3, none⟩ = some (.int .u64 x.c) ∧ X.cell? ⟨wr.heap.size, 4, none⟩ = some (.int .u64 x.e) ∧ X.cell? ⟨w.heap.size, 1, none⟩ = some (.int .u64 s) ∧ X.cell? ⟨w.heap.size, 2, none⟩ = some (.int .u64 u)) := fun X hX => by
          obtain ⟨q, -⟩ := cells_of_block ((hX.block wr.heap.size (by omega)).trans hUx)
          obtain ⟨q1, q2⟩ := hpb.out X (bt hPU hX)
          exact ⟨q 1, q 2, q 3, q 4, q1, q2⟩
        have hL1 : Lim (t - s) 0 0 0 := by unfold Lim; omega
        have hL2 : Lim (u - s) 0 0 0 := by unfold Lim; omega
        have hM : Hid (∀ X, Calls Try.prog 79 #[.agg #[.int .u64 x.a, .int .u64 x.b, .int .u64 x.c, .int .u64 x.e], .agg #[.int .u64 (t - s), .int .u64 0, .int .u64 0, .int .u64 0], .agg #[.int .u64 (u - s), .int .u64 0, .int .u64 0, .int .u64 0], .bool false] X fun e w' => ∃ z0 z1 z2 z3 c : Int, e = .returned (.tuple #[.agg #[.int .u64 z0, .int .u64 z1, .int .u64 z2, .int .u64 z3], .int .i64 c]) ∧ EvC (t - s) (u - s) x ⟨x.d, z0, z1, z2, z3⟩ ∧ Below X.heap.size X w') := fun X => by
          refine (muldiv_any _ _ _ _ _ _ _ _ _ _ _ _ false hxw.2 hL1 hL2 X).mono ?_
          rintro e w' ⟨z0, z1, z2, z3, c, rfl, hzl, hzm, hb⟩
          rw [val_of, val_of] at hzm
          exact ⟨z0, z1, z2, z3, c, rfl, ⟨rfl, hzl, md_part (val_lo hxw.2) (by omega) (by omega) (val_hi hxw.2) hzm⟩, hb⟩
        have hUd : Below U.heap.size U U.drew := bd (Below.refl _ _)
        have hcb : wr.heap.size < U.heap.size := by omega
        have hpbU : w.heap.size < U.heap.size := by have := hX.size; omega
        go_upto_region 9 with fail
        rw [← hU]
        have hU' : Hid _ := hU
        have hUs' : Hid _ := hUs
        have hP0' : Hid _ := hP0
        clear hU hUs hP0
        go_cut [8, 9] from 28 to 44 (fun s8 s9 wx => ∃ (z0 z1 z2 z3 c : Int) (B : Nat), s8 = .pointer (some ⟨B, 0, none⟩) ∧ s9 = .int .i64 c ∧ EvC (t - s) (u - s) x ⟨x.d, z0, z1, z2, z3⟩ ∧ U.heap.size ≤ B ∧ B < wx.heap.size ∧ Below U.heap.size U wx ∧ wx.heap[B]? = some (.cells #[.int .u64 z0, .int .u64 z1, .int .u64 z2, .int .u64 z3] 69 (0, 0)))
        case first =>
          go_region_held2 (fun X => X.cell? ⟨wr.heap.size, 1, none⟩ = some (.int .u64 x.a) ∧ X.cell? ⟨wr.heap.size, 2, none⟩ = some (.int .u64 x.b) ∧ X.cell? ⟨wr.heap.size, 3, none⟩ = some (.int .u64 x.c) ∧ X.cell? ⟨wr.heap.size, 4, none⟩ = some (.int .u64 x.e) ∧ X.cell? ⟨w.heap.size, 1, none⟩ = some (.int .u64 s) ∧ X.cell? ⟨w.heap.size, 2, none⟩ = some (.int .u64 u)) (exact hkeep.out _ (by (repeat (first | (with_reducible exact Below.refl _ _) | (with_reducible assumption) | (with_reducible apply bd) | (with_reducible apply ba) | (with_reducible refine bp ?_ (by first | omega | (simp [pad_size]; done) | (simp [pad_size]; omega)) _ _) | (with_reducible refine bs ?_ (by first | omega | (simp [pad_size]; done) | (simp [pad_size]; omega)) _) | (with_reducible refine bt ?_ (by assumption)))))) (first
            | (go_at_call 80; with_reducible refine (of_any (t - s) _).mono ?_; rintro e w1 ⟨rfl, hb⟩; obtain ⟨m1, g1, d1, hm1, rfl⟩ := pad_of hb; clear hb; simp [pad_size] at hm1; (try have st1 := sz1 (n := U.heap.size) (m := m1) (by omega)))
            | (go_at_call 80; with_reducible refine (of_any (u - s) _).mono ?_; rintro e w1 ⟨rfl, hb⟩; obtain ⟨m2, g2, d2, hm2, rfl⟩ := pad_of hb; clear hb; simp [pad_size] at hm2; (try have st2 := sz1 (n := U.heap.size) (m := m2) (by omega)); (try have st3 := sz1 (n := m1) (m := m2) (by omega)))
            | (go_at_call 79; refine (hM.out _).mono ?_; rintro e w3 ⟨z0, z1, z2, z3, c, rfl, hzo, hb⟩; obtain ⟨m3, g3, d3, hm3, rfl⟩ := pad_of hb; clear hb; simp [pad_size] at hm3; (try have st4 := sz1 (n := U.heap.size) (m := m3) (by omega)); (try have st5 := sz1 (n := m1) (m := m3) (by omega)); (try have st6 := sz1 (n := m2) (m := m3) (by omega))))
          all_goals (go_wp2_with fail; go_meet)
          all_goals exact ⟨z0, z1, z2, z3, c, _, rfl, rfl, hzo, (by first | omega | (simp [pad_size]; done) | (simp [pad_size]; omega)), (by first | omega | (simp [pad_size]; done) | (simp [pad_size]; omega)), by (repeat (first | (with_reducible exact Below.refl _ _) | (with_reducible assumption) | (with_reducible apply bd) | (with_reducible apply ba) | (with_reducible refine bp ?_ (by first | omega | (simp [pad_size]; done) | (simp [pad_size]; omega)) _ _) | (with_reducible refine bs ?_ (by first | omega | (simp [pad_size]; done) | (simp [pad_size]; omega)) _) | (with_reducible refine bt ?_ (by assumption)))), by (repeat (first | (with_reducible exact al_at (by simp [pad_size])) | (with_reducible refine Eq.trans (dr_blk _ _) ?_) | (with_reducible refine Eq.trans (al_old (by first | omega | (simp [pad_size]; done) | (simp [pad_size]; omega))) ?_) | (with_reducible refine Eq.trans (pad_block (by first | omega | (simp [pad_size]; done) | (simp [pad_size]; omega)) (by first | omega | (simp [pad_size]; done) | (simp [pad_size]; omega))) ?_) | (with_reducible assumption)))⟩
        case rest =>
          obtain ⟨z0, z1, z2, z3, c, B, rfl, rfl, hE, hB1, hB2, hBx, hBb⟩ := hcut
          obtain ⟨cB, fB⟩ := cells_of_block hBb
          have hcU : wr.heap.size < U.heap.size := hcb
          obtain ⟨cx, fx⟩ := cells_of_block ((hBx.block wr.heap.size hcU).trans hUx)
          have hx0 : wc.cell? ⟨wr.heap.size, 0, none⟩ = some (.int .u8 x.d) := cx 0
          have hownx := ownsRow_below (ownsRow_below hown hUb) hBx
          have hPc : Below P.heap.size P wc := bt hPU hBx
          have hWc : Below w.heap.size w wc := bt hXw (bt hUb hBx)
          have hzw := hWc.size
          have hzP := hPc.size
          have hev2 : Hid (∀ (j : Nat) x' y, al[j]? = some x' → (ys ++ [⟨x.d, z0, z1, z2, z3⟩])[j]? = some y → EvC (t - s) (u - s) x' y) := by
            intro j x' y hx' hy'
            rcases Nat.lt_or_ge j ys.length with hj | hj
            · rw [List.getElem?_append_left hj] at hy'
              exact hev.out j x' y hx' hy'
            · rw [List.getElem?_append_right hj] at hy'
              have hj2 : j - ys.length = 0 := by
                rcases Nat.eq_zero_or_pos (j - ys.length) with h0 | h0
                · exact h0
                · rw [List.getElem?_eq_none (by simp; omega)] at hy'; cases hy'
              rw [hj2] at hy'
              have hji : j = i := by omega
              rw [hji, hget.out] at hx'
              simp at hx' hy'
              subst hx' hy'
              exact hE
          have hfm : Hid ((ys ++ [(⟨x.d, z0, z1, z2, z3⟩ : Cn)]).flatMap oneD = ys.flatMap oneD ++ oneD ⟨x.d, z0, z1, z2, z3⟩) := by unfold Hid; simp
          have hyl2 : Hid ((ys ++ [(⟨x.d, z0, z1, z2, z3⟩ : Cn)]).length = i + 1) := by unfold Hid; simp [hyl]
          have hxd8 := hxw.1
          clear hkeep hM hev cx fx hyl hall hX1 hUx
          by_cases hno : 8 ≤ x.d ∨ eq4 z0 z1 z2 z3 0 0 0 0 = true
          · have hoD : oneD ⟨x.d, z0, z1, z2, z3⟩ = [] := by
              unfold oneD oneL
              rcases hno with h | h
              · rw [if_pos h]
              · rw [if_pos h]; split <;> rfl
            rw [hoD, List.append_nil] at hfm
            go_wp2_with (first
              | (go_at_call 81; refine (one_none _ _ _ _ _ hno _).mono ?_; rintro e w1 ⟨rfl, hb1⟩)
              | (at_builtin; refine wpList_append_own_none rfl _ _ 23 rfl P.heap.size 71 i0 5 Try.underlying23 hi _ _ _ rfl (ownsRow_below hownx hb1) rfl ?_))
            go_roundw
            case rel => exact ⟨i + 1, ys ++ [⟨x.d, z0, z1, z2, z3⟩], by omega, by go_num, hyl2.out, hev2, by rw [hfm.out]; omega, by rw [hfm.out]; exact ownsRow_below hownx hb1, bt hPc hb1⟩
            case measure => (simp [intOf]; omega)
          · have hd8 : ¬ 8 ≤ x.d := fun h => hno (.inl h)
            have hq : eq4 z0 z1 z2 z3 0 0 0 0 = false := by
              rcases Bool.eq_false_or_eq_true (eq4 z0 z1 z2 z3 0 0 0 0) with h | h
              · exact absurd (.inr h) hno
              · exact h
            have hoD : oneD ⟨x.d, z0, z1, z2, z3⟩ = [⟨x.d, z0, z1, z2, z3⟩] := by
              unfold oneD oneL; rw [if_neg hd8, if_neg (by simp [hq])]
            rw [hoD] at hfm
            clear hno hoD
            go_wp2_with (first
              | (go_at_call 81; refine (one_some _ _ _ _ _ hd8 hq _).mono ?_; rintro e w1 ⟨rfl, rfl⟩)
              | (at_builtin; refine wpList_append_own _ rfl _ _ 23 rfl P.heap.size 71 i0 _ 5 40 Try.underlying23 hi hz0 hz1 hz2 rfl (by decide) _ _ _ rfl ((hownx.alloc _).alloc _) ⟨wc.heap.size + 1, 0, none⟩ 1 1 [.int .u8 x.d, .int .u64 z0, .int .u64 z1, .int .u64 z2, .int .u64 z3] rfl rfl (new_cells wc _ #[.int .u8 x.d, .int .u64 z0, .int .u64 z1, .int .u64 z2, .int .u64 z3] 71) (by simp [Value.oneCell']) (by unfold maxLen; omega) (by omega) (by simp; omega) ?_; intro v' w' hown' hgrow _))
            go_roundw
            case rel =>
              refine ⟨i + 1, ys ++ [⟨x.d, z0, z1, z2, z3⟩], by omega, by go_num, hyl2.out, hev2, by rw [hfm.out, List.length_append]; simp only [List.length_cons, List.length_nil]; omega, ?_, ?_⟩
              · rw [hfm.out, List.length_append, cellsL_append]; exact hown'
              · exact (ba (ba hPc _) _).grown hgrow (by simp; omega) (fun k' e => (hown.lt k' e).1)
            case measure => (simp [intOf]; omega)
    · obtain rfl : i = al.length := by omega
      go_wp2
      go_ret
      exact ⟨_, ys, rfl, hyl, hev.out, row_base hown (by omega), hXw⟩
end Go.Proofs.Ytmfnfnegnfpkiaa
