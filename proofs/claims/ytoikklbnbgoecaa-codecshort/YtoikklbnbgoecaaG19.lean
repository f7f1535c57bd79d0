
/- The document's bytes of numbers and coins. -/
import Derived.Test.YtoikklbnbgoecaaG18
set_option linter.unusedSimpArgs false
set_option linter.unusedVariables false
namespace Go.Proofs.Ytoikklbnbgoecaa
open Go.RowKit

theorem made1 (W : World) (x : Int) {base : Nat} (hb : base ≤ W.heap.size) : (W.alloc (.cells #[.int .u8 x] 5)).ownsRow base 5 1 (.slice (some ⟨W.heap.size, 0, none⟩) 1 1) ([x] : List Int).length (encB [x]) :=
  ⟨rfl, .inr ⟨W.heap.size, 1, #[.int .u8 x], rfl, hb, World.alloc_heap_new W _, Nat.le_refl _, by unfold maxLen; omega, rfl, rfl⟩⟩

set_option maxHeartbeats 2000000 in
theorem numR4_any (x0 x1 x2 x3 : Int) (hx : Lim x0 x1 x2 x3) (W : World) :
    Calls Try.prog 37 #[.agg #[.int .u64 x0, .int .u64 x1, .int .u64 x2, .int .u64 x3]] W fun e w' => ∃ u, e = .returned u ∧ w'.ownsRow W.heap.size 5 1 u (layN (val x0 x1 x2 x3)).length (encB (layN (val x0 x1 x2 x3))) ∧ Below W.heap.size W w' := by
  obtain ⟨i0, hi, hz0, hz1, hz2⟩ := info_parts u8_info
  have hlen := byL_len (val x0 x1 x2 x3) 32
  have hB0 := bytesR_any x0 x1 x2 x3 hx
  unfold layN
  generalize byL (val x0 x1 x2 x3) 32 = q at *
  have hl1 : (q.length : Int) ≤ 32 := by omega
  have hw8 : IntKind.u8.wrap (q.length : Int) = (q.length : Int) := by rw [IntKind.wrap_u8]; omega
  go_enter Try.func37, Try.ntmps37
  go_wp2_with (first
    | (go_at_call 54; refine (hB0 _).mono ?_; rintro e w1 ⟨u, rfl, ho1, hb1⟩; have hz1' := hb1.size; simp at hz1'; have hB1 := bt (ba (Below.refl _ _) _) hb1; rcases src_own ho1 with ⟨rfl, hq0⟩ | ⟨ad, cap, rfl, hc⟩)
    | (at_builtin; refine wpList_append_own_none rfl _ _ 26 rfl W.heap.size 5 i0 1 Try.underlying26 hi _ _ _ rfl (made1 w1 0 (by omega)) rfl ?_)
    | (at_builtin; refine wpList_append_own _ rfl _ _ 26 rfl W.heap.size 5 i0 _ 1 1 Try.underlying26 hi hz0 hz1 hz2 rfl (by decide) _ _ _ rfl (made1 w1 (q.length : Int) (by omega)) ad q.length cap (encB q) rfl (by simp [encB]) (fun j x hj => by simp only [encB, List.getElem?_map] at hj; obtain ⟨y, hy, rfl⟩ := Option.map_eq_some_iff.1 hj; exact (World.grownBy_alloc w1 _ none).cell (hc j y hy) (by simp)) (by simp [encB, Value.oneCell']) (by unfold maxLen; simp; omega) (by simp; omega) (by simp; omega) ?_; intro v' w2 hown' hgrow _))
  · go_ret
    subst hq0
    exact ⟨_, rfl, made1 w1 0 (by omega), ba hB1 _⟩
  · go_ret
    refine ⟨_, rfl, ?_, (ba hB1 _).grown hgrow (by simp; omega) (fun k hk => ?_)⟩
    · have e : encB ((q.length : Int) :: q) = encB [(q.length : Int)] ++ encB q := by simp [encB]
      have e2 : 1 + q.length = q.length + 1 := by omega
      rw [e]
      have h := hown'
      simp only [List.length_cons, List.length_nil, Nat.zero_add] at h
      rw [e2] at h
      exact h
    · have := (made1 w1 (q.length : Int) (base := W.heap.size) (by omega)).lt k hk
      exact this.1

set_option maxHeartbeats 4000000 in
theorem longR_any (n : Int) (hn : 0 ≤ n ∧ n < 18446744073709551616) (size : Nat) (hs : size ≤ 8) (W : World) :
    Calls Try.prog 36 #[.int .u64 n, .int .i64 (size : Int)] W fun e w' => ∃ u, e = .returned u ∧ w'.ownsRow W.heap.size 5 1 u (be n size).length (encB (be n size)) ∧ Below W.heap.size W w' := by
  obtain ⟨i0, hi, hz0, hz1, hz2⟩ := info_parts u8_info
  have hs8 : (size : Int) ≤ 8 := by omega
  go_enter Try.func36, Try.ntmps36
  go_wp2
  go_loopw [5, 6] (fun pv i X => ∃ (k : Nat) (q : List Int), k ≤ size ∧ i = .int .i64 ((k : Int) - 1) ∧ q ++ be n k = be n size ∧ X.ownsRow W.heap.size 5 1 pv q.length (encB q) ∧ Below W.heap.size W X) (fun _ i _ => (intOf i + 1).toNat)
  case atStart => exact ⟨size, [], by omega, by go_num, rfl, World.ownsRow_nil _ _ _ _, Below.refl _ _⟩
  case round =>
    obtain ⟨k, q, hk, rfl, hq, hrow, hB⟩ := hrel
    obtain ⟨a0, c0, rfl⟩ := row_slice hrow
    have hql : q.length + k = size := by have := congrArg List.length hq; rw [List.length_append, be_len, be_len] at this; exact this
    cases k with
    | zero =>
      go_wp2
      go_ret
      simp [be] at hq
      subst hq
      exact ⟨_, rfl, hrow, hB⟩
    | succ k =>
      have e : (((k + 1 : Nat) : Int) - 1) = (k : Int) := by omega
      rw [e]
      obtain ⟨s, hs'⟩ : ∃ s : Nat, 8 * (k : Int) = (s : Int) := ⟨8 * k, by omega⟩
      have hsn : s = 8 * k := by omega
      have hs64 : s ≤ 56 := by omega
      have hk0 : (0 : Int) ≤ (k : Int) := by omega
      have hk8 : (k : Int) ≤ 7 := by omega
      have hpow : (2 : Int) ^ s = 256 ^ k := by rw [hsn, Int.pow_mul]; rfl
      obtain ⟨y, hy⟩ : ∃ y, n / 2 ^ s % 256 = y := ⟨_, rfl⟩
      have hq2 : Hid (q ++ [y] ++ be n k = be n size) := by
        unfold Hid; rw [← hq, ← hy, hpow, be]; simp
      have hsn' : Hid _ := hsn
      clear hpow e hq hsn
      have hsz := hB.size
      go_wp2_with (at_builtin; refine wpList_append_own _ rfl _ _ 26 rfl W.heap.size 5 i0 (.int .u8 0) 1 1 Try.underlying26 hi hz0 hz1 hz2 rfl (by decide) _ _ _ rfl (hrow.alloc _) ⟨wr.heap.size, 0, none⟩ 1 1 [.int .u8 y] rfl rfl (cell_one_new _ _ _) (by simp [Value.oneCell']) (by unfold maxLen; omega) (by omega) (by simp; omega) ?_; intro v' w1 hown' hgrow _)
      all_goals go_roundw
      case rel =>
        refine ⟨k, q ++ [y], by omega, by go_num, hq2.out, ?_, ?_⟩
        · rw [List.length_append, encB_snoc]; exact hown'
        · exact ((hB.alloc hsz _).grown hgrow (by simp; omega) (fun j hj => (hrow.lt j hj).1))
      case measure => (simp [intOf] <;> omega)

set_option maxRecDepth 10000 in
set_option maxHeartbeats 4000000 in
theorem coinsR4_any {u : Value} {L : List Cn} (hwf : ∀ x ∈ L, CnWf x) (hLn : L.length ≤ 255) (W : World) (hu : IsCoins W u L) :
    Calls Try.prog 39 #[u] W fun e w' => ∃ v, e = .returned v ∧ w'.ownsRow W.heap.size 5 1 v (((L.length : Int) :: layL L) : List Int).length (encB ((L.length : Int) :: layL L)) ∧ Below W.heap.size W w' := by
  obtain ⟨i0, hi, hz0, hz1, hz2⟩ := info_parts u8_info
  have hw8 : IntKind.u8.wrap (L.length : Int) = (L.length : Int) := by rw [IntKind.wrap_u8]; omega
  have hLn' : (L.length : Int) ≤ 255 := by omega
  obtain ⟨au, cu, rfl⟩ : ∃ a c, u = .slice a L.length c := by
    rcases hu with ⟨rfl, a, c, rfl⟩ | ⟨g, off, cap, rfl, -⟩
    · exact ⟨_, _, rfl⟩
    · exact ⟨_, _, rfl⟩
  go_enter Try.func39, Try.ntmps39
  go_wp2
  go_loopw [3, 4] (fun pv i X => ∃ (k : Nat), k ≤ L.length ∧ i = .int .i64 (k : Int) ∧ X.ownsRow W.heap.size 5 1 pv (((L.length : Int) :: layL (L.take k)) : List Int).length (encB ((L.length : Int) :: layL (L.take k))) ∧ Below W.heap.size W X) (fun _ i _ => L.length - (intOf i).toNat)
  case atStart => exact ⟨0, by omega, rfl, made1 W (L.length : Int) (Nat.le_refl _), by (repeat (first | (with_reducible exact Below.refl _ _) | (with_reducible assumption) | (with_reducible apply bd) | (with_reducible apply ba) | (with_reducible refine bp ?_ (by first | omega | (simp [pad_size]; done) | (simp [pad_size]; omega)) _ _) | (with_reducible refine bs ?_ (by first | omega | (simp [pad_size]; done) | (simp [pad_size]; omega)) _) | (with_reducible refine bt ?_ (by assumption))))⟩
  case round =>
    obtain ⟨k, hk, rfl, hrow, hB⟩ := hrel
    obtain ⟨a0, c0, rfl⟩ := row_slice hrow
    have hsz := hB.size
    by_cases hlt : k < L.length
    · rcases hu with ⟨e, -⟩ | ⟨g, off, cap, hv, -, -, hgl, hall⟩
      · subst e; simp at hlt
      · simp at hv
        obtain ⟨rfl, rfl⟩ := hv
        obtain ⟨k0, k1, k2, k3, k4⟩ := hall k L[k] (by simp [hlt])
        have hxw := hwf L[k] (List.getElem_mem hlt)
        have htk : Hid (layL (L.take (k + 1)) = layL (L.take k) ++ layC L[k]) := by unfold Hid; rw [List.take_succ_eq_append_getElem hlt, layL_snoc]
        have hln := layL_len (L.take k)
        have hlk : (L.take k).length ≤ 255 := by simp; omega
        generalize L[k] = x at *
        obtain ⟨xd, xa, xb, xc, xe⟩ := x
        have hlt' : (k : Int) < (L.length : Int) := by omega
        have hN := numR4_any xa xb xc xe hxw.2
        have hNl := layN_len (val xa xb xc xe)
        have r0 := (hB.cell (p := ⟨g, off + k * 5, none⟩) hgl).trans k0
        have hcell : Hid (∀ X, Below W.heap.size W X → X.cell? ⟨g, off + k * 5 + 1, none⟩ = some (.int .u64 xa) ∧ X.cell? ⟨g, off + k * 5 + 2, none⟩ = some (.int .u64 xb) ∧ X.cell? ⟨g, off + k * 5 + 3, none⟩ = some (.int .u64 xc) ∧ X.cell? ⟨g, off + k * 5 + 4, none⟩ = some (.int .u64 xe)) :=
          fun X hX => ⟨(hX.cell (p := ⟨g, _, none⟩) hgl).trans k1, (hX.cell (p := ⟨g, _, none⟩) hgl).trans k2, (hX.cell (p := ⟨g, _, none⟩) hgl).trans k3, (hX.cell (p := ⟨g, _, none⟩) hgl).trans k4⟩
        obtain ⟨Q, hQ⟩ : ∃ Q : List Int, (L.length : Int) :: layL (L.take k) = Q := ⟨_, rfl⟩
        have hQl : Q.length ≤ 1 + 34 * 255 := by rw [← hQ, List.length_cons]; omega
        rw [hQ] at hrow ⊢
        have hQ' : Hid _ := hQ
        clear hall hQ k0 k1 k2 k3 k4
        go_wp2_with (first
          | (at_builtin; refine wpList_append_own _ rfl _ _ 26 rfl W.heap.size 5 i0 (.int .u8 0) 1 1 Try.underlying26 hi hz0 hz1 hz2 rfl (by decide) _ _ _ rfl (hrow.alloc _) ⟨wr.heap.size, 0, none⟩ 1 1 [.int .u8 xd] rfl rfl (cell_one_new _ _ _) (by simp [Value.oneCell']) (by unfold maxLen; omega) (by omega) (by simp; omega) ?_; intro v1 w1 hown1 hgrow1 _; have hB1 : Below W.heap.size W w1 := ((hB.alloc hsz _).grown hgrow1 (by simp; omega) (fun j hj => (hrow.lt j hj).1)); obtain ⟨s1, s2, s3, s4⟩ := hcell.out w1 hB1; obtain ⟨a1, c1, rfl⟩ := row_slice hown1; clear hrow hgrow1)
          | (go_at_call 37; refine (hN _).mono ?_; rintro e w2 ⟨u2, rfl, ho2, hb2⟩; have hown2 := none_row hown1 (grown_none hb2); have hB2 : Below W.heap.size W w2 := hB1.trans (hb2.mono hB1.size); have hsrc := src_own ho2; have hsz2 := hB2.size; rcases hsrc with ⟨rfl, hq0⟩ | ⟨ad, cap2, rfl, hc2⟩; exact absurd hq0 (by simp [layN]))
          | (at_builtin; refine wpList_append_own _ rfl _ _ 26 rfl W.heap.size 5 i0 (.int .u8 0) 1 1 Try.underlying26 hi hz0 hz1 hz2 rfl (by decide) _ _ _ rfl hown2 ad _ cap2 (encB (layN (val xa xb xc xe))) rfl (by simp [encB]) (fun j x hj => by simp only [encB, List.getElem?_map] at hj; obtain ⟨y, hy, rfl⟩ := Option.map_eq_some_iff.1 hj; exact hc2 j y hy) (by simp [encB, Value.oneCell']) (by unfold maxLen; omega) (by omega) (by omega) ?_; intro v3 w3 hown3 hgrow3 _))
        all_goals go_roundw
        case rel =>
          refine ⟨k + 1, by omega, by go_num, ?_, hB2.grown hgrow3 (by omega) (fun j hj => (hown2.lt j hj).1)⟩
          rw [htk.out]
          have e : (L.length : Int) :: (layL (L.take k) ++ layC ⟨xd, xa, xb, xc, xe⟩) = Q ++ [xd] ++ layN (val xa xb xc xe) := by rw [← hQ'.out]; simp [layC, vl]
          rw [e, List.length_append, List.length_append, encB_app, encB_app]
          exact hown3
        case measure => (simp [intOf] <;> omega)
    · obtain rfl : k = L.length := by omega
      rw [List.take_length] at hrow ⊢
      go_wp2
      go_ret
      exact ⟨_, rfl, hrow, hB⟩
end Go.Proofs.Ytoikklbnbgoecaa
