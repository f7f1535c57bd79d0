
/- Purses: the reference's List. -/
import Derived.Test.YtjhjgncnadhbhaaU
import Derived.Test.YtjhjgncnadhbhaaD1
set_option linter.unusedSimpArgs false
set_option linter.unusedVariables false
set_option maxRecDepth 20000
namespace Go.Proofs.Ytjhjgncnadhbhaa
open Go.RowKit

theorem btc {n : Nat} {A B C : World} (h : Below n A B) (k : Below B.heap.size B C) (hn : n ≤ B.heap.size) : Below n A C := h.trans (k.mono hn)
/-- A purse: of each denomination a number. -/
def Purse (z : Nat → Cn) : Prop := ∀ d : Nat, d < 8 → LimC (z d) ∧ (z d).d = d
theorem new_cells0 (W : World) (c : Array Value) (t : TypeId) : ∀ j u, c.toList[j]? = some u → (W.alloc (.cells c t)).cell? (Addr.add ⟨W.heap.size, 0, none⟩ j) = some u := by
  intro j u h
  have e : Addr.add ⟨W.heap.size, 0, none⟩ j = ⟨W.heap.size, j, none⟩ := by
    unfold Addr.add; split
    · subst_vars; rfl
    · simp
  rw [e, World.cell?_alloc_at _ _ _ _ (by simp)]
  simpa using h

set_option maxRecDepth 100000 in
set_option maxHeartbeats 8000000 in
theorem listR_any (z : Nat → Cn) (hz : Purse z) (w : World) :
    Calls Try.prog 59 #[.agg #[.int .u64 (z 0).a, .int .u64 (z 0).b, .int .u64 (z 0).c, .int .u64 (z 0).e, .int .u64 (z 1).a, .int .u64 (z 1).b, .int .u64 (z 1).c, .int .u64 (z 1).e, .int .u64 (z 2).a, .int .u64 (z 2).b, .int .u64 (z 2).c, .int .u64 (z 2).e, .int .u64 (z 3).a, .int .u64 (z 3).b, .int .u64 (z 3).c, .int .u64 (z 3).e, .int .u64 (z 4).a, .int .u64 (z 4).b, .int .u64 (z 4).c, .int .u64 (z 4).e, .int .u64 (z 5).a, .int .u64 (z 5).b, .int .u64 (z 5).c, .int .u64 (z 5).e, .int .u64 (z 6).a, .int .u64 (z 6).b, .int .u64 (z 6).c, .int .u64 (z 6).e, .int .u64 (z 7).a, .int .u64 (z 7).b, .int .u64 (z 7).c, .int .u64 (z 7).e]] w fun e w' => ∃ v, e = .returned v ∧ w'.ownsRow w.heap.size 66 5 v (lst z 8).length (cellsL (lst z 8)) ∧ Below w.heap.size w w' := by
  have hpad := pads
  obtain ⟨i0, hi, hz0, hz1, hz2⟩ := info_parts coin_info
  go_enter Try.func59, Try.ntmps59
  go_wp2
  go_loopw [3, 4] (fun v i wr => ∃ k : Nat, k ≤ 8 ∧ i = .int .i64 k ∧ wr.ownsRow (w.heap.size + 1) 66 5 v (lst z k).length (cellsL (lst z k)) ∧ Below (w.heap.size + 1) (w.alloc (.cells #[.int .u64 (z 0).a, .int .u64 (z 0).b, .int .u64 (z 0).c, .int .u64 (z 0).e, .int .u64 (z 1).a, .int .u64 (z 1).b, .int .u64 (z 1).c, .int .u64 (z 1).e, .int .u64 (z 2).a, .int .u64 (z 2).b, .int .u64 (z 2).c, .int .u64 (z 2).e, .int .u64 (z 3).a, .int .u64 (z 3).b, .int .u64 (z 3).c, .int .u64 (z 3).e, .int .u64 (z 4).a, .int .u64 (z 4).b, .int .u64 (z 4).c, .int .u64 (z 4).e, .int .u64 (z 5).a, .int .u64 (z 5).b, .int .u64 (z 5).c, .int .u64 (z 5).e, .int .u64 (z 6).a, .int .u64 (z 6).b, .int .u64 (z 6).c, .int .u64 (z 6).e, .int .u64 (z 7).a, .int .u64 (z 7).b, .int .u64 (z 7).c, .int .u64 (z 7).e] 96)) wr) (fun _ i _ => 8 - (intOf i).toNat)
  case atStart => exact ⟨0, by omega, rfl, ⟨rfl, .inl ⟨rfl, rfl⟩⟩, Below.refl _ _⟩
  case round =>
    obtain ⟨k, hk, rfl, hown, hB⟩ := hrel
    have hblk : wr.heap[w.heap.size]? = some (.cells #[.int .u64 (z 0).a, .int .u64 (z 0).b, .int .u64 (z 0).c, .int .u64 (z 0).e, .int .u64 (z 1).a, .int .u64 (z 1).b, .int .u64 (z 1).c, .int .u64 (z 1).e, .int .u64 (z 2).a, .int .u64 (z 2).b, .int .u64 (z 2).c, .int .u64 (z 2).e, .int .u64 (z 3).a, .int .u64 (z 3).b, .int .u64 (z 3).c, .int .u64 (z 3).e, .int .u64 (z 4).a, .int .u64 (z 4).b, .int .u64 (z 4).c, .int .u64 (z 4).e, .int .u64 (z 5).a, .int .u64 (z 5).b, .int .u64 (z 5).c, .int .u64 (z 5).e, .int .u64 (z 6).a, .int .u64 (z 6).b, .int .u64 (z 6).c, .int .u64 (z 6).e, .int .u64 (z 7).a, .int .u64 (z 7).b, .int .u64 (z 7).c, .int .u64 (z 7).e] 96 (0, 0)) := (hB.block w.heap.size (by omega)).trans (World.alloc_heap_new w _)
    have hsz : w.heap.size + 1 ≤ wr.heap.size := by have := hB.size; simpa using this
    by_cases hlt : k < 8
    · obtain ⟨n, hn⟩ : ∃ n : Nat, Hid (n = (lst z k).length) := ⟨_, rfl⟩
      rw [← hn.out] at hown
      have hnl : n ≤ 8 := by have := lst_len z k; have := hn.out; omega
      have hzk := (hz k hlt).2
      have hskip : eq4 (z k).a (z k).b (z k).c (z k).e 0 0 0 0 = true → lst z (k + 1) = lst z k := fun h => by simp [lst, oneL, h]
      have hadd : eq4 (z k).a (z k).b (z k).c (z k).e 0 0 0 0 = false → lst z (k + 1) = lst z k ++ [z k] := fun h => by simp [lst, oneL, h]
      have HS : Hid _ := hskip
      have HA : Hid _ := hadd
      have HD : Hid _ := hzk
      clear hskip hadd hzk
      have hlw : w.heap.size < wr.heap.size := by omega
      obtain ⟨cB, fB⟩ := cells_of_block hblk
      obtain ⟨kk, hkk⟩ : ∃ kk : Nat, Hid (kk = k + 1) := ⟨_, rfl⟩
      rcases (show k = 0 ∨ k = 1 ∨ k = 2 ∨ k = 3 ∨ k = 4 ∨ k = 5 ∨ k = 6 ∨ k = 7 by omega) with rfl | rfl | rfl | rfl | rfl | rfl | rfl | rfl
      · clear hk hlt
        rcases Bool.eq_false_or_eq_true (eq4 (z 0).a (z 0).b (z 0).c (z 0).e 0 0 0 0) with hq | hq
        · go_wp2_with (go_at_call 79; refine (zero_any _ _ _ _ _).mono ?_; rintro e w1 ⟨rfl, hb1⟩; rw [hq])
          go_roundw
          case rel =>
            have e := hkk.out
            refine ⟨kk, by omega, by rw [e]; go_num, ?_, btc hB hb1 hsz⟩
            rw [e, HS.out hq, ← hn.out]
            exact ownsRow_below hown hb1
          case measure => simp [intOf]
        · go_wp2_with (first
            | (go_at_call 79; refine (zero_any _ _ _ _ _).mono ?_; rintro e w1 ⟨rfl, hb1⟩; rw [hq]; have hblk1 := (hb1.block w.heap.size hlw).trans hblk; obtain ⟨cB1, fB1⟩ := cells_of_block hblk1; have hs1 := hb1.size; have hlw1 : w.heap.size < w1.heap.size := (by omega))
            | (at_builtin; refine wpList_append_own _ rfl _ _ 24 rfl (w.heap.size + 1) 66 i0 _ 5 40 Try.underlying24 hi hz0 hz1 hz2 rfl (by decide) _ _ _ rfl ((ownsRow_below hown hb1).alloc _) ⟨w1.heap.size, 0, none⟩ 1 1 [.int .u8 0, .int .u64 (z 0).a, .int .u64 (z 0).b, .int .u64 (z 0).c, .int .u64 (z 0).e] rfl rfl (new_cells0 w1 #[.int .u8 0, .int .u64 (z 0).a, .int .u64 (z 0).b, .int .u64 (z 0).c, .int .u64 (z 0).e] 66) (by simp [Value.oneCell']) (by unfold maxLen; omega) (by omega) (by simp; omega) ?_; intro v' w' hown' hgrow _))
          go_roundw
          case rel =>
            have e := hkk.out
            refine ⟨kk, by omega, by rw [e]; go_num, ?_, ?_⟩
            · rw [e, HA.out hq, List.length_append, cellsL_append, ← hn.out]
              have e2 : cellsL [z 0] = [.int .u8 0, .int .u64 (z 0).a, .int .u64 (z 0).b, .int .u64 (z 0).c, .int .u64 (z 0).e] := by
                have h := HD.out
                show [Value.int .u8 (z 0).d, _, _, _, _] = _
                rw [h]; rfl
              rw [e2]; exact hown'
            · refine ((btc hB hb1 hsz).alloc (by omega) _).grown hgrow (by simp; omega) (fun k' e => ?_)
              obtain ⟨_, h2⟩ := hown
              rcases h2 with ⟨rfl, _⟩ | ⟨g', cap', cur, rfl, hg', _⟩
              · cases e
              · cases e; exact hg'
          case measure => simp [intOf]
      · clear hk hlt
        rcases Bool.eq_false_or_eq_true (eq4 (z 1).a (z 1).b (z 1).c (z 1).e 0 0 0 0) with hq | hq
        · go_wp2_with (go_at_call 79; refine (zero_any _ _ _ _ _).mono ?_; rintro e w1 ⟨rfl, hb1⟩; rw [hq])
          go_roundw
          case rel =>
            have e := hkk.out
            refine ⟨kk, by omega, by rw [e]; go_num, ?_, btc hB hb1 hsz⟩
            rw [e, HS.out hq, ← hn.out]
            exact ownsRow_below hown hb1
          case measure => simp [intOf]
        · go_wp2_with (first
            | (go_at_call 79; refine (zero_any _ _ _ _ _).mono ?_; rintro e w1 ⟨rfl, hb1⟩; rw [hq]; have hblk1 := (hb1.block w.heap.size hlw).trans hblk; obtain ⟨cB1, fB1⟩ := cells_of_block hblk1; have hs1 := hb1.size; have hlw1 : w.heap.size < w1.heap.size := (by omega))
            | (at_builtin; refine wpList_append_own _ rfl _ _ 24 rfl (w.heap.size + 1) 66 i0 _ 5 40 Try.underlying24 hi hz0 hz1 hz2 rfl (by decide) _ _ _ rfl ((ownsRow_below hown hb1).alloc _) ⟨w1.heap.size, 0, none⟩ 1 1 [.int .u8 1, .int .u64 (z 1).a, .int .u64 (z 1).b, .int .u64 (z 1).c, .int .u64 (z 1).e] rfl rfl (new_cells0 w1 #[.int .u8 1, .int .u64 (z 1).a, .int .u64 (z 1).b, .int .u64 (z 1).c, .int .u64 (z 1).e] 66) (by simp [Value.oneCell']) (by unfold maxLen; omega) (by omega) (by simp; omega) ?_; intro v' w' hown' hgrow _))
          go_roundw
          case rel =>
            have e := hkk.out
            refine ⟨kk, by omega, by rw [e]; go_num, ?_, ?_⟩
            · rw [e, HA.out hq, List.length_append, cellsL_append, ← hn.out]
              have e2 : cellsL [z 1] = [.int .u8 1, .int .u64 (z 1).a, .int .u64 (z 1).b, .int .u64 (z 1).c, .int .u64 (z 1).e] := by
                have h := HD.out
                show [Value.int .u8 (z 1).d, _, _, _, _] = _
                rw [h]; rfl
              rw [e2]; exact hown'
            · refine ((btc hB hb1 hsz).alloc (by omega) _).grown hgrow (by simp; omega) (fun k' e => ?_)
              obtain ⟨_, h2⟩ := hown
              rcases h2 with ⟨rfl, _⟩ | ⟨g', cap', cur, rfl, hg', _⟩
              · cases e
              · cases e; exact hg'
          case measure => simp [intOf]
      · clear hk hlt
        rcases Bool.eq_false_or_eq_true (eq4 (z 2).a (z 2).b (z 2).c (z 2).e 0 0 0 0) with hq | hq
        · go_wp2_with (go_at_call 79; refine (zero_any _ _ _ _ _).mono ?_; rintro e w1 ⟨rfl, hb1⟩; rw [hq])
          go_roundw
          case rel =>
            have e := hkk.out
            refine ⟨kk, by omega, by rw [e]; go_num, ?_, btc hB hb1 hsz⟩
            rw [e, HS.out hq, ← hn.out]
            exact ownsRow_below hown hb1
          case measure => simp [intOf]
        · go_wp2_with (first
            | (go_at_call 79; refine (zero_any _ _ _ _ _).mono ?_; rintro e w1 ⟨rfl, hb1⟩; rw [hq]; have hblk1 := (hb1.block w.heap.size hlw).trans hblk; obtain ⟨cB1, fB1⟩ := cells_of_block hblk1; have hs1 := hb1.size; have hlw1 : w.heap.size < w1.heap.size := (by omega))
            | (at_builtin; refine wpList_append_own _ rfl _ _ 24 rfl (w.heap.size + 1) 66 i0 _ 5 40 Try.underlying24 hi hz0 hz1 hz2 rfl (by decide) _ _ _ rfl ((ownsRow_below hown hb1).alloc _) ⟨w1.heap.size, 0, none⟩ 1 1 [.int .u8 2, .int .u64 (z 2).a, .int .u64 (z 2).b, .int .u64 (z 2).c, .int .u64 (z 2).e] rfl rfl (new_cells0 w1 #[.int .u8 2, .int .u64 (z 2).a, .int .u64 (z 2).b, .int .u64 (z 2).c, .int .u64 (z 2).e] 66) (by simp [Value.oneCell']) (by unfold maxLen; omega) (by omega) (by simp; omega) ?_; intro v' w' hown' hgrow _))
          go_roundw
          case rel =>
            have e := hkk.out
            refine ⟨kk, by omega, by rw [e]; go_num, ?_, ?_⟩
            · rw [e, HA.out hq, List.length_append, cellsL_append, ← hn.out]
              have e2 : cellsL [z 2] = [.int .u8 2, .int .u64 (z 2).a, .int .u64 (z 2).b, .int .u64 (z 2).c, .int .u64 (z 2).e] := by
                have h := HD.out
                show [Value.int .u8 (z 2).d, _, _, _, _] = _
                rw [h]; rfl
              rw [e2]; exact hown'
            · refine ((btc hB hb1 hsz).alloc (by omega) _).grown hgrow (by simp; omega) (fun k' e => ?_)
              obtain ⟨_, h2⟩ := hown
              rcases h2 with ⟨rfl, _⟩ | ⟨g', cap', cur, rfl, hg', _⟩
              · cases e
              · cases e; exact hg'
          case measure => simp [intOf]
      · clear hk hlt
        rcases Bool.eq_false_or_eq_true (eq4 (z 3).a (z 3).b (z 3).c (z 3).e 0 0 0 0) with hq | hq
        · go_wp2_with (go_at_call 79; refine (zero_any _ _ _ _ _).mono ?_; rintro e w1 ⟨rfl, hb1⟩; rw [hq])
          go_roundw
          case rel =>
            have e := hkk.out
            refine ⟨kk, by omega, by rw [e]; go_num, ?_, btc hB hb1 hsz⟩
            rw [e, HS.out hq, ← hn.out]
            exact ownsRow_below hown hb1
          case measure => simp [intOf]
        · go_wp2_with (first
            | (go_at_call 79; refine (zero_any _ _ _ _ _).mono ?_; rintro e w1 ⟨rfl, hb1⟩; rw [hq]; have hblk1 := (hb1.block w.heap.size hlw).trans hblk; obtain ⟨cB1, fB1⟩ := cells_of_block hblk1; have hs1 := hb1.size; have hlw1 : w.heap.size < w1.heap.size := (by omega))
            | (at_builtin; refine wpList_append_own _ rfl _ _ 24 rfl (w.heap.size + 1) 66 i0 _ 5 40 Try.underlying24 hi hz0 hz1 hz2 rfl (by decide) _ _ _ rfl ((ownsRow_below hown hb1).alloc _) ⟨w1.heap.size, 0, none⟩ 1 1 [.int .u8 3, .int .u64 (z 3).a, .int .u64 (z 3).b, .int .u64 (z 3).c, .int .u64 (z 3).e] rfl rfl (new_cells0 w1 #[.int .u8 3, .int .u64 (z 3).a, .int .u64 (z 3).b, .int .u64 (z 3).c, .int .u64 (z 3).e] 66) (by simp [Value.oneCell']) (by unfold maxLen; omega) (by omega) (by simp; omega) ?_; intro v' w' hown' hgrow _))
          go_roundw
          case rel =>
            have e := hkk.out
            refine ⟨kk, by omega, by rw [e]; go_num, ?_, ?_⟩
            · rw [e, HA.out hq, List.length_append, cellsL_append, ← hn.out]
              have e2 : cellsL [z 3] = [.int .u8 3, .int .u64 (z 3).a, .int .u64 (z 3).b, .int .u64 (z 3).c, .int .u64 (z 3).e] := by
                have h := HD.out
                show [Value.int .u8 (z 3).d, _, _, _, _] = _
                rw [h]; rfl
              rw [e2]; exact hown'
            · refine ((btc hB hb1 hsz).alloc (by omega) _).grown hgrow (by simp; omega) (fun k' e => ?_)
              obtain ⟨_, h2⟩ := hown
              rcases h2 with ⟨rfl, _⟩ | ⟨g', cap', cur, rfl, hg', _⟩
              · cases e
              · cases e; exact hg'
          case measure => simp [intOf]
      · clear hk hlt
        rcases Bool.eq_false_or_eq_true (eq4 (z 4).a (z 4).b (z 4).c (z 4).e 0 0 0 0) with hq | hq
        · go_wp2_with (go_at_call 79; refine (zero_any _ _ _ _ _).mono ?_; rintro e w1 ⟨rfl, hb1⟩; rw [hq])
          go_roundw
          case rel =>
            have e := hkk.out
            refine ⟨kk, by omega, by rw [e]; go_num, ?_, btc hB hb1 hsz⟩
            rw [e, HS.out hq, ← hn.out]
            exact ownsRow_below hown hb1
          case measure => simp [intOf]
        · go_wp2_with (first
            | (go_at_call 79; refine (zero_any _ _ _ _ _).mono ?_; rintro e w1 ⟨rfl, hb1⟩; rw [hq]; have hblk1 := (hb1.block w.heap.size hlw).trans hblk; obtain ⟨cB1, fB1⟩ := cells_of_block hblk1; have hs1 := hb1.size; have hlw1 : w.heap.size < w1.heap.size := (by omega))
            | (at_builtin; refine wpList_append_own _ rfl _ _ 24 rfl (w.heap.size + 1) 66 i0 _ 5 40 Try.underlying24 hi hz0 hz1 hz2 rfl (by decide) _ _ _ rfl ((ownsRow_below hown hb1).alloc _) ⟨w1.heap.size, 0, none⟩ 1 1 [.int .u8 4, .int .u64 (z 4).a, .int .u64 (z 4).b, .int .u64 (z 4).c, .int .u64 (z 4).e] rfl rfl (new_cells0 w1 #[.int .u8 4, .int .u64 (z 4).a, .int .u64 (z 4).b, .int .u64 (z 4).c, .int .u64 (z 4).e] 66) (by simp [Value.oneCell']) (by unfold maxLen; omega) (by omega) (by simp; omega) ?_; intro v' w' hown' hgrow _))
          go_roundw
          case rel =>
            have e := hkk.out
            refine ⟨kk, by omega, by rw [e]; go_num, ?_, ?_⟩
            · rw [e, HA.out hq, List.length_append, cellsL_append, ← hn.out]
              have e2 : cellsL [z 4] = [.int .u8 4, .int .u64 (z 4).a, .int .u64 (z 4).b, .int .u64 (z 4).c, .int .u64 (z 4).e] := by
                have h := HD.out
                show [Value.int .u8 (z 4).d, _, _, _, _] = _
                rw [h]; rfl
              rw [e2]; exact hown'
            · refine ((btc hB hb1 hsz).alloc (by omega) _).grown hgrow (by simp; omega) (fun k' e => ?_)
              obtain ⟨_, h2⟩ := hown
              rcases h2 with ⟨rfl, _⟩ | ⟨g', cap', cur, rfl, hg', _⟩
              · cases e
              · cases e; exact hg'
          case measure => simp [intOf]
      · clear hk hlt
        rcases Bool.eq_false_or_eq_true (eq4 (z 5).a (z 5).b (z 5).c (z 5).e 0 0 0 0) with hq | hq
        · go_wp2_with (go_at_call 79; refine (zero_any _ _ _ _ _).mono ?_; rintro e w1 ⟨rfl, hb1⟩; rw [hq])
          go_roundw
          case rel =>
            have e := hkk.out
            refine ⟨kk, by omega, by rw [e]; go_num, ?_, btc hB hb1 hsz⟩
            rw [e, HS.out hq, ← hn.out]
            exact ownsRow_below hown hb1
          case measure => simp [intOf]
        · go_wp2_with (first
            | (go_at_call 79; refine (zero_any _ _ _ _ _).mono ?_; rintro e w1 ⟨rfl, hb1⟩; rw [hq]; have hblk1 := (hb1.block w.heap.size hlw).trans hblk; obtain ⟨cB1, fB1⟩ := cells_of_block hblk1; have hs1 := hb1.size; have hlw1 : w.heap.size < w1.heap.size := (by omega))
            | (at_builtin; refine wpList_append_own _ rfl _ _ 24 rfl (w.heap.size + 1) 66 i0 _ 5 40 Try.underlying24 hi hz0 hz1 hz2 rfl (by decide) _ _ _ rfl ((ownsRow_below hown hb1).alloc _) ⟨w1.heap.size, 0, none⟩ 1 1 [.int .u8 5, .int .u64 (z 5).a, .int .u64 (z 5).b, .int .u64 (z 5).c, .int .u64 (z 5).e] rfl rfl (new_cells0 w1 #[.int .u8 5, .int .u64 (z 5).a, .int .u64 (z 5).b, .int .u64 (z 5).c, .int .u64 (z 5).e] 66) (by simp [Value.oneCell']) (by unfold maxLen; omega) (by omega) (by simp; omega) ?_; intro v' w' hown' hgrow _))
          go_roundw
          case rel =>
            have e := hkk.out
            refine ⟨kk, by omega, by rw [e]; go_num, ?_, ?_⟩
            · rw [e, HA.out hq, List.length_append, cellsL_append, ← hn.out]
              have e2 : cellsL [z 5] = [.int .u8 5, .int .u64 (z 5).a, .int .u64 (z 5).b, .int .u64 (z 5).c, .int .u64 (z 5).e] := by
                have h := HD.out
                show [Value.int .u8 (z 5).d, _, _, _, _] = _
                rw [h]; rfl
              rw [e2]; exact hown'
            · refine ((btc hB hb1 hsz).alloc (by omega) _).grown hgrow (by simp; omega) (fun k' e => ?_)
              obtain ⟨_, h2⟩ := hown
              rcases h2 with ⟨rfl, _⟩ | ⟨g', cap', cur, rfl, hg', _⟩
              · cases e
              · cases e; exact hg'
          case measure => simp [intOf]
      · clear hk hlt
        rcases Bool.eq_false_or_eq_true (eq4 (z 6).a (z 6).b (z 6).c (z 6).e 0 0 0 0) with hq | hq
        · go_wp2_with (go_at_call 79; refine (zero_any _ _ _ _ _).mono ?_; rintro e w1 ⟨rfl, hb1⟩; rw [hq])
          go_roundw
          case rel =>
            have e := hkk.out
            refine ⟨kk, by omega, by rw [e]; go_num, ?_, btc hB hb1 hsz⟩
            rw [e, HS.out hq, ← hn.out]
            exact ownsRow_below hown hb1
          case measure => simp [intOf]
        · go_wp2_with (first
            | (go_at_call 79; refine (zero_any _ _ _ _ _).mono ?_; rintro e w1 ⟨rfl, hb1⟩; rw [hq]; have hblk1 := (hb1.block w.heap.size hlw).trans hblk; obtain ⟨cB1, fB1⟩ := cells_of_block hblk1; have hs1 := hb1.size; have hlw1 : w.heap.size < w1.heap.size := (by omega))
            | (at_builtin; refine wpList_append_own _ rfl _ _ 24 rfl (w.heap.size + 1) 66 i0 _ 5 40 Try.underlying24 hi hz0 hz1 hz2 rfl (by decide) _ _ _ rfl ((ownsRow_below hown hb1).alloc _) ⟨w1.heap.size, 0, none⟩ 1 1 [.int .u8 6, .int .u64 (z 6).a, .int .u64 (z 6).b, .int .u64 (z 6).c, .int .u64 (z 6).e] rfl rfl (new_cells0 w1 #[.int .u8 6, .int .u64 (z 6).a, .int .u64 (z 6).b, .int .u64 (z 6).c, .int .u64 (z 6).e] 66) (by simp [Value.oneCell']) (by unfold maxLen; omega) (by omega) (by simp; omega) ?_; intro v' w' hown' hgrow _))
          go_roundw
          case rel =>
            have e := hkk.out
            refine ⟨kk, by omega, by rw [e]; go_num, ?_, ?_⟩
            · rw [e, HA.out hq, List.length_append, cellsL_append, ← hn.out]
              have e2 : cellsL [z 6] = [.int .u8 6, .int .u64 (z 6).a, .int .u64 (z 6).b, .int .u64 (z 6).c, .int .u64 (z 6).e] := by
                have h := HD.out
                show [Value.int .u8 (z 6).d, _, _, _, _] = _
                rw [h]; rfl
              rw [e2]; exact hown'
            · refine ((btc hB hb1 hsz).alloc (by omega) _).grown hgrow (by simp; omega) (fun k' e => ?_)
              obtain ⟨_, h2⟩ := hown
              rcases h2 with ⟨rfl, _⟩ | ⟨g', cap', cur, rfl, hg', _⟩
              · cases e
              · cases e; exact hg'
          case measure => simp [intOf]
      · clear hk hlt
        rcases Bool.eq_false_or_eq_true (eq4 (z 7).a (z 7).b (z 7).c (z 7).e 0 0 0 0) with hq | hq
        · go_wp2_with (go_at_call 79; refine (zero_any _ _ _ _ _).mono ?_; rintro e w1 ⟨rfl, hb1⟩; rw [hq])
          go_roundw
          case rel =>
            have e := hkk.out
            refine ⟨kk, by omega, by rw [e]; go_num, ?_, btc hB hb1 hsz⟩
            rw [e, HS.out hq, ← hn.out]
            exact ownsRow_below hown hb1
          case measure => simp [intOf]
        · go_wp2_with (first
            | (go_at_call 79; refine (zero_any _ _ _ _ _).mono ?_; rintro e w1 ⟨rfl, hb1⟩; rw [hq]; have hblk1 := (hb1.block w.heap.size hlw).trans hblk; obtain ⟨cB1, fB1⟩ := cells_of_block hblk1; have hs1 := hb1.size; have hlw1 : w.heap.size < w1.heap.size := (by omega))
            | (at_builtin; refine wpList_append_own _ rfl _ _ 24 rfl (w.heap.size + 1) 66 i0 _ 5 40 Try.underlying24 hi hz0 hz1 hz2 rfl (by decide) _ _ _ rfl ((ownsRow_below hown hb1).alloc _) ⟨w1.heap.size, 0, none⟩ 1 1 [.int .u8 7, .int .u64 (z 7).a, .int .u64 (z 7).b, .int .u64 (z 7).c, .int .u64 (z 7).e] rfl rfl (new_cells0 w1 #[.int .u8 7, .int .u64 (z 7).a, .int .u64 (z 7).b, .int .u64 (z 7).c, .int .u64 (z 7).e] 66) (by simp [Value.oneCell']) (by unfold maxLen; omega) (by omega) (by simp; omega) ?_; intro v' w' hown' hgrow _))
          go_roundw
          case rel =>
            have e := hkk.out
            refine ⟨kk, by omega, by rw [e]; go_num, ?_, ?_⟩
            · rw [e, HA.out hq, List.length_append, cellsL_append, ← hn.out]
              have e2 : cellsL [z 7] = [.int .u8 7, .int .u64 (z 7).a, .int .u64 (z 7).b, .int .u64 (z 7).c, .int .u64 (z 7).e] := by
                have h := HD.out
                show [Value.int .u8 (z 7).d, _, _, _, _] = _
                rw [h]; rfl
              rw [e2]; exact hown'
            · refine ((btc hB hb1 hsz).alloc (by omega) _).grown hgrow (by simp; omega) (fun k' e => ?_)
              obtain ⟨_, h2⟩ := hown
              rcases h2 with ⟨rfl, _⟩ | ⟨g', cap', cur, rfl, hg', _⟩
              · cases e
              · cases e; exact hg'
          case measure => simp [intOf]
    · have hk : k = 8 := by omega
      subst hk
      go_wp2
      go_ret
      exact ⟨_, rfl, row_base hown (by omega), ((Below.refl w.heap.size w).alloc (Nat.le_refl _) _).trans (hB.mono (by omega))⟩
end Go.Proofs.Ytjhjgncnadhbhaa
