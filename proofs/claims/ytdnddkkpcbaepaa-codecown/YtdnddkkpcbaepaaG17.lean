
/- codec: what was handed in and answered may be written over. -/
import Derived.Test.YtdnddkkpcbaepaaG12
import Derived.Test.YtdnddkkpcbaepaaD4
set_option linter.unusedSimpArgs false
set_option linter.unusedVariables false
namespace Go.Proofs.Ytdnddkkpcbaepaa
open Go.RowKit

/-- The first k written over. -/
def ovr (c : Int) (l : List Int) (k : Nat) : List Int := List.replicate k c ++ l.drop k
theorem ovr_len {c : Int} {l : List Int} {k : Nat} (h : k ≤ l.length) : (ovr c l k).length = l.length := by simp [ovr]; omega
theorem ovr_at {c : Int} {l : List Int} {k : Nat} (h : k < l.length) : (ovr c l k)[k]? = some l[k] := by
  unfold ovr
  rw [List.getElem?_append_right (by simp)]
  simp [h]
theorem ovr_set {c : Int} {l : List Int} {k : Nat} (h : k < l.length) : (encB (ovr c l k)).set k (.int .u8 c) = encB (ovr c l (k + 1)) := by
  have e : ovr c l k = List.replicate k c ++ l[k] :: l.drop (k + 1) := by unfold ovr; rw [List.drop_eq_getElem_cons h]
  have e2 : ovr c l (k + 1) = List.replicate k c ++ c :: l.drop (k + 1) := by
    unfold ovr; rw [List.replicate_succ', List.append_assoc]; rfl
  rw [e, e2]
  unfold encB
  rw [List.map_append, List.map_append, List.set_append_right _ _ (by simp)]
  simp only [List.map_cons, List.length_map, List.length_replicate, Nat.sub_self, List.set_cons_zero]
theorem ovr_0 (c : Int) (l : List Int) : ovr c l 0 = l := by simp [ovr]
theorem row_at {W : World} {base g n cap k : Nat} {xs : List Int} {x : Int} (h : W.ownsRow base 5 1 (.slice (some ⟨g, 0, none⟩) n cap) n (encB xs)) (hk : xs[k]? = some x) : W.cell? ⟨g, k, none⟩ = some (.int .u8 x) ∧ W.frozen? ⟨g, k, none⟩ = false ∧ g < W.heap.size ∧ base ≤ g := by
  have hc := h.cells (g := g) rfl k (.int .u8 x) (by simp [encB, hk])
  rw [add_cell, Nat.zero_add] at hc
  rcases h.2 with ⟨e, _⟩ | ⟨g', cap', cur, e, hb, hg, _⟩
  · simp at e
  · simp at e
    obtain ⟨rfl, rfl⟩ := e
    exact ⟨hc, (cells_of_block hg).2 k, (Array.getElem?_eq_some_iff.1 hg).1, hb⟩
theorem row_some {W : World} {base n k : Nat} {e : TypeId} {v : Value} {xs : List Value} (h : W.ownsRow base e 1 v n xs) (hk : k < n) : ∃ g cap, v = .slice (some ⟨g, 0, none⟩) n cap := by
  rcases h.2 with ⟨_, h0⟩ | ⟨g, cap, cur, rfl, _⟩
  · omega
  · exact ⟨g, cap, rfl⟩

theorem WF.rd' {A B : World} {b rb : Nat} {v v' : Value} {D : Option Nat} {s : Option (List Int)} (h : WF A B b v v') (hr : RdAt A rb D s) (h1 : rb ≠ b) (h2 : some rb ≠ v.ownBlock) (h3 : ∀ d, D = some d → d ≠ b ∧ some d ≠ v.ownBlock) : RdAt B rb D s := by
  have hl := hr.lt
  cases s with
  | none => exact (h.block rb hl h1 h2).trans hr
  | some p =>
    obtain ⟨x, hb, a, cap, rfl, k1, k2, k3, k4⟩ := hr
    refine ⟨_, (h.block rb hl h1 h2).trans hb, a, cap, rfl, k1, k2, k3, ?_⟩
    rcases k4 with rfl | ⟨d, off, rfl, rfl, k5, k6⟩
    · exact .inl rfl
    · exact .inr ⟨d, off, rfl, rfl, Nat.lt_of_lt_of_le k5 h.size, fun i x hi => (World.cell?_of_block (a := ⟨d, off + i, none⟩) (h.block d k5 (h3 d rfl).1 (h3 d rfl).2)).trans (k6 i x hi)⟩
set_option maxHeartbeats 1000000 in
theorem join_any {W : World} {u : Value} {q : List Int} (hl : q.length ≤ 1048576) (hu : Src W u q) :
    Calls Try.prog 24 #[u, .slice none 0 0] W fun e w' => ∃ u', e = .returned u' ∧ w'.ownsRow W.heap.size 5 1 u' q.length (encB q) ∧ Below W.heap.size W w' := by
  obtain ⟨i0, hi, hz0, hz1, hz2⟩ := info_parts u8_info
  rcases hu with ⟨rfl, rfl⟩ | ⟨ad, cap, rfl, hc⟩
  · go_enter Try.func24, Try.ntmps24
    go_wp2_with (at_builtin; refine wpList_append_own_none rfl _ _ 26 rfl W.heap.size 5 i0 1 Try.underlying26 hi _ 0 [] rfl (World.ownsRow_nil _ _ _ _) rfl ?_)
    go_ret
    exact ⟨_, rfl, World.ownsRow_nil _ _ _ _, Below.refl _ _⟩
  · go_enter Try.func24, Try.ntmps24
    go_wp2_with (first
      | (at_builtin; refine wpList_append_own _ rfl _ _ 26 rfl W.heap.size 5 i0 _ 1 1 Try.underlying26 hi hz0 hz1 hz2 rfl (by decide) _ 0 [] rfl (World.ownsRow_nil _ _ _ _) ad q.length cap (encB q) rfl (by simp [encB]) (fun j x hj => by simp only [encB, List.getElem?_map] at hj; obtain ⟨y, hy, rfl⟩ := Option.map_eq_some_iff.1 hj; exact hc j y hy) (by simp [encB, Value.oneCell']) (by unfold maxLen; omega) (by omega) (Nat.le_refl _) ?_; intro v' w1 hown' hgrow _; rw [Nat.zero_add, List.nil_append] at hown'; obtain ⟨a1, c1, rfl⟩ := row_slice hown')
      | (at_builtin; refine wpList_append_own_none rfl _ _ 26 rfl W.heap.size 5 i0 1 Try.underlying26 hi _ _ _ rfl hown' rfl ?_))
    go_ret
    exact ⟨_, rfl, hown', (Below.refl _ _).grown hgrow (Nat.le_refl _) (fun k hk => absurd (show (none : Option Nat) = some k from hk) (by simp))⟩

set_option maxRecDepth 10000 in
set_option maxHeartbeats 4000000 in
theorem codecOwn_w (a : Option Addr) (la ca : Nat) (c : Int) (h1 : la ≤ 400) (w : World) (l : List Int) (E : Option Nat) (hS : Src w (.slice a la ca) l) (hB : Byt w E (.slice a la ca) l) (hEl : ∀ d, E = some d → d < w.heap.size) (hl : l.length = la) (hr : ∀ x ∈ l, 0 ≤ x ∧ x ≤ 255) :
    Calls Try.prog 8 #[.slice a la ca, .int .u8 c] w fun e w' => e = .returned (.bool true) ∧ Below w.heap.size w w' := by
  have hl1 : ¬ (400 : Int) < (la : Int) := by omega
  go_enter Try.func8, Try.ntmps8
  go_wp2_with (first
    | (go_at_call 24; refine (join_any (by omega) hS).mono ?_; rintro e w1 ⟨uq, rfl, ho1, hb1⟩; rw [hl] at ho1; obtain ⟨aq, cq, rfl⟩ := row_slice ho1)
    | (go_at_call 15; refine (read_new (by omega) hr (src_own (by rw [hl]; exact ho1))).mono ?_; rintro e w2 ⟨rb, D, rfl, hr2, hrb, hD, hDl, hb2⟩; have lr2 := hr2.lt; have ho2 := none_row ho1 (grown_none hb2); have hB2 := bt hb1 hb2; have hs1 := hb1.size; have hs2 := hb2.size))
  have hq1 := ho1.lt
  have hWi : WrAt (w2.alloc (.cells #[.slice none 0 0] 28)) w2.heap.size w2.heap.size (.slice none 0 0) [] := ⟨World.alloc_heap_new w2 _, World.ownsRow_nil _ _ _ _⟩
  go_loopw [8] (fun i X => ∃ (k : Nat) (vk : Value), k ≤ la ∧ i = .int .i64 (k : Int) ∧ WrAt X w2.heap.size w2.heap.size vk (l.take k) ∧ X.ownsRow w.heap.size 5 1 (.slice aq la cq) la (encB (ovr c l k)) ∧ RdAt X rb D (some l) ∧ Below w.heap.size w X ∧ w2.heap.size < X.heap.size) (fun i _ => la - (intOf i).toNat)
  case atStart => exact ⟨0, _, by omega, rfl, hWi, by rw [ovr_0]; exact ho2.alloc _, hr2.nn (World.grownBy_alloc w2 _ none), ba hB2 _, by simp⟩
  case round =>
    clear hWi
    obtain ⟨k, vk, hk, rfl, hW, ho, hR, hBx, hz⟩ := hrel
    by_cases hlt : k < la
    · obtain ⟨g, cg, hv⟩ := row_some ho hlt
      simp at hv
      obtain ⟨rfl, rfl⟩ := hv
      have hkl : k < l.length := by omega
      obtain ⟨q1, q2, q3, q4⟩ := row_at ho (ovr_at hkl)
      have hlt' : (k : Int) < (la : Int) := by omega
      have hgq : g < w1.heap.size := (hq1 g rfl).2
      have htk : l.take (k + 1) = l.take k ++ [l[k]] := List.take_succ_eq_append_getElem hkl
      have htk' : Hid _ := htk
      clear htk
      have hlk : (l.take k).length ≤ 400 := by simp; omega
      have hvo : ∀ n, n < w2.heap.size → some n ≠ vk.ownBlock := fun n hn e => by have := (hW.2.lt n e.symm).1; omega
      generalize hxx : l[k] = x at *
      go_wp2_with (go_at_call 25; refine (wByte_any x hW (by omega) (by omega)).mono ?_; rintro e w3 ⟨rfl, v3, hW3, hF3⟩; have hR3 := hF3.rd' hR (by omega) (hvo _ lr2) (fun d hd => ⟨by have := (hDl d hd).2; omega, hvo d (hDl d hd).2⟩); have ho3 := hF3.row ho (by simp [Value.ownBlock]; omega) (.inr (hvo g (by omega))); have hB3 := WF.below hBx hF3 hW (by omega) (by omega); obtain ⟨c1, c2, c3, c4⟩ := row_at ho3 (ovr_at hkl))
      all_goals go_roundw
      case rel =>
        have hgs : w3.grownBy (w3.setCell ⟨g, k, none⟩ (.int .u8 c)) (some g) := grown_se (grown_ref _ _) _ _
        refine ⟨k + 1, v3, by omega, by go_num, ?_, ?_, hR3.kept hgs (by simp; omega) (by cases hd : D with | none => exact .inl rfl | some d => (right; have := (hDl d hd).1; simp; omega)), hB3.setCell (p := ⟨g, k, none⟩) q4 _, ?_⟩
        · rw [htk'.out]
          exact hW3.kept hgs (by simp; omega) (by cases hv3 : v3.ownBlock with | none => exact .inl rfl | some n => (right; have := (hW3.2.lt n hv3).1; simp; omega))
        · have := row_set (.int .u8 c) ho3 hlt
          rwa [ovr_set hkl] at this
        · have := hF3.size; simp [World.setCell]; omega
      case measure => (simp [intOf]; omega)
    · obtain rfl : k = la := by omega
      rw [List.take_of_length_le (by omega)] at hW
      clear ho ho1 ho2 hq1
      go_wp2_with (go_at_call 13; refine (wDone_any hW (by omega)).mono ?_; rintro e w5 ⟨ul, rfl, ho5, hb5⟩; rw [hl] at ho5; obtain ⟨al, cl5, rfl⟩ := row_slice ho5)
      have hW5 := hW.kept (grown_none hb5) (by simp) (by cases vk.ownBlock <;> simp)
      have hR5 := hR.nn (grown_none hb5)
      have hB5 := bt hBx hb5
      have hs5 := hb5.size
      have hvl := hW.2.lt
      clear hb5 hR hW hBx hb1 hb2 hr2
      generalize wr.heap.size = z0 at *
      go_loopw [10] (fun i Y => ∃ (j : Nat), j ≤ k ∧ i = .int .i64 (j : Int) ∧ WrAt Y w2.heap.size w2.heap.size vk l ∧ Y.ownsRow z0 5 1 (.slice al k cl5) k (encB (ovr c l j)) ∧ RdAt Y rb D (some (l.drop j)) ∧ Below w.heap.size w Y ∧ z0 ≤ Y.heap.size) (fun i _ => k - (intOf i).toNat)
      case atStart => exact ⟨0, by omega, rfl, hW5, by rw [ovr_0]; exact ho5, by rw [List.drop_zero]; exact hR5, hB5, hs5⟩
      case round =>
        clear hW5 ho5 hR5 hB5 hs5
        obtain ⟨j, hj, rfl, hWy, hoy, hRy, hBy, hzy⟩ := hrel
        by_cases hlt : j < k
        · obtain ⟨g, cg, hv⟩ := row_some hoy hlt
          simp at hv
          obtain ⟨rfl, rfl⟩ := hv
          have hkl : j < l.length := by omega
          obtain ⟨q1, q2, q3, q4⟩ := row_at hoy (ovr_at hkl)
          obtain ⟨a', cap', e, k1, k2, k3, k4⟩ := hB
          simp at e
          obtain ⟨rfl, -, rfl⟩ := e
          obtain ⟨d, off, hd, rfl, k5, k6⟩ := k4.resolve_left (fun e => by subst e; rw [List.length_nil] at hl; omega)
          have p1 := (hBy.cell (p := ⟨d, off + j, none⟩) k5).trans (k6 j l[j] (List.getElem?_eq_getElem hkl))
          have hT := rByte_any hD (hRy.nn (grown_dr (grown_ref wr none)))
          rw [byteS_cons hkl] at hT
          have hlt' : (j : Int) < (k : Int) := by omega
          have hdw : w.heap.size ≤ w2.heap.size := by omega
          have hrw : ¬ d = rb := by omega
          have hgr : ¬ g = rb := by omega
          have hset := ovr_set (c := c) hkl
          have hset' : Hid _ := hset
          clear hset k6 k3 k4
          generalize hxx : l[j] = x at *
          have hxx' : (x != x) = false := by simp
          go_wp2
          go_region_held2 (fun Z => Z.cell? ⟨d, off + j, none⟩ = some (.int .u8 x) ∧ Z.cell? ⟨g, j, none⟩ = some (.int .u8 x)) (first | exact ⟨p1, q1⟩ | exact ⟨s1, s2⟩) (first
            | (go_at_call 26; refine hT.mono ?_; rintro e w6 ⟨rfl, hR6, hg6⟩; have s1 := (World.cell?_of_block (a := ⟨d, off + j, none⟩) (hg6.block d (Nat.lt_of_lt_of_le k5 (show w.heap.size ≤ wr.heap.size by omega)) (by simpa using hrw))).trans p1; have s2 := (World.cell?_of_block (a := ⟨g, j, none⟩) (hg6.block g q3 (by simpa using hgr))).trans q1))
          have hg6' : wr.grownBy w6 (some rb) := grown_tr (grown_dr (grown_ref wr (some rb))) hg6
          have ho6 := hoy.kept hg6' (.inr (by simp [Value.ownBlock]; exact hgr))
          obtain ⟨r1, r2, r3, r4⟩ := row_at ho6 (ovr_at hkl)
          rw [hxx] at r1
          have hW6 := hWy.kept hg6' (by simp; omega) (by cases hv : vk.ownBlock with | none => exact .inl rfl | some n => (right; have := (hvl n hv).1; simp; omega))
          have hB6 := below_grown hBy hg6' (by omega)
          all_goals go_wp2
          all_goals go_roundw
          case rel =>
            have hgs : w6.grownBy (w6.setCell ⟨g, j, none⟩ (.int .u8 c)) (some g) := grown_se (grown_ref _ _) _ _
            refine ⟨j + 1, by omega, by go_num, hW6.kept hgs (by simp; omega) (by cases hv : vk.ownBlock with | none => exact .inl rfl | some n => (right; have := (hvl n hv).2; simp; omega)), ?_, hR6.kept hgs (by simp; omega) (by cases hd : D with | none => exact .inl rfl | some d => (right; have := (hDl d hd).2; simp; omega)), hB6.setCell (p := ⟨g, j, none⟩) (by show w.heap.size ≤ g; omega) _, ?_⟩
            · have := row_set (.int .u8 c) ho6 hlt
              rwa [hset'.out] at this
            · have := hg6'.size; simp [World.setCell]; omega
          case measure => (simp [intOf]; omega)
        · obtain rfl : j = k := by omega
          rw [List.drop_of_length_le (by omega)] at hRy
          have hfr := hB.is.below hBy
          go_wp2_with (first
            | (go_at_call 11; refine (lays_any _).mono ?_; rintro e w7 ⟨rfl, hb7⟩; have hW7 := hWy.kept (grown_none hb7) (by simp) (by cases vk.ownBlock <;> simp); have hR7 := hRy.nn (grown_none hb7); have hB7 := bt hBy hb7; have hf7 := hfr.below hb7)
            | (go_at_call 13; refine (wDone_any hW7 (by omega)).mono ?_; rintro e w8 ⟨u8, rfl, ho8, hb8⟩; have hu8 := own_bytes (by omega) ho8; have hR8 := hR7.nn (grown_none hb8); have hB8 := bt hB7 hb8; have hf8 := hf7.below hb8)
            | (go_at_call 14; refine (same_any _ hu8 hf8).mono ?_; rintro e w9 ⟨rfl, hb9⟩; have hR9 := hR8.nn (grown_none hb9); have hB9 := bt hB8 hb9)
            | (go_at_call 18; refine (rEnd_any hR9).mono ?_; rintro e w10 ⟨rfl, rfl⟩))
          all_goals go_ret
          all_goals exact ⟨by simp [endS], hB9⟩
end Go.Proofs.Ytdnddkkpcbaepaa
