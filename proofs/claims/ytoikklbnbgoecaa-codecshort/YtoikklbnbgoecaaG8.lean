
/- codec: bytes, numbers, what is done, what is read. -/
import Derived.Test.YtoikklbnbgoecaaG7
import Derived.Laws.Cover3
set_option linter.unusedSimpArgs false
set_option linter.unusedVariables false
namespace Go.Proofs.Ytoikklbnbgoecaa
open Go.RowKit

set_option maxHeartbeats 1000000 in
theorem wByte_any {W : World} {b base : Nat} {v : Value} {p : List Int} (x : Int) (hW : WrAt W b base v p) (hbase : base ≤ W.heap.size) (hl : p.length + 1 ≤ 1048576) :
    Calls Try.prog 25 #[.pointer (some ⟨b, 0, none⟩), .int .u8 x] W fun e w' => e = .returned (.pointer (some ⟨b, 0, none⟩)) ∧ ∃ v', WrAt w' b base v' (p ++ [x]) ∧ WF W w' b v v' := by
  have hg := World.grownBy_alloc W (.cells #[.int .u8 x] 5) none
  have hL := lay_any (hW.kept hg (by simp) (by cases v.ownBlock <;> simp)) (by simp; omega) (q := [x]) hl (src_new W [x] 5)
  go_enter Try.func25, Try.ntmps25
  go_wp2_with (go_at_call 49; refine hL.mono ?_; rintro e w1 ⟨rfl, v', h1, h2⟩)
  go_ret
  exact ⟨rfl, v', h1, h2.pre hg⟩

set_option maxHeartbeats 1000000 in
theorem clone_any {W : World} {u : Value} {q : List Int} (hl : q.length ≤ 1048576) (hu : Src W u q) :
    Calls Try.prog 40 #[u] W fun e w' => ∃ u', e = .returned u' ∧ w'.ownsRow W.heap.size 5 1 u' q.length (encB q) ∧ Below W.heap.size W w' := by
  obtain ⟨i0, hi, hz0, hz1, hz2⟩ := info_parts u8_info
  have hnil : ∀ X a l c, (binOp .eql 26 (.slice a l c) (.slice none 0 0)).run Try.prog X = .ok (.bool a.isNone) X := fun X a l c => by simp [binOp, run_equal_slice_nil X 26 5 a l c Try.underlying26]
  rcases hu with ⟨rfl, rfl⟩ | ⟨ad, cap, rfl, hc⟩
  · go_enter Try.func40, Try.ntmps40
    go_wp2
    go_ret
    exact ⟨_, rfl, World.ownsRow_nil _ _ _ _, Below.refl _ _⟩
  · have hm : (W.alloc (.cells #[] 5)).ownsRow W.heap.size 5 1 (.slice (some ⟨W.heap.size, 0, none⟩) 0 0) 0 [] := World.ownsRow_made W #[] 0 (Nat.le_refl _) (by unfold maxLen; omega) rfl
    go_enter Try.func40, Try.ntmps40
    go_wp2_with (at_builtin; refine wpList_append_own _ rfl _ _ 26 rfl W.heap.size 5 i0 _ 1 1 Try.underlying26 hi hz0 hz1 hz2 rfl (by decide) _ _ _ rfl hm ad q.length cap (encB q) rfl (by simp [encB]) (fun j x hj => by simp only [encB, List.getElem?_map] at hj; obtain ⟨y, hy, rfl⟩ := Option.map_eq_some_iff.1 hj; exact (World.grownBy_alloc W _ none).cell (hc j y hy) (by simp)) (by simp [encB, Value.oneCell']) (by unfold maxLen; omega) (by omega) (by simp) ?_; intro v' w1 hown' hgrow _; rw [Nat.zero_add, List.nil_append] at hown')
    go_ret
    exact ⟨_, rfl, hown', (ba (Below.refl _ _) _).grown hgrow (by simp) (fun k hk => (hm.lt k hk).1)⟩
theorem byt_own {W : World} {base : Nat} {v : Value} {p : List Int} (h : W.ownsRow base 5 1 v p.length (encB p)) (hl : p.length ≤ 1048576) (hr : ∀ x ∈ p, 0 ≤ x ∧ x ≤ 255) : Byt W v.ownBlock v p := by
  have hs := src_own h
  rcases h.2 with ⟨rfl, h0⟩ | ⟨g, cap, cur, rfl, hb, hgb, hcap, _⟩
  · obtain rfl := List.eq_nil_of_length_eq_zero h0
    exact ⟨none, 0, rfl, Nat.le_refl _, by simp, by simp, .inl rfl⟩
  · refine ⟨_, cap, rfl, hcap, hl, hr, .inr ⟨g, 0, rfl, rfl, (Array.getElem?_eq_some_iff.1 hgb).1, ?_⟩⟩
    rcases hs with ⟨e, _⟩ | ⟨ad, cap', e, hc⟩
    · simp at e
    · simp at e
      obtain ⟨rfl, rfl⟩ := e
      intro i x hi
      have := hc i x hi
      rwa [add_cell] at this
set_option maxHeartbeats 1000000 in
theorem read_new {W : World} {u : Value} {q : List Int} (hl : q.length ≤ 1048576) (hr : ∀ x ∈ q, 0 ≤ x ∧ x ≤ 255) (hu : Src W u q) :
    Calls Try.prog 15 #[u] W fun e w' => ∃ b D, e = .returned (.pointer (some ⟨b, 0, none⟩)) ∧ RdAt w' b D (some q) ∧ W.heap.size ≤ b ∧ D ≠ some b ∧ (∀ d, D = some d → W.heap.size ≤ d ∧ d < w'.heap.size) ∧ Below W.heap.size W w' := by
  go_enter Try.func15, Try.ntmps15
  go_wp2_with (go_at_call 40; refine (clone_any hl hu).mono ?_; rintro e w1 ⟨u', rfl, ho, hb⟩; obtain ⟨a, cap, rfl⟩ := row_slice ho)
  go_ret
  have hB := byt_own ho hl hr
  have hlt := ho.lt
  refine ⟨w1.heap.size, _, rfl, ⟨_, World.alloc_heap_new w1 _, hB.kept (World.grownBy_alloc w1 _ none) (by cases a <;> simp [Value.ownBlock])⟩, hb.size, ?_, ?_, ba hb _⟩
  · intro e; have := (hlt _ e).2; omega
  · intro d hd; have := hlt d hd; simp; omega
set_option maxHeartbeats 1000000 in
theorem wDone_any {W : World} {b base : Nat} {v : Value} {p : List Int} (hW : WrAt W b base v p) (hl : p.length ≤ 1048576) :
    Calls Try.prog 13 #[.pointer (some ⟨b, 0, none⟩)] W fun e w' => ∃ u', e = .returned u' ∧ w'.ownsRow W.heap.size 5 1 u' p.length (encB p) ∧ Below W.heap.size W w' := by
  obtain ⟨hblk, hrow⟩ := hW
  obtain ⟨c, f⟩ := cells_of_block hblk
  have hs := src_own hrow
  obtain ⟨a, cap, rfl⟩ := row_slice hrow
  go_enter Try.func13, Try.ntmps13
  go_wp2_with (go_at_call 40; refine (clone_any hl hs).mono ?_; rintro e w1 ⟨u', rfl, ho, hb⟩)
  go_ret
  exact ⟨u', rfl, ho, hb⟩

theorem bytes_own (x0 x1 x2 x3 : Int) (hx : Lim x0 x1 x2 x3) (w : World) :
    Calls Try.prog 51 #[.agg #[.int .u64 x0, .int .u64 x1, .int .u64 x2, .int .u64 x3]] w fun e w' => ∃ v : Value, e = .returned v ∧ w'.ownsRow w.heap.size 5 1 v (byL (val x0 x1 x2 x3) 32).length (encB (byL (val x0 x1 x2 x3) 32)) ∧ Below w.heap.size w w' := by
  refine (bytes_any x0 x1 x2 x3 hx w).mono ?_
  rintro e w' ⟨v, rfl, hr, hb⟩
  rw [bytesB_byL hx] at hr
  exact ⟨v, rfl, hr, hb⟩
set_option maxHeartbeats 2000000 in
theorem wNum_any {W : World} {b base : Nat} {v : Value} {p : List Int} (x0 x1 x2 x3 : Int) (hx : Lim x0 x1 x2 x3) (hW : WrAt W b base v p) (hbase : base ≤ W.heap.size) (hl : p.length + 33 ≤ 1048576) :
    Calls Try.prog 30 #[.pointer (some ⟨b, 0, none⟩), .agg #[.int .u64 x0, .int .u64 x1, .int .u64 x2, .int .u64 x3]] W fun e w' => e = .returned (.pointer (some ⟨b, 0, none⟩)) ∧ ∃ v', WrAt w' b base v' (p ++ (((byL (val x0 x1 x2 x3) 32).length : Int) :: byL (val x0 x1 x2 x3) 32)) ∧ WF W w' b v v' := by
  have hlen := byL_len (val x0 x1 x2 x3) 32
  generalize hq : byL (val x0 x1 x2 x3) 32 = q at *
  have hB0 := bytes_own x0 x1 x2 x3 hx
  rw [hq] at hB0
  have hg0 := World.grownBy_alloc W (.cells #[.int .u64 x0, .int .u64 x1, .int .u64 x2, .int .u64 x3] 33) none
  have hW0 := hW.kept hg0 (by simp) (by cases v.ownBlock <;> simp)
  have hl1 : (q.length : Int) ≤ 32 := by omega
  have hw8 : IntKind.u8.wrap (q.length : Int) = (q.length : Int) := by rw [IntKind.wrap_u8]; omega
  clear hq
  go_enter Try.func30, Try.ntmps30
  go_wp2_with (first
    | (go_at_call 51; refine (hB0 _).mono ?_; rintro e w1 ⟨u, rfl, ho1, hb1⟩; have hW1 := hW0.kept (grown_none hb1) (by simp) (by cases v.ownBlock <;> simp); have hz1 := hb1.size; simp at hz1; obtain ⟨a1, c1, rfl⟩ := row_slice ho1)
    | (go_at_call 25; refine (wByte_any (q.length : Int) hW1 (by omega) (by omega)).mono ?_; rintro e w2 ⟨rfl, v2, hW2, hF2⟩)
    | (go_at_call 49; refine (lay_any hW2 (by have := hF2.size; omega) (by simp; omega) (src_own (hF2.row ho1 (by have := hW.lt; intro e; have := ho1.lt b e; simp at this; omega) (by cases e : v.ownBlock with | none => (cases (Value.slice a1 q.length c1).ownBlock <;> simp) | some g => (right; intro e2; have := hW.2.lt g e; have := ho1.lt g e2; simp at this; omega))))).mono ?_; rintro e w3 ⟨rfl, v3, hW3, hF3⟩))
  go_ret
  refine ⟨rfl, v3, ?_, WF.pre (World.grownBy.trans hg0 (grown_none hb1)) (hF2.trans hF3)⟩
  rw [List.append_assoc] at hW3
  exact hW3
end Go.Proofs.Ytoikklbnbgoecaa
