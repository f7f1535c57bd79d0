
/- num.Bytes. -/
import Derived.Test.YtgphdioolcfmmaaN2
import Derived.Test.YtgphdioolcfmmaaX1
import Derived.RangeFuncBox
import Derived.Maps.AppendAt
set_option linter.unusedSimpArgs false
set_option linter.unusedVariables false
set_option maxRecDepth 20000
namespace Go.Proofs.Ytgphdioolcfmmaa
open Go.RowKit Go.Shelf
attribute [local go_sem] Oper.semAt_some

/-- One byte more, none too many ahead. -/
def stepB (p : List Int) (b : Int) : List Int := if p = [] ∧ b = 0 then p else p ++ [b]
/-- The first j bytes of a part, the highest first. -/
def partB (p : List Int) (v : Int) : Nat → List Int
  | 0 => p
  | j + 1 => stepB (partB p v j) (v / 2 ^ (56 - 8 * j) % 256)
def bytesB (pre : List Limb) : List Int := pre.foldl (fun p x => partB p x.1.2 8) []
theorem bytesB_snoc (pre : List Limb) (x : Limb) : bytesB (pre ++ [x]) = partB (bytesB pre) x.1.2 8 := by simp [bytesB]
theorem stepB_len (p : List Int) (b : Int) : (stepB p b).length ≤ p.length + 1 := by unfold stepB; split <;> simp
theorem partB_len (p : List Int) (v : Int) (j : Nat) : (partB p v j).length ≤ p.length + j := by
  induction j with
  | zero => simp [partB]
  | succ j ih => have := stepB_len (partB p v j) (v / 2 ^ (56 - 8 * j) % 256); simp only [partB]; omega
theorem bytesB_len' (pre : List Limb) (p : List Int) : (pre.foldl (fun p x => partB p x.1.2 8) p).length ≤ p.length + 8 * pre.length := by
  induction pre generalizing p with
  | nil => simp
  | cons x pre ih => have := ih (partB p x.1.2 8); have := partB_len p x.1.2 8; simp only [List.foldl_cons, List.length_cons]; omega
theorem bytesB_len (pre : List Limb) : (bytesB pre).length ≤ 8 * pre.length := by have := bytesB_len' pre []; simpa [bytesB] using this
theorem block_row {W w1 : World} {B : Nat} {o tmp : Obj} {r : Option Nat} (h : W.heap[B]? = some o) (hr : some B ≠ r) (hg : (W.alloc tmp).grownBy w1 r) : w1.heap[B]? = some o := by
  have hl : B < W.heap.size := (Array.getElem?_eq_some_iff.1 h).1
  exact (hg.block B (by simp; omega) hr).trans ((World.grownBy_alloc W tmp none).block B hl (by simp) |>.trans h)
theorem step_hit {p : List Int} {b : Int} (h : ¬ (p = [] ∧ b = 0)) : stepB p b = p ++ [b] := if_neg h
theorem step_miss {p : List Int} {b : Int} (h : p = [] ∧ b = 0) : stepB p b = p := if_pos h
theorem encB_snoc (p : List Int) (b : Int) : encB (p ++ [b]) = encB p ++ [.int .u8 b] := by simp [encB]

set_option maxRecDepth 100000 in
set_option maxHeartbeats 4000000 in
theorem bytes_any (x0 x1 x2 x3 : Int) (hx : Lim x0 x1 x2 x3) (w : World) :
    Calls Try.prog 70 #[.agg #[.int .u64 x0, .int .u64 x1, .int .u64 x2, .int .u64 x3]] w fun e w' => ∃ v : Value, e = .returned v ∧ w'.ownsRow w.heap.size 5 1 v (bytesB (limbsDown hx)).length (encB (bytesB (limbsDown hx))) ∧ Below w.heap.size w w' := by
  refine (callsIn_wide (n := 8)).1 ?_
  have hfn : ∀ f, Fence.wide.fn f := fun _ => trivial
  obtain ⟨i0, hi, hz0, hz1, hz2⟩ := info_parts u8_info
  refine callsIn_of_wp_marks Try.func70 rfl trivial ?_ rfl
  simp only [Try.ntmps70, List.size_toArray, List.length_cons, List.length_nil, Nat.reduceAdd, Nat.reduceSub, Array.replicate_succ, Array.replicate_zero, List.push_toArray, List.append_toArray, List.nil_append, List.cons_append]
  gi_wp2_with (gi_at_call 81; refine (callsIn_wide.2 (down_any _ _ _ _ _)).mono ?_; rintro e w' ⟨rfl, rfl⟩)
  refine wpIn_rangeFunc_ownF rfl (by omega) (gf := 88) (lb := #[.pointer (some ⟨w.heap.size + 1 + 1, 0, none⟩)]) rfl trivial (enters_of Try.func88 (by kernel_rfl) rfl)
    (down_stops 7 (by omega) (w.heap.size + 1 + 1) hx 50 _ (by (repeat (first | (with_reducible exact al_at (by simp [pad_size])) | (with_reducible refine Eq.trans (dr_blk _ _) ?_) | (with_reducible refine Eq.trans (al_old (by first | omega | (simp [pad_size]; done) | (simp [pad_size]; omega))) ?_) | (with_reducible refine Eq.trans (pad_block (by first | omega | (simp [pad_size]; done) | (simp [pad_size]; omega)) (by first | omega | (simp [pad_size]; done) | (simp [pad_size]; omega))) ?_) | (with_reducible assumption))))) (fun h k => Eq.trans k h) (fun W l o o' hl h _ _ => ?hkb) (Below.refl _ _) (fun _ => rfl)
    (fun pre W => ((∃ u, Boxed W (w.heap.size + 1) 81 u ∧ W.ownsRow w.heap.size 5 1 u (bytesB pre).length (encB (bytesB pre)) ∧ True) ∧ W.heap[w.heap.size + 1 + 1]? = some (.cells #[.int .u64 x0, .int .u64 x1, .int .u64 x2, .int .u64 x3] 50 (0, 0))) ∧ Below w.heap.size w W)
    (fun c pre W => False)
    (OwnFrom.and (Own.from (fun s A B row hs hg hr => ⟨holdsRow_own w.heap.size (w.heap.size + 1) 81 5 1 (fun pre => (bytesB pre).length) (fun pre => encB (bytesB pre)) (fun _ _ => True) s A B row hs.1 hg hr, block_kept hs.2 hg hr⟩) _) (ownFrom_below (Nat.le_refl _) (by simp; omega)))
    (fun _ _ _ _ _ hs _ _ => hs)
    ⟨⟨⟨_, by show _ = some (Obj.cells #[.slice none 0 0] 81 (0, 0)); (repeat (first | (with_reducible exact al_at (by simp [pad_size])) | (with_reducible refine Eq.trans (dr_blk _ _) ?_) | (with_reducible refine Eq.trans (al_old (by first | omega | (simp [pad_size]; done) | (simp [pad_size]; omega))) ?_) | (with_reducible refine Eq.trans (pad_block (by first | omega | (simp [pad_size]; done) | (simp [pad_size]; omega)) (by first | omega | (simp [pad_size]; done) | (simp [pad_size]; omega))) ?_) | (with_reducible assumption))), World.ownsRow_nil _ _ _ _, trivial⟩, by (repeat (first | (with_reducible exact al_at (by simp [pad_size])) | (with_reducible refine Eq.trans (dr_blk _ _) ?_) | (with_reducible refine Eq.trans (al_old (by first | omega | (simp [pad_size]; done) | (simp [pad_size]; omega))) ?_) | (with_reducible refine Eq.trans (pad_block (by first | omega | (simp [pad_size]; done) | (simp [pad_size]; omega)) (by first | omega | (simp [pad_size]; done) | (simp [pad_size]; omega))) ?_) | (with_reducible assumption)))⟩, by (repeat (first | (with_reducible exact Below.refl _ _) | (with_reducible assumption) | (with_reducible apply bd) | (with_reducible apply ba) | (with_reducible refine bp ?_ (by first | omega | (simp [pad_size]; done) | (simp [pad_size]; omega)) _ _) | (with_reducible refine bs ?_ (by first | omega | (simp [pad_size]; done) | (simp [pad_size]; omega)) _) | (with_reducible refine bt ?_ (by assumption))))⟩
    (fun x => { tmps := #[.agg #[.int .u64 x0, .int .u64 x1, .int .u64 x2, .int .u64 x3], .pointer (some ⟨w.heap.size, 0, none⟩), .slice none 0 0, .pointer (some ⟨w.heap.size + 1, 0, none⟩), undef, .int .u64 x.1.2, undef, undef, .agg #[.int .u64 x0, .int .u64 x1, .int .u64 x2, .int .u64 x3], .func (.func 88) #[] #[.pointer (some ⟨w.heap.size + 1 + 1, 0, none⟩)], .int .i64 (x.1.1 : Int), .int .u64 x.1.2, undef, undef, undef, undef, undef, undef, undef, undef, undef, undef, undef, undef, undef, undef, undef, undef, undef, undef, undef, undef], defers := [] }) ?assign ?body ?done ?stop
  case hkb =>
    unfold KpB
    rw [World.putObj_heap_other]
    intro e; simp at hl; omega
  case assign =>
    intro l x W K hK
    gi_wp2
    exact hK
  case body =>
    rintro l pre ⟨⟨i, v⟩, hi', hv⟩ W ⟨⟨⟨u, hu, hrow, -⟩, hblk⟩, hB⟩ hlen
    dsimp only at hi' hv
    gi_wp2
    gi_loopw [6] (fun s wr => ∃ j : Nat, j ≤ 8 ∧ s = .int .i64 (56 - 8 * (j : Int)) ∧ (∃ u, Boxed wr (w.heap.size + 1) 81 u ∧ wr.ownsRow w.heap.size 5 1 u (partB (bytesB pre) v j).length (encB (partB (bytesB pre) v j))) ∧ wr.heap[w.heap.size + 1 + 1]? = some (.cells #[.int .u64 x0, .int .u64 x1, .int .u64 x2, .int .u64 x3] 50 (0, 0)) ∧ Below w.heap.size w wr ∧ KeepsOthers W wr) (fun s _ => (intOf s + 8).toNat)
    case atStart => exact ⟨0, by omega, rfl, ⟨u, hu, hrow⟩, hblk, hB, KeepsOthers.refl _⟩
    case round =>
      clear hu hrow hB
      obtain ⟨j, hj, rfl, ⟨u, hu, hrow⟩, hblk1, hB, hko⟩ := hrel
      by_cases hlt : j < 8
      · obtain ⟨s, hs⟩ : ∃ s : Nat, s = 56 - 8 * j := ⟨_, rfl⟩
        have hsi : (56 - 8 * (j : Int)) = (s : Int) := by omega
        rw [hsi]
        obtain ⟨b, hb⟩ : ∃ b, b = v / 2 ^ s % 256 := ⟨_, rfl⟩
        have hw8 : v / 2 ^ s % 256 = b := hb.symm
        have hs56 : s ≤ 56 := by omega
        have hpl : (partB (bytesB pre) v j).length ≤ 40 := by have := partB_len (bytesB pre) v j; have := bytesB_len pre; omega
        have hc := hu.cell
        have hnx : partB (bytesB pre) v (j + 1) = stepB (partB (bytesB pre) v j) b := by rw [hb, hs]; rfl
        have hnr := not_row (e := 5) hblk1 (by decide) hrow
        have hs' : Hid (s = 56 - 8 * j) := hs
        clear hb hs hsi
        generalize partB (bytesB pre) v j = p at *
        by_cases hm : p = [] ∧ b = 0
        · obtain ⟨rfl, rfl⟩ := hm
          obtain ⟨a', cap', rfl⟩ := row_slice hrow
          gi_wp2
          go_roundw
          case rel => exact ⟨j + 1, by omega, by have := hs'.out; go_num, ⟨_, hu, by rw [hnx, step_miss ⟨rfl, rfl⟩]; exact hrow⟩, hblk1, hB, hko⟩
          case measure => have := hs'.out; simp [intOf]; omega
        obtain ⟨k, hk⟩ : ∃ k, k = p.length := ⟨_, rfl⟩
        have hk' : Hid (k = p.length) := hk
        rw [← hk] at hrow hpl
        clear hk
        obtain ⟨a', cap', rfl⟩ := row_slice hrow
        by_cases hk0 : k = 0
        · subst hk0
          have hb0 : ¬ b = 0 := fun e => hm ⟨List.eq_nil_of_length_eq_zero hk'.out.symm, e⟩
          gi_wp2_with (gi_at_builtin; refine wpListIn_append_own _ rfl _ _ 81 rfl w.heap.size 5 i0 (.int .u8 0) 1 1 Try.underlying81 hi hz0 hz1 hz2 rfl (by decide) _ _ _ rfl (hrow.alloc _) ⟨wr.heap.size, 0, none⟩ 1 1 [.int .u8 b] rfl rfl (cell_one_new _ _ _) (by simp [Value.oneCell']) (by unfold maxLen; omega) (by omega) (by have := hB.size; simp; omega) ?_; intro v' w1 hown' hgrow _; obtain ⟨g', cap'', rfl⟩ := ownsRow_succ hown'; obtain ⟨hv1, hv2, hr2, hk2, hb2⟩ := hu.appended (by decide) hrow hB.size (by omega) hown' hgrow; have hc1 := hv1.cell; have hf1 := hv1.frozen; have hbk := block_row hblk1 hnr hgrow)
          go_roundw
          case rel => exact ⟨j + 1, by omega, by have := hs'.out; go_num, ⟨_, hv2, by rw [hnx, step_hit hm, List.length_append, encB_snoc, ← hk'.out]; exact hr2⟩, (Below.heap_setCell _ _ _ _ (by simp)).trans hbk, hB.trans hb2, hko.trans hk2⟩
          case measure => have := hs'.out; simp [intOf]; omega
        · have hkp : 0 < (k : Int) := by omega
          gi_wp2_with (gi_at_builtin; refine wpListIn_append_own _ rfl _ _ 81 rfl w.heap.size 5 i0 (.int .u8 0) 1 1 Try.underlying81 hi hz0 hz1 hz2 rfl (by decide) _ _ _ rfl (hrow.alloc _) ⟨wr.heap.size, 0, none⟩ 1 1 [.int .u8 b] rfl rfl (cell_one_new _ _ _) (by simp [Value.oneCell']) (by unfold maxLen; omega) (by omega) (by have := hB.size; simp; omega) ?_; intro v' w1 hown' hgrow _; obtain ⟨g', cap'', rfl⟩ := ownsRow_succ hown'; obtain ⟨hv1, hv2, hr2, hk2, hb2⟩ := hu.appended (by decide) hrow hB.size (by omega) hown' hgrow; have hc1 := hv1.cell; have hf1 := hv1.frozen; have hbk := block_row hblk1 hnr hgrow)
          go_roundw
          case rel => exact ⟨j + 1, by omega, by have := hs'.out; go_num, ⟨_, hv2, by rw [hnx, step_hit hm, List.length_append, encB_snoc, ← hk'.out]; exact hr2⟩, (Below.heap_setCell _ _ _ _ (by simp)).trans hbk, hB.trans hb2, hko.trans hk2⟩
          case measure => have := hs'.out; simp [intOf]; omega
      · have hj8 : j = 8 := by omega
        subst hj8
        gi_wp2
        exact ⟨hko, hblk1.trans hblk.symm, ⟨⟨u, hu, by rw [bytesB_snoc]; exact hrow, trivial⟩, hblk1⟩, hB⟩
  case done =>
    rintro D ys W hD rfl ⟨⟨⟨u, hu, hrow, -⟩, hblk⟩, hB⟩ hK
    have hc := hu.cell
    gi_wp2
    refine ⟨by simp, .inl ⟨_, _, rfl, run_takeDeferred hK, ?_⟩⟩
    exact ⟨_, results_tmp rfl _ _ _, u, rfl, ownsRow_putObj hrow _ hK rfl, hB.trans (belowK_b (w := w) (Nat.le_refl _) W D _ _ (by simp at hD; omega) hK rfl rfl)⟩
  case stop =>
    rintro D c pre W _ _ h _
    exact h.elim
end Go.Proofs.Ytgphdioolcfmmaa
