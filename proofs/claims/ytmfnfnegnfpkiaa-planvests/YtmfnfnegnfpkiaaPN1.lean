
/- Several texts, one behind the other: B1, B2, B3, D8, F1, F2, D9, N1, E1, E2, E3, E4, VE2, VE3, VE4, VE7. -/
import Derived.Test.YtmfnfnegnfpkiaaPM6
import Derived.Test.YtmfnfnegnfpkiaaN2
import Derived.RangeFuncBox
import Derived.Maps.AppendAt
import Derived.Test.YtmfnfnegnfpkiaaD7
import Derived.Test.YtmfnfnegnfpkiaaH
import Derived.Test.YtmfnfnegnfpkiaaV1

/- num.Bytes. -/
set_option linter.unusedSimpArgs false
set_option linter.unusedVariables false
set_option maxRecDepth 20000
namespace Go.Proofs.Ytmfnfnegnfpkiaa
open Go.RowKit Go.Shelf
attribute [local go_sem] Oper.semAt_some

/-- One byte more, none too many ahead. -/
def stepB (p : List Int) (b : Int) : List Int := if p = [] ∧ b = 0 then p else p ++ [b]
/-- The first j bytes of a part, the highest first. -/
def partB (p : List Int) (v : Int) : Nat → List Int
  | 0 => p
  | j + 1 => stepB (partB p v j) (v / 2 ^ (56 - 8 * j) % 256)
def bytesB (pre : List Limb) : List Int := pre.foldl (fun p x => partB p x.1.2 8) []
theorem bytesB_snoc (pre : List Limb) (x : Limb) : bytesB (pre ++ [x]) = partB (bytesB pre) x.1.2 8 := by simp [bytesB]
theorem stepB_len (p : List Int) (b : Int) : (stepB p b).length ≤ p.length + 1 := by unfold stepB; split <;> simp
theorem partB_len (p : List Int) (v : Int) (j : Nat) : (partB p v j).length ≤ p.length + j := by
  induction j with
  | zero => simp [partB]
  | succ j ih => have := stepB_len (partB p v j) (v / 2 ^ (56 - 8 * j) % 256); simp only [partB]; omega
theorem bytesB_len' (pre : List Limb) (p : List Int) : (pre.foldl (fun p x => partB p x.1.2 8) p).length ≤ p.length + 8 * pre.length := by
  induction pre generalizing p with
  | nil => simp
  | cons x pre ih => have := ih (partB p x.1.2 8); have := partB_len p x.1.2 8; simp only [List.foldl_cons, List.length_cons]; omega
theorem bytesB_len (pre : List Limb) : (bytesB pre).length ≤ 8 * pre.length := by have := bytesB_len' pre []; simpa [bytesB] using this
theorem block_row {W w1 : World} {B : Nat} {o tmp : Obj} {r : Option Nat} (h : W.heap[B]? = some o) (hr : some B ≠ r) (hg : (W.alloc tmp).grownBy w1 r) : w1.heap[B]? = some o := by
  have hl : B < W.heap.size := (Array.getElem?_eq_some_iff.1 h).1
  exact (hg.block B (by simp; omega) hr).trans ((World.grownBy_alloc W tmp none).block B hl (by simp) |>.trans h)
theorem step_hit {p : List Int} {b : Int} (h : ¬ (p = [] ∧ b = 0)) : stepB p b = p ++ [b] := if_neg h
theorem step_miss {p : List Int} {b : Int} (h : p = [] ∧ b = 0) : stepB p b = p := if_pos h
theorem encB_snoc (p : List Int) (b : Int) : encB (p ++ [b]) = encB p ++ [.int .u8 b] := by simp [encB]

set_option maxRecDepth 100000 in
set_option maxHeartbeats 4000000 in
theorem bytes_any (x0 x1 x2 x3 : Int) (hx : Lim x0 x1 x2 x3) (w : World) :
    Calls Try.prog 110 #[.agg #[.int .u64 x0, .int .u64 x1, .int .u64 x2, .int .u64 x3]] w fun e w' => ∃ v : Value, e = .returned v ∧ w'.ownsRow w.heap.size 5 1 v (bytesB (limbsDown hx)).length (encB (bytesB (limbsDown hx))) ∧ Below w.heap.size w w' := by
  refine (callsIn_wide (n := 8)).1 ?_
  have hfn : ∀ f, Fence.wide.fn f := fun _ => trivial
  obtain ⟨i0, hi, hz0, hz1, hz2⟩ := info_parts u8_info
  refine callsIn_of_wp_marks Try.func110 rfl trivial ?_ rfl
  simp only [Try.ntmps110, List.size_toArray, List.length_cons, List.length_nil, Nat.reduceAdd, Nat.reduceSub, Array.replicate_succ, Array.replicate_zero, List.push_toArray, List.append_toArray, List.nil_append, List.cons_append]
  gi_wp2_with (gi_at_call 117; refine (callsIn_wide.2 (down_any _ _ _ _ _)).mono ?_; rintro e w' ⟨rfl, rfl⟩)
  refine wpIn_rangeFunc_ownF rfl (by omega) (gf := 126) (lb := #[.pointer (some ⟨w.heap.size + 1 + 1, 0, none⟩)]) rfl trivial (enters_of Try.func126 (by kernel_rfl) rfl)
    (down_stops 7 (by omega) (w.heap.size + 1 + 1) hx 69 _ (by (repeat (first | (with_reducible exact al_at (by simp [pad_size])) | (with_reducible refine Eq.trans (dr_blk _ _) ?_) | (with_reducible refine Eq.trans (al_old (by first | omega | (simp [pad_size]; done) | (simp [pad_size]; omega))) ?_) | (with_reducible refine Eq.trans (pad_block (by first | omega | (simp [pad_size]; done) | (simp [pad_size]; omega)) (by first | omega | (simp [pad_size]; done) | (simp [pad_size]; omega))) ?_) | (with_reducible assumption))))) (fun h k => Eq.trans k h) (fun W l o o' hl h _ _ => ?hkb) (Below.refl _ _) (fun _ => rfl)
    (fun pre W => ((∃ u, Boxed W (w.heap.size + 1) 48 u ∧ W.ownsRow w.heap.size 5 1 u (bytesB pre).length (encB (bytesB pre)) ∧ True) ∧ W.heap[w.heap.size + 1 + 1]? = some (.cells #[.int .u64 x0, .int .u64 x1, .int .u64 x2, .int .u64 x3] 69 (0, 0))) ∧ Below w.heap.size w W)
    (fun c pre W => False)
    (OwnFrom.and (Own.from (fun s A B row hs hg hr => ⟨holdsRow_own w.heap.size (w.heap.size + 1) 48 5 1 (fun pre => (bytesB pre).length) (fun pre => encB (bytesB pre)) (fun _ _ => True) s A B row hs.1 hg hr, block_kept hs.2 hg hr⟩) _) (ownFrom_below (Nat.le_refl _) (by simp; omega)))
    (fun _ _ _ _ _ hs _ _ => hs)
    ⟨⟨⟨_, by show _ = some (Obj.cells #[.slice none 0 0] 48 (0, 0)); (repeat (first | (with_reducible exact al_at (by simp [pad_size])) | (with_reducible refine Eq.trans (dr_blk _ _) ?_) | (with_reducible refine Eq.trans (al_old (by first | omega | (simp [pad_size]; done) | (simp [pad_size]; omega))) ?_) | (with_reducible refine Eq.trans (pad_block (by first | omega | (simp [pad_size]; done) | (simp [pad_size]; omega)) (by first | omega | (simp [pad_size]; done) | (simp [pad_size]; omega))) ?_) | (with_reducible assumption))), World.ownsRow_nil _ _ _ _, trivial⟩, by (repeat (first | (with_reducible exact al_at (by simp [pad_size])) | (with_reducible refine Eq.trans (dr_blk _ _) ?_) | (with_reducible refine Eq.trans (al_old (by first | omega | (simp [pad_size]; done) | (simp [pad_size]; omega))) ?_) | (with_reducible refine Eq.trans (pad_block (by first | omega | (simp [pad_size]; done) | (simp [pad_size]; omega)) (by first | omega | (simp [pad_size]; done) | (simp [pad_size]; omega))) ?_) | (with_reducible assumption)))⟩, by (repeat (first | (with_reducible exact Below.refl _ _) | (with_reducible assumption) | (with_reducible apply bd) | (with_reducible apply ba) | (with_reducible refine bp ?_ (by first | omega | (simp [pad_size]; done) | (simp [pad_size]; omega)) _ _) | (with_reducible refine bs ?_ (by first | omega | (simp [pad_size]; done) | (simp [pad_size]; omega)) _) | (with_reducible refine bt ?_ (by assumption))))⟩
    (fun x => { tmps := #[.agg #[.int .u64 x0, .int .u64 x1, .int .u64 x2, .int .u64 x3], .pointer (some ⟨w.heap.size, 0, none⟩), .slice none 0 0, .pointer (some ⟨w.heap.size + 1, 0, none⟩), undef, .int .u64 x.1.2, undef, undef, .agg #[.int .u64 x0, .int .u64 x1, .int .u64 x2, .int .u64 x3], .func (.func 126) #[] #[.pointer (some ⟨w.heap.size + 1 + 1, 0, none⟩)], .int .i64 (x.1.1 : Int), .int .u64 x.1.2, undef, undef, undef, undef, undef, undef, undef, undef, undef, undef, undef, undef, undef, undef, undef, undef, undef, undef, undef, undef], defers := [] }) ?assign ?body ?done ?stop
  case hkb =>
    unfold KpB
    rw [World.putObj_heap_other]
    intro e; simp at hl; omega
  case assign =>
    intro l x W K hK
    gi_wp2
    exact hK
  case body =>
    rintro l pre ⟨⟨i, v⟩, hi', hv⟩ W ⟨⟨⟨u, hu, hrow, -⟩, hblk⟩, hB⟩ hlen
    dsimp only at hi' hv
    gi_wp2
    gi_loopw [6] (fun s wr => ∃ j : Nat, j ≤ 8 ∧ s = .int .i64 (56 - 8 * (j : Int)) ∧ (∃ u, Boxed wr (w.heap.size + 1) 48 u ∧ wr.ownsRow w.heap.size 5 1 u (partB (bytesB pre) v j).length (encB (partB (bytesB pre) v j))) ∧ wr.heap[w.heap.size + 1 + 1]? = some (.cells #[.int .u64 x0, .int .u64 x1, .int .u64 x2, .int .u64 x3] 69 (0, 0)) ∧ Below w.heap.size w wr ∧ KeepsOthers W wr) (fun s _ => (intOf s + 8).toNat)
    case atStart => exact ⟨0, by omega, rfl, ⟨u, hu, hrow⟩, hblk, hB, KeepsOthers.refl _⟩
    case round =>
      clear hu hrow hB
      obtain ⟨j, hj, rfl, ⟨u, hu, hrow⟩, hblk1, hB, hko⟩ := hrel
      by_cases hlt : j < 8
      · obtain ⟨s, hs⟩ : ∃ s : Nat, s = 56 - 8 * j := ⟨_, rfl⟩
        have hsi : (56 - 8 * (j : Int)) = (s : Int) := by omega
        rw [hsi]
        obtain ⟨b, hb⟩ : ∃ b, b = v / 2 ^ s % 256 := ⟨_, rfl⟩
        have hw8 : v / 2 ^ s % 256 = b := hb.symm
        have hs56 : s ≤ 56 := by omega
        have hpl : (partB (bytesB pre) v j).length ≤ 40 := by have := partB_len (bytesB pre) v j; have := bytesB_len pre; omega
        have hc := hu.cell
        have hnx : partB (bytesB pre) v (j + 1) = stepB (partB (bytesB pre) v j) b := by rw [hb, hs]; rfl
        have hnr := not_row (e := 5) hblk1 (by decide) hrow
        have hs' : Hid (s = 56 - 8 * j) := hs
        clear hb hs hsi
        generalize partB (bytesB pre) v j = p at *
        by_cases hm : p = [] ∧ b = 0
        · obtain ⟨rfl, rfl⟩ := hm
          obtain ⟨a', cap', rfl⟩ := row_slice hrow
          gi_wp2
          go_roundw
          case rel => exact ⟨j + 1, by omega, by have := hs'.out; go_num, ⟨_, hu, by rw [hnx, step_miss ⟨rfl, rfl⟩]; exact hrow⟩, hblk1, hB, hko⟩
          case measure => have := hs'.out; simp [intOf]; omega
        obtain ⟨k, hk⟩ : ∃ k, k = p.length := ⟨_, rfl⟩
        have hk' : Hid (k = p.length) := hk
        rw [← hk] at hrow hpl
        clear hk
        obtain ⟨a', cap', rfl⟩ := row_slice hrow
        by_cases hk0 : k = 0
        · subst hk0
          have hb0 : ¬ b = 0 := fun e => hm ⟨List.eq_nil_of_length_eq_zero hk'.out.symm, e⟩
          gi_wp2_with (gi_at_builtin; refine wpListIn_append_own _ rfl _ _ 48 rfl w.heap.size 5 i0 (.int .u8 0) 1 1 Try.underlying48 hi hz0 hz1 hz2 rfl (by decide) _ _ _ rfl (hrow.alloc _) ⟨wr.heap.size, 0, none⟩ 1 1 [.int .u8 b] rfl rfl (cell_one_new _ _ _) (by simp [Value.oneCell']) (by unfold maxLen; omega) (by omega) (by have := hB.size; simp; omega) ?_; intro v' w1 hown' hgrow _; obtain ⟨g', cap'', rfl⟩ := ownsRow_succ hown'; obtain ⟨hv1, hv2, hr2, hk2, hb2⟩ := hu.appended (by decide) hrow hB.size (by omega) hown' hgrow; have hc1 := hv1.cell; have hf1 := hv1.frozen; have hbk := block_row hblk1 hnr hgrow)
          go_roundw
          case rel => exact ⟨j + 1, by omega, by have := hs'.out; go_num, ⟨_, hv2, by rw [hnx, step_hit hm, List.length_append, encB_snoc, ← hk'.out]; exact hr2⟩, (Below.heap_setCell _ _ _ _ (by simp)).trans hbk, hB.trans hb2, hko.trans hk2⟩
          case measure => have := hs'.out; simp [intOf]; omega
        · have hkp : 0 < (k : Int) := by omega
          gi_wp2_with (gi_at_builtin; refine wpListIn_append_own _ rfl _ _ 48 rfl w.heap.size 5 i0 (.int .u8 0) 1 1 Try.underlying48 hi hz0 hz1 hz2 rfl (by decide) _ _ _ rfl (hrow.alloc _) ⟨wr.heap.size, 0, none⟩ 1 1 [.int .u8 b] rfl rfl (cell_one_new _ _ _) (by simp [Value.oneCell']) (by unfold maxLen; omega) (by omega) (by have := hB.size; simp; omega) ?_; intro v' w1 hown' hgrow _; obtain ⟨g', cap'', rfl⟩ := ownsRow_succ hown'; obtain ⟨hv1, hv2, hr2, hk2, hb2⟩ := hu.appended (by decide) hrow hB.size (by omega) hown' hgrow; have hc1 := hv1.cell; have hf1 := hv1.frozen; have hbk := block_row hblk1 hnr hgrow)
          go_roundw
          case rel => exact ⟨j + 1, by omega, by have := hs'.out; go_num, ⟨_, hv2, by rw [hnx, step_hit hm, List.length_append, encB_snoc, ← hk'.out]; exact hr2⟩, (Below.heap_setCell _ _ _ _ (by simp)).trans hbk, hB.trans hb2, hko.trans hk2⟩
          case measure => have := hs'.out; simp [intOf]; omega
      · have hj8 : j = 8 := by omega
        subst hj8
        gi_wp2
        exact ⟨hko, hblk1.trans hblk.symm, ⟨⟨u, hu, by rw [bytesB_snoc]; exact hrow, trivial⟩, hblk1⟩, hB⟩
  case done =>
    rintro D ys W hD rfl ⟨⟨⟨u, hu, hrow, -⟩, hblk⟩, hB⟩ hK
    have hc := hu.cell
    gi_wp2
    refine ⟨by simp, .inl ⟨_, _, rfl, run_takeDeferred hK, ?_⟩⟩
    exact ⟨_, results_tmp rfl _ _ _, u, rfl, ownsRow_putObj hrow _ hK rfl, hB.trans (belowK_b (w := w) (Nat.le_refl _) W D _ _ (by simp at hD; omega) hK rfl rfl)⟩
  case stop =>
    rintro D c pre W _ _ h _
    exact h.elim
end Go.Proofs.Ytmfnfnegnfpkiaa


/- The reference's Same, of bytes; num.Parse of "007". -/
namespace Go.Proofs.Ytmfnfnegnfpkiaa
open Go.RowKit

end Go.Proofs.Ytmfnfnegnfpkiaa

/- The law's own examples (halves). -/
namespace Go.Proofs.Ytmfnfnegnfpkiaa
open Go.RowKit

theorem lim_of {n : Int} (h : 0 ≤ n ∧ n < 18446744073709551616) : Lim n 0 0 0 := by unfold Lim; omega

theorem bytes_256 (w : World) : Calls Try.prog 110 #[.agg #[.int .u64 256, .int .u64 0, .int .u64 0, .int .u64 0]] w fun e w' => ∃ g cap, e = .returned (.slice (some ⟨g, 0, none⟩) 2 cap) ∧ IsBytes w' (.slice (some ⟨g, 0, none⟩) 2 cap) [1, 0] ∧ Below w.heap.size w w' := by
  have hx : Lim 256 0 0 0 := lim_of (by omega)
  refine (bytes_any 256 0 0 0 hx w).mono ?_
  rintro e w' ⟨v, rfl, hrow, hb⟩
  have hl : bytesB (limbsDown hx) = [1, 0] := by simp [bytesB, limbsDown, limb, partB, stepB]
  rw [hl] at hrow
  obtain ⟨g, cap, rfl⟩ := ownsRow_succ hrow
  exact ⟨g, cap, rfl, own_bytes (by simp) hrow, hb⟩

theorem md_ex {up : Bool} {n z0 z1 z2 z3 c : Int} (hz : Lim z0 z1 z2 z3) (h : MdS (val 7 0 0 0) (val 3 0 0 0) (val 2 0 0 0) up (val z0 z1 z2 z3) c) (hn : 0 ≤ n ∧ n < 18446744073709551616)
    (hu : ∀ q r : Int, 21 = q * 2 + r → 0 ≤ r → r < 2 → upI up q r = n) : z0 = n ∧ z1 = 0 ∧ z2 = 0 ∧ z3 = 0 ∧ c = 0 := by
  rw [val_of, val_of, val_of] at h
  rcases h with ⟨h, -⟩ | ⟨-, q, r, h1, h2, h3, h4, h5⟩
  · omega
  · rw [hu q r (by omega) h2 h3] at h5
    rcases h5 with ⟨-, rfl, h6⟩ | ⟨h6, -⟩
    · obtain ⟨a, b, c, d⟩ := val_inj hz (lim_of hn) (by rw [val_of]; exact h6)
      exact ⟨a, b, c, d, rfl⟩
    · omega
theorem muldiv_f (w : World) : Calls Try.prog 79 #[.agg #[.int .u64 7, .int .u64 0, .int .u64 0, .int .u64 0], .agg #[.int .u64 3, .int .u64 0, .int .u64 0, .int .u64 0], .agg #[.int .u64 2, .int .u64 0, .int .u64 0, .int .u64 0], .bool false] w fun e w' => e = .returned (.tuple #[.agg #[.int .u64 10, .int .u64 0, .int .u64 0, .int .u64 0], .int .i64 0]) ∧ Below w.heap.size w w' := by
  refine (muldiv_any 7 0 0 0 3 0 0 0 2 0 0 0 false (lim_of (by omega)) (lim_of (by omega)) (lim_of (by omega)) w).mono ?_
  rintro e w' ⟨z0, z1, z2, z3, c, rfl, hz, hs, hb⟩
  obtain ⟨rfl, rfl, rfl, rfl, rfl⟩ := md_ex (n := 10) hz hs (by decide) (by rintro q r h1 h2 h3; simp [upI]; omega)
  exact ⟨rfl, hb⟩
theorem muldiv_t (w : World) : Calls Try.prog 79 #[.agg #[.int .u64 7, .int .u64 0, .int .u64 0, .int .u64 0], .agg #[.int .u64 3, .int .u64 0, .int .u64 0, .int .u64 0], .agg #[.int .u64 2, .int .u64 0, .int .u64 0, .int .u64 0], .bool true] w fun e w' => e = .returned (.tuple #[.agg #[.int .u64 11, .int .u64 0, .int .u64 0, .int .u64 0], .int .i64 0]) ∧ Below w.heap.size w w' := by
  refine (muldiv_any 7 0 0 0 3 0 0 0 2 0 0 0 true (lim_of (by omega)) (lim_of (by omega)) (lim_of (by omega)) w).mono ?_
  rintro e w' ⟨z0, z1, z2, z3, c, rfl, hz, hs, hb⟩
  obtain ⟨rfl, rfl, rfl, rfl, rfl⟩ := md_ex (n := 11) hz hs (by decide) (by rintro q r h1 h2 h3; unfold upI; rw [if_pos ⟨rfl, by omega⟩]; omega)
  exact ⟨rfl, hb⟩

theorem lit2 (W : World) : IsBytes (W.alloc (.cells #[.int .u8 1, .int .u8 0] 5)) (.slice (some ⟨W.heap.size, 0, none⟩) 2 2) [1, 0] := by
  refine .inr ⟨W.heap.size, 0, 2, rfl, by simp, by simp, fun i x h => ?_⟩
  rw [(cells_of_block (World.alloc_heap_new W _)).1]
  match i, h with
  | 0, h => simp at h; subst h; rfl
  | 1, h => simp at h; subst h; rfl
  | i + 2, h => simp at h

end Go.Proofs.Ytmfnfnegnfpkiaa

/- The reference's Wide: the product's digits. -/
namespace Go.Proofs.Ytmfnfnegnfpkiaa
open Go.RowKit

def Z32 : Array Value := #[.int .u64 0, .int .u64 0, .int .u64 0, .int .u64 0, .int .u64 0, .int .u64 0, .int .u64 0, .int .u64 0, .int .u64 0, .int .u64 0, .int .u64 0, .int .u64 0, .int .u64 0, .int .u64 0, .int .u64 0, .int .u64 0, .int .u64 0, .int .u64 0, .int .u64 0, .int .u64 0, .int .u64 0, .int .u64 0, .int .u64 0, .int .u64 0, .int .u64 0, .int .u64 0, .int .u64 0, .int .u64 0, .int .u64 0, .int .u64 0, .int .u64 0, .int .u64 0]
theorem make32 (w : World) : (Instr.makeSlice 111 (.int .i64 32) (.int .i64 32)).run Try.prog w = .ok (.slice (some ⟨w.heap.size, 0, none⟩) 32 32) (w.alloc (.cells Z32 22)) := by kernel_rfl
theorem row32 (w : World) : (w.alloc (.cells Z32 22)).ownsRow w.heap.size 22 1 (.slice (some ⟨w.heap.size, 0, none⟩) 32 32) 32 (encU (fl (fun _ => 0) 32)) := by
  refine ⟨by simp [encU, fl], .inr ⟨w.heap.size, 32, Z32, rfl, Nat.le_refl _, World.alloc_heap_new w _, by omega, ?_⟩⟩
  exact ⟨by decide, by rfl, by rfl⟩
theorem sm_succ (dl : Nat → Int) (k : Nat) : sm dl (k + 1) = sm dl k + dl k * 65536 ^ k := rfl
theorem sm_zero (n : Nat) : sm (fun _ => 0) n = 0 := by
  induction n with
  | zero => rfl
  | succ n ih => simp [sm, ih]
theorem sm_upd_above {dl : Nat → Int} {n k : Nat} {u : Int} (h : n ≤ k) : sm (upd dl k u) n = sm dl n :=
  sm_congr n (fun i hi => by unfold upd; rw [if_neg (by omega)])
theorem upd_at (dl : Nat → Int) (k : Nat) (u : Int) : upd dl k u k = u := if_pos rfl
theorem upd_ne {dl : Nat → Int} {k j : Nat} {u : Int} (h : j ≠ k) : upd dl k u j = dl j := if_neg h
theorem sm_stop {dl : Nat → Int} {m : Nat} (n : Nat) (h : ∀ j, m ≤ j → j < m + n → dl j = 0) : sm dl (m + n) = sm dl m := by
  induction n with
  | zero => rfl
  | succ n ih => rw [← Nat.add_assoc]; simp only [sm]; rw [ih (fun j h1 h2 => h j h1 (by omega)), h (m + n) (by omega) (by omega)]; omega

theorem mul_lim {a b : Int} (ha : 0 ≤ a ∧ a < 65536) (hb : 0 ≤ b ∧ b < 65536) : 0 ≤ a * b ∧ a * b ≤ 4294836225 := by
  refine ⟨Int.mul_nonneg ha.1 hb.1, ?_⟩
  have h1 : a * b ≤ 65535 * b := Int.mul_le_mul_of_nonneg_right (by omega) hb.1
  omega

set_option maxRecDepth 100000 in
set_option maxHeartbeats 8000000 in
theorem wide_any (x0 x1 x2 x3 y0 y1 y2 y3 : Int) (hx : Lim x0 x1 x2 x3) (hy : Lim y0 y1 y2 y3) (w : World) :
    Calls Try.prog 84 #[.agg #[.int .u64 x0, .int .u64 x1, .int .u64 x2, .int .u64 x3], .agg #[.int .u64 y0, .int .u64 y1, .int .u64 y2, .int .u64 y3]] w fun e w' => ∃ (dl : Nat → Int) (g cap : Nat), e = .returned (.slice (some ⟨g, 0, none⟩) 32 cap) ∧ w'.ownsRow w.heap.size 22 1 (.slice (some ⟨g, 0, none⟩) 32 cap) 32 (encU (fl dl 32)) ∧ (∀ i, i < 32 → 0 ≤ dl i ∧ dl i < 65536) ∧ Hid (sm dl 32 = val x0 x1 x2 x3 * val y0 y1 y2 y3) ∧ Below w.heap.size w w' := by
  have hpad := pads
  have hmk := make32
  go_enter Try.func84, Try.ntmps84
  go_upto_region 1 with fail
  go_cut [5, 6] from 12 to 15 (fun s5 s6 wx => ∃ (g1 c1 g2 c2 : Nat), s5 = .slice (some ⟨g1, 0, none⟩) 16 c1 ∧ s6 = .slice (some ⟨g2, 0, none⟩) 16 c2 ∧ g1 < wx.heap.size ∧ g2 < wx.heap.size ∧ (∀ k, k < 16 → wx.cell? ⟨g1, k, none⟩ = some (.int .u64 (dg x0 x1 x2 x3 k))) ∧ (∀ k, k < 16 → wx.cell? ⟨g2, k, none⟩ = some (.int .u64 (dg y0 y1 y2 y3 k))) ∧ Below w.heap.size w wx)
  case first =>
    go_region_with (first
      | (go_at_call 91; with_reducible refine (digits_w _ _ _ _ hx _).mono ?_; rintro e w1 ⟨r1, cap1, rfl, hg1, hc1, hb1⟩; obtain ⟨m1, g1, d1, hm1, rfl⟩ := pad_of hb1; clear hb1; (try simp [pad_size] at hm1); have st1_w := sz2 (n := w.heap.size) (m := m1) (by omega))
      | (go_at_call 91; with_reducible refine (digits_w _ _ _ _ hy _).mono ?_; rintro e w2 ⟨r2, cap2, rfl, hg2, hc2, hb2⟩))
    all_goals (go_wp2_with fail; go_meet)
    all_goals exact ⟨r1, cap1, r2, cap2, rfl, rfl, Nat.lt_of_lt_of_le hg1 hb2.size, hg2, fun k hk => (hb2.cell (p := ⟨r1, k, none⟩) hg1).trans (hc1 k hk), hc2, by (repeat (first | (with_reducible exact Below.refl _ _) | (with_reducible assumption) | (with_reducible apply bd) | (with_reducible apply ba) | (with_reducible refine bp ?_ (by first | omega | (simp [pad_size]; done) | (simp [pad_size]; omega)) _ _) | (with_reducible refine bs ?_ (by first | omega | (simp [pad_size]; done) | (simp [pad_size]; omega)) _) | (with_reducible refine bt ?_ (by assumption))))⟩
  case rest =>
    obtain ⟨g1, c1, g2, c2, rfl, rfl, hg1, hg2, hc1, hc2, hB⟩ := hcut
    have hwc := hB.size
    go_wp2
    go_loopw [8] (fun i wr => ∃ (k : Nat) (dl : Nat → Int), k ≤ 16 ∧ i = .int .i64 k ∧ wr.ownsRow wc.heap.size 22 1 (.slice (some ⟨wc.heap.size, 0, none⟩) 32 32) 32 (encU (fl dl 32)) ∧ (∀ j, j < 32 → 0 ≤ dl j ∧ dl j < 65536) ∧ (∀ j, k + 16 ≤ j → dl j = 0) ∧ Hid (sm dl (k + 16) = sm (dg x0 x1 x2 x3) k * val y0 y1 y2 y3) ∧ Below wc.heap.size wc wr) (fun i _ => 16 - (intOf i).toNat)
    case atStart => exact ⟨0, fun _ => 0, by omega, rfl, row32 wc, fun j _ => (by show (0 : Int) ≤ 0 ∧ (0 : Int) < 65536; omega), fun j _ => rfl, by unfold Hid; rw [sm_zero]; simp [sm], (Below.refl _ _).alloc (Nat.le_refl _) _⟩
    case round =>
      obtain ⟨i, dl, hi, rfl, hr, hlim, hz, hsm, hB2⟩ := hrel
      by_cases hlt : i < 16
      · go_wp2
        go_loopw [9, 10] (fun o kk wr => ∃ (k : Nat) (c : Int) (dq : Nat → Int), k ≤ 16 ∧ o = .int .u64 c ∧ kk = .int .i64 k ∧ (0 ≤ c ∧ c ≤ 65535) ∧ wr.ownsRow wc.heap.size 22 1 (.slice (some ⟨wc.heap.size, 0, none⟩) 32 32) 32 (encU (fl dq 32)) ∧ (∀ j, j < 32 → 0 ≤ dq j ∧ dq j < 65536) ∧ (∀ j, i + k ≤ j → dq j = dl j) ∧ Hid (sm dq (i + k) + c * 65536 ^ (i + k) = sm dl (i + k) + dg x0 x1 x2 x3 i * 65536 ^ i * sm (dg y0 y1 y2 y3) k) ∧ Below wc.heap.size wc wr) (fun _ kk _ => 16 - (intOf kk).toNat)
        case atStart => exact ⟨0, 0, dl, by omega, rfl, rfl, by omega, hr, hlim, fun j _ => rfl, by unfold Hid; simp [sm], hB2⟩
        case round =>
          clear hr hB2
          obtain ⟨k, c, dq, hk, rfl, rfl, hc, hr, hql, hqz, hqs, hB2⟩ := hrel
          obtain ⟨g3, c3, hv, hg3, hgl3, hcell, hfz⟩ := row_words (n := 31) hr (fl_len _ _)
          cases hv
          have hx1 : wr.cell? ⟨g1, i, none⟩ = some (.int .u64 (dg x0 x1 x2 x3 i)) := (hB2.cell (p := ⟨g1, i, none⟩) hg1).trans (hc1 i hlt)
          have p1 := @dg_lim x0 x1 x2 x3 i
          by_cases hlt2 : k < 16
          · have hy1 : wr.cell? ⟨g2, k, none⟩ = some (.int .u64 (dg y0 y1 y2 y3 k)) := (hB2.cell (p := ⟨g2, k, none⟩) hg2).trans (hc2 k hlt2)
            have p2 := @dg_lim y0 y1 y2 y3 k
            have p3 := hql (i + k) (by omega)
            have ck : wr.cell? ⟨wc.heap.size, i + k, none⟩ = some (.int .u64 (dq (i + k))) := by rw [hcell (i + k) (by omega)]; simp [fl]
            have fk := hfz (i + k)
            obtain ⟨d, hde⟩ : ∃ d, Hid (dq (i + k) = d) := ⟨_, rfl⟩
            rw [hde.out] at ck p3
            have hpb : 0 ≤ dg x0 x1 x2 x3 i * dg y0 y1 y2 y3 k ∧ dg x0 x1 x2 x3 i * dg y0 y1 y2 y3 k ≤ 4294836225 := mul_lim p1 p2
            obtain ⟨t0, ht0⟩ : ∃ t, Hid (dg x0 x1 x2 x3 i * dg y0 y1 y2 y3 k = t) := ⟨_, rfl⟩
            rw [ht0.out] at hpb
            obtain ⟨t1, ht1⟩ : ∃ t, Hid (t = d + t0) := ⟨_, rfl⟩
            obtain ⟨t, hte⟩ : ∃ t, Hid (t = d + t0 + c) := ⟨_, rfl⟩
            have hw1 : IntKind.u64.wrap (dg x0 x1 x2 x3 i * dg y0 y1 y2 y3 k) = t0 := by rw [ht0.out, IntKind.wrap_u64]; omega
            have hw2 : IntKind.u64.wrap (d + t0) = t1 := by rw [IntKind.wrap_u64]; have := ht1.out; omega
            have hw3 : IntKind.u64.wrap (t1 + c) = t := by rw [IntKind.wrap_u64]; have := hte.out; have := ht1.out; omega
            have htb : 0 ≤ t ∧ t ≤ 4294967295 := by have := hte.out; omega
            have hr1 : t.tmod 65536 = t % 65536 := Int.tmod_eq_emod_of_nonneg htb.1
            have hr2 : t.tdiv 65536 = t / 65536 := Int.tdiv_eq_ediv_of_nonneg htb.1
            have hnz : ¬ (65536 : Int) = 0 := by omega
            clear hcell hfz hpad hmk
            go_wp2
            go_region
            all_goals go_wp2
            all_goals go_roundw
            case rel =>
              refine ⟨k + 1, t / 65536, upd dq (i + k) (t % 65536), by omega, rfl, by go_num, by omega, ?_, ?_, ?_, ?_, ?_⟩
              · rw [← fl_set]; exact row_set _ hr (by omega)
              · intro j hj; unfold upd; split
                · omega
                · exact hql j hj
              · intro j hj; rw [upd_ne (by omega)]; exact hqz j (by omega)
              · have h := hqs.out
                show sm _ (i + k + 1) + _ * 65536 ^ (i + k + 1) = sm _ (i + k + 1) + _
                simp only [sm]
                rw [sm_upd_above (Nat.le_refl _), upd_at, Int.pow_succ]
                have h2 : t % 65536 + t / 65536 * 65536 = dl (i + k) + dg x0 x1 x2 x3 i * dg y0 y1 y2 y3 k + c := by
                  rw [ht0.out, ← hqz (i + k) (Nat.le_refl _), hde.out]; have := hte.out; omega
                rw [Int.pow_add] at h ⊢
                generalize (65536 : Int) ^ i = P at *
                generalize (65536 : Int) ^ k = Q at *
                have h3 : (t % 65536 + t / 65536 * 65536) * (P * Q) = (dl (i + k) + dg x0 x1 x2 x3 i * dg y0 y1 y2 y3 k + c) * (P * Q) := by rw [h2]
                grind
              · first | exact (hB2.setCell (p := ⟨wc.heap.size, i + k, none⟩) (Nat.le_refl _) _).drew | exact (hB2.drew).setCell (p := ⟨wc.heap.size, i + k, none⟩) (Nat.le_refl _) _
            case measure => simp [intOf]; omega
          · have hk' : k = 16 := by omega
            subst hk'
            have ck : wr.cell? ⟨wc.heap.size, i + 16, none⟩ = some (.int .u64 0) := by rw [hcell (i + 16) (by omega)]; simp [fl, hqz (i + 16) (Nat.le_refl _), hz (i + 16) (Nat.le_refl _)]
            have fk := hfz (i + 16)
            clear hcell hfz hpad hmk
            go_wp2
            all_goals go_roundw
            case rel =>
              refine ⟨i + 1, upd dq (i + 16) c, by omega, by go_num, ?_, ?_, ?_, ?_, ?_⟩
              · rw [← fl_set]; exact row_set _ hr (by omega)
              · intro j hj; unfold upd; split
                · omega
                · exact hql j hj
              · intro j hj; rw [upd_ne (by omega), hqz j (by omega)]; exact hz j (by omega)
              · have h := hqs.out
                have h1 := hsm.out
                show sm _ (i + 1 + 16) = _
                rw [show i + 1 + 16 = i + 16 + 1 by omega, sm_succ _ (i + 16), sm_succ _ i, sm_upd_above (Nat.le_refl _), upd_at, h, h1, sm_dg hy]
                grind
              · exact hB2.setCell (p := ⟨wc.heap.size, i + 16, none⟩) (Nat.le_refl _) _
            case measure => simp [intOf]; omega
      · have hk' : i = 16 := by omega
        subst hk'
        go_wp2
        go_ret
        refine ⟨dl, wc.heap.size, 32, rfl, row_base hr hwc, hlim, ?_, hB.trans (hB2.mono hwc)⟩
        have h := hsm.out
        rw [sm_dg hx] at h
        exact h
end Go.Proofs.Ytmfnfnegnfpkiaa

/- The contracts of num as they are used where the answer is known. -/
namespace Go.Proofs.Ytmfnfnegnfpkiaa
open Go.RowKit

theorem limbs_of {n : Int} (h0 : 0 ≤ n) (h1 : n < 115792089237316195423570985008687907853269984665640564039457584007913129639936) : ∃ z0 z1 z2 z3 : Int, Lim z0 z1 z2 z3 ∧ val z0 z1 z2 z3 = n :=
  ⟨n % 18446744073709551616, n / 18446744073709551616 % 18446744073709551616, n / 340282366920938463463374607431768211456 % 18446744073709551616, n / 6277101735386680763835789423207666416102355444464034512896, by unfold Lim; omega, by unfold val; omega⟩

theorem add_fit {x0 x1 x2 x3 y0 y1 y2 y3 z0 z1 z2 z3 : Int} (hx : Lim x0 x1 x2 x3) (hy : Lim y0 y1 y2 y3) (hz : Lim z0 z1 z2 z3) (he : Hid (val z0 z1 z2 z3 = val x0 x1 x2 x3 + val y0 y1 y2 y3)) (w : World) :
    Calls Try.prog 104 #[.agg #[.int .u64 x0, .int .u64 x1, .int .u64 x2, .int .u64 x3], .agg #[.int .u64 y0, .int .u64 y1, .int .u64 y2, .int .u64 y3]] w fun e w' => e = .returned (.tuple #[.agg #[.int .u64 z0, .int .u64 z1, .int .u64 z2, .int .u64 z3], .int .i64 0]) ∧ Below w.heap.size w w' := by
  refine (add_any _ _ _ _ _ _ _ _ hx hy w).mono ?_
  rintro e w' ⟨u0, u1, u2, u3, c, rfl, hu, hs, hb⟩
  have h1 := val_hi hz
  have he := he.out
  rcases hs with ⟨-, rfl, h⟩ | ⟨h, -⟩
  · obtain ⟨rfl, rfl, rfl, rfl⟩ := val_inj hu hz (h.trans he.symm)
    exact ⟨rfl, hb⟩
  · omega
theorem add_over {x0 x1 x2 x3 y0 y1 y2 y3 : Int} (hx : Lim x0 x1 x2 x3) (hy : Lim y0 y1 y2 y3) (he : Hid (115792089237316195423570985008687907853269984665640564039457584007913129639936 ≤ val x0 x1 x2 x3 + val y0 y1 y2 y3)) (w : World) :
    Calls Try.prog 104 #[.agg #[.int .u64 x0, .int .u64 x1, .int .u64 x2, .int .u64 x3], .agg #[.int .u64 y0, .int .u64 y1, .int .u64 y2, .int .u64 y3]] w fun e w' => e = .returned (.tuple #[.agg #[.int .u64 0, .int .u64 0, .int .u64 0, .int .u64 0], .int .i64 2]) ∧ Below w.heap.size w w' := by
  refine (add_any _ _ _ _ _ _ _ _ hx hy w).mono ?_
  rintro e w' ⟨u0, u1, u2, u3, c, rfl, hu, hs, hb⟩
  have he := he.out
  rcases hs with ⟨h, -⟩ | ⟨-, rfl, h⟩
  · omega
  · obtain ⟨rfl, rfl, rfl, rfl⟩ := (val_zero hu).1 h
    exact ⟨rfl, hb⟩
theorem sub_fit {x0 x1 x2 x3 y0 y1 y2 y3 z0 z1 z2 z3 : Int} (hx : Lim x0 x1 x2 x3) (hy : Lim y0 y1 y2 y3) (hz : Lim z0 z1 z2 z3) (he : Hid (val x0 x1 x2 x3 = val z0 z1 z2 z3 + val y0 y1 y2 y3)) (w : World) :
    Calls Try.prog 109 #[.agg #[.int .u64 x0, .int .u64 x1, .int .u64 x2, .int .u64 x3], .agg #[.int .u64 y0, .int .u64 y1, .int .u64 y2, .int .u64 y3]] w fun e w' => e = .returned (.tuple #[.agg #[.int .u64 z0, .int .u64 z1, .int .u64 z2, .int .u64 z3], .int .i64 0]) ∧ Below w.heap.size w w' := by
  refine (sub_any _ _ _ _ _ _ _ _ hx hy w).mono ?_
  rintro e w' ⟨u0, u1, u2, u3, c, rfl, hu, hs, hb⟩
  have h1 := val_lo hz
  have he := he.out
  rcases hs with ⟨-, rfl, h⟩ | ⟨h, -⟩
  · obtain ⟨rfl, rfl, rfl, rfl⟩ := val_inj hu hz (by omega)
    exact ⟨rfl, hb⟩
  · omega
theorem cmp_ge {x y : Int} (h : y ≤ x) : 0 ≤ cmpI x y := by
  unfold cmpI; rw [if_neg (by omega)]; split <;> decide
theorem md_whole {x0 x1 x2 x3 y0 y1 y2 y3 : Int} (up : Bool) (hx : Lim x0 x1 x2 x3) (hy : Lim y0 y1 y2 y3) (hq : eq4 y0 y1 y2 y3 0 0 0 0 = false) (w : World) :
    Calls Try.prog 79 #[.agg #[.int .u64 x0, .int .u64 x1, .int .u64 x2, .int .u64 x3], .agg #[.int .u64 y0, .int .u64 y1, .int .u64 y2, .int .u64 y3], .agg #[.int .u64 y0, .int .u64 y1, .int .u64 y2, .int .u64 y3], .bool up] w fun e w' => e = .returned (.tuple #[.agg #[.int .u64 x0, .int .u64 x1, .int .u64 x2, .int .u64 x3], .int .i64 0]) ∧ Below w.heap.size w w' := by
  refine (muldiv_any _ _ _ _ _ _ _ _ _ _ _ _ up hx hy hy w).mono ?_
  rintro e w' ⟨z0, z1, z2, z3, c, rfl, hz, hs, hb⟩
  rw [eq4_zero hy, decide_eq_false_iff_not] at hq
  have h0 := val_lo hx
  have h1 := val_hi hx
  rcases hs with ⟨h, -⟩ | ⟨hc, q, r, h2, h3, h4, h5, h6⟩
  · exact absurd h hq
  · have hr : r = 0 ∧ q = val x0 x1 x2 x3 := by
      generalize val x0 x1 x2 x3 = a at *
      generalize val y0 y1 y2 y3 = b at *
      have e : r = (a - q) * b := by rw [Int.sub_mul]; omega
      have hlt : a - q < 1 := Int.lt_of_mul_lt_mul_right (a := b) (by omega) (by omega)
      have hge : -1 < a - q := Int.lt_of_mul_lt_mul_right (a := b) (by omega) (by omega)
      have : a - q = 0 := by omega
      rw [this] at e
      omega
    obtain ⟨rfl, rfl⟩ := hr
    have hu : upI up (val x0 x1 x2 x3) 0 = val x0 x1 x2 x3 := by unfold upI; rw [if_neg (by simp)]
    rw [hu] at h6
    rcases h6 with ⟨-, rfl, h⟩ | ⟨h, -⟩
    · obtain ⟨rfl, rfl, rfl, rfl⟩ := val_inj hz hx h
      exact ⟨rfl, hb⟩
    · omega
end Go.Proofs.Ytmfnfnegnfpkiaa

/- Calls whose answer is known, as facts; the reference's Add, Rest where the answer is known. -/
namespace Go.Proofs.Ytmfnfnegnfpkiaa
open Go.RowKit

/-- A call answers this, and writes nothing that was there. -/
def Says (f : Nat) (args : Array Value) (v : Value) : Prop := ∀ w, Calls Try.prog f args w fun e w' => e = .returned v ∧ Below w.heap.size w w'
theorem Says.at {f : Nat} {args : Array Value} {v : Value} (h : Says f args v) (w : World) : Calls Try.prog f args w fun e w' => e = .returned v ∧ Below w.heap.size w w' := h w

theorem says_add {x0 x1 x2 x3 y0 y1 y2 y3 z0 z1 z2 z3 : Int} (hx : Lim x0 x1 x2 x3) (hy : Lim y0 y1 y2 y3) (hz : Lim z0 z1 z2 z3) (he : val z0 z1 z2 z3 = val x0 x1 x2 x3 + val y0 y1 y2 y3) : Says 104 #[.agg #[.int .u64 x0, .int .u64 x1, .int .u64 x2, .int .u64 x3], .agg #[.int .u64 y0, .int .u64 y1, .int .u64 y2, .int .u64 y3]] (.tuple #[.agg #[.int .u64 z0, .int .u64 z1, .int .u64 z2, .int .u64 z3], .int .i64 0]) := fun w => add_fit hx hy hz he w
theorem says_add_over {x0 x1 x2 x3 y0 y1 y2 y3 : Int} (hx : Lim x0 x1 x2 x3) (hy : Lim y0 y1 y2 y3) (he : 115792089237316195423570985008687907853269984665640564039457584007913129639936 ≤ val x0 x1 x2 x3 + val y0 y1 y2 y3) : Says 104 #[.agg #[.int .u64 x0, .int .u64 x1, .int .u64 x2, .int .u64 x3], .agg #[.int .u64 y0, .int .u64 y1, .int .u64 y2, .int .u64 y3]] (.tuple #[.agg #[.int .u64 0, .int .u64 0, .int .u64 0, .int .u64 0], .int .i64 2]) := fun w => add_over hx hy he w
theorem says_sub {x0 x1 x2 x3 y0 y1 y2 y3 z0 z1 z2 z3 : Int} (hx : Lim x0 x1 x2 x3) (hy : Lim y0 y1 y2 y3) (hz : Lim z0 z1 z2 z3) (he : val x0 x1 x2 x3 = val z0 z1 z2 z3 + val y0 y1 y2 y3) : Says 109 #[.agg #[.int .u64 x0, .int .u64 x1, .int .u64 x2, .int .u64 x3], .agg #[.int .u64 y0, .int .u64 y1, .int .u64 y2, .int .u64 y3]] (.tuple #[.agg #[.int .u64 z0, .int .u64 z1, .int .u64 z2, .int .u64 z3], .int .i64 0]) := fun w => sub_fit hx hy hz he w
theorem says_sub_less {x0 x1 x2 x3 y0 y1 y2 y3 : Int} (hx : Lim x0 x1 x2 x3) (hy : Lim y0 y1 y2 y3) (he : val x0 x1 x2 x3 < val y0 y1 y2 y3) : Says 109 #[.agg #[.int .u64 x0, .int .u64 x1, .int .u64 x2, .int .u64 x3], .agg #[.int .u64 y0, .int .u64 y1, .int .u64 y2, .int .u64 y3]] (.tuple #[.agg #[.int .u64 0, .int .u64 0, .int .u64 0, .int .u64 0], .int .i64 3]) := by
  intro w
  refine (sub_any _ _ _ _ _ _ _ _ hx hy w).mono ?_
  rintro e w' ⟨u0, u1, u2, u3, c, rfl, hu, hs, hb⟩
  rcases hs with ⟨h, -⟩ | ⟨-, rfl, h⟩
  · omega
  · obtain ⟨rfl, rfl, rfl, rfl⟩ := (val_zero hu).1 h
    exact ⟨rfl, hb⟩
theorem says_addR {x0 x1 x2 x3 y0 y1 y2 y3 z0 z1 z2 z3 : Int} (hx : Lim x0 x1 x2 x3) (hy : Lim y0 y1 y2 y3) (hz : Lim z0 z1 z2 z3) (he : val z0 z1 z2 z3 = val x0 x1 x2 x3 + val y0 y1 y2 y3) : Says 59 #[.agg #[.int .u64 x0, .int .u64 x1, .int .u64 x2, .int .u64 x3], .agg #[.int .u64 y0, .int .u64 y1, .int .u64 y2, .int .u64 y3]] (.tuple #[.agg #[.int .u64 z0, .int .u64 z1, .int .u64 z2, .int .u64 z3], .bool true]) := by
  intro w
  refine (addR_any _ _ _ _ _ _ _ _ hx hy w).mono ?_
  rintro e w' ⟨dq, hq, hs, h, hb⟩
  have hz1 := val_hi hz
  have e16 : (65536 : Int) ^ 16 = 115792089237316195423570985008687907853269984665640564039457584007913129639936 := by decide
  have hl := sm_lim 16 (fun i hi => hq i (by omega))
  simp only [show sm dq 17 = sm dq 16 + dq 16 * 65536 ^ 16 from rfl, e16] at hs
  rcases h with ⟨h, rfl⟩ | ⟨h, -⟩
  · rw [h] at hs
    obtain ⟨h0, h1, h2, h3⟩ := val_inj (lim_Lp (fun i hi => hq i (by omega))) hz (by rw [val_Lp]; omega)
    rw [h0, h1, h2, h3]
    exact ⟨rfl, hb⟩
  · omega
theorem says_addR_over {x0 x1 x2 x3 y0 y1 y2 y3 : Int} (hx : Lim x0 x1 x2 x3) (hy : Lim y0 y1 y2 y3) (he : 115792089237316195423570985008687907853269984665640564039457584007913129639936 ≤ val x0 x1 x2 x3 + val y0 y1 y2 y3) : Says 59 #[.agg #[.int .u64 x0, .int .u64 x1, .int .u64 x2, .int .u64 x3], .agg #[.int .u64 y0, .int .u64 y1, .int .u64 y2, .int .u64 y3]] (.tuple #[.agg #[.int .u64 0, .int .u64 0, .int .u64 0, .int .u64 0], .bool false]) := by
  intro w
  refine (addR_any _ _ _ _ _ _ _ _ hx hy w).mono ?_
  rintro e w' ⟨dq, hq, hs, h, hb⟩
  have e16 : (65536 : Int) ^ 16 = 115792089237316195423570985008687907853269984665640564039457584007913129639936 := by decide
  have hl := sm_lim 16 (fun i hi => hq i (by omega))
  simp only [show sm dq 17 = sm dq 16 + dq 16 * 65536 ^ 16 from rfl, e16] at hs
  rw [e16] at hl
  rcases h with ⟨h, -⟩ | ⟨h, rfl⟩
  · rw [h] at hs; omega
  · exact ⟨rfl, hb⟩
theorem says_cmp {x0 x1 x2 x3 y0 y1 y2 y3 c : Int} (hx : Lim x0 x1 x2 x3) (hy : Lim y0 y1 y2 y3) (h : cmpI (val x0 x1 x2 x3) (val y0 y1 y2 y3) = c) : Says 102 #[.agg #[.int .u64 x0, .int .u64 x1, .int .u64 x2, .int .u64 x3], .agg #[.int .u64 y0, .int .u64 y1, .int .u64 y2, .int .u64 y3]] (.int .i64 c) := by
  subst h; exact fun w => cmp_any _ _ _ _ _ _ _ _ hx hy w
theorem says_cmpR {x0 x1 x2 x3 y0 y1 y2 y3 c : Int} (hx : Lim x0 x1 x2 x3) (hy : Lim y0 y1 y2 y3) (h : cmpI (val x0 x1 x2 x3) (val y0 y1 y2 y3) = c) : Says 60 #[.agg #[.int .u64 x0, .int .u64 x1, .int .u64 x2, .int .u64 x3], .agg #[.int .u64 y0, .int .u64 y1, .int .u64 y2, .int .u64 y3]] (.int .i64 c) := by
  subst h; exact fun w => cmpR_any _ _ _ _ _ _ _ _ hx hy w
theorem says_rest {x0 x1 x2 x3 y0 y1 y2 y3 z0 z1 z2 z3 : Int} (hx : Lim x0 x1 x2 x3) (hy : Lim y0 y1 y2 y3) (hz : Lim z0 z1 z2 z3) (he : val z0 z1 z2 z3 = restI (val x0 x1 x2 x3) (val y0 y1 y2 y3)) : Says 89 #[.agg #[.int .u64 x0, .int .u64 x1, .int .u64 x2, .int .u64 x3], .agg #[.int .u64 y0, .int .u64 y1, .int .u64 y2, .int .u64 y3]] (.agg #[.int .u64 z0, .int .u64 z1, .int .u64 z2, .int .u64 z3]) := by
  intro w
  refine (rest_any _ _ _ _ _ _ _ _ hx hy w).mono ?_
  rintro e w' ⟨u0, u1, u2, u3, rfl, hu, hs, hb⟩
  obtain ⟨rfl, rfl, rfl, rfl⟩ := val_inj hu hz (hs.out.trans he.symm)
  exact ⟨rfl, hb⟩
theorem says_restR {x0 x1 x2 x3 y0 y1 y2 y3 z0 z1 z2 z3 : Int} (hx : Lim x0 x1 x2 x3) (hy : Lim y0 y1 y2 y3) (hz : Lim z0 z1 z2 z3) (he : val z0 z1 z2 z3 = restI (val x0 x1 x2 x3) (val y0 y1 y2 y3)) : Says 90 #[.agg #[.int .u64 x0, .int .u64 x1, .int .u64 x2, .int .u64 x3], .agg #[.int .u64 y0, .int .u64 y1, .int .u64 y2, .int .u64 y3]] (.agg #[.int .u64 z0, .int .u64 z1, .int .u64 z2, .int .u64 z3]) := by
  intro w
  by_cases h : val x0 x1 x2 x3 ≤ val y0 y1 y2 y3
  · refine (restR_none _ _ _ _ _ _ _ _ hx hy h w).mono ?_
    rintro e w' ⟨rfl, hb⟩
    have h0 : val z0 z1 z2 z3 = 0 := by rw [he]; unfold restI; split <;> omega
    obtain ⟨rfl, rfl, rfl, rfl⟩ := (val_zero hz).1 h0
    exact ⟨rfl, hb⟩
  · refine (restR_some _ _ _ _ _ _ _ _ hx hy (show _ < _ by omega) w).mono ?_
    rintro e w' ⟨u0, u1, u2, u3, rfl, hu, hs, hb⟩
    obtain ⟨rfl, rfl, rfl, rfl⟩ := val_inj hu hz (by rw [hs.out, he]; unfold restI; rw [if_pos (by omega)])
    exact ⟨rfl, hb⟩
end Go.Proofs.Ytmfnfnegnfpkiaa

/- The reference's Of where there is too much anywhere; its Mul. -/
namespace Go.Proofs.Ytmfnfnegnfpkiaa
open Go.RowKit

set_option maxRecDepth 100000 in
set_option maxHeartbeats 8000000 in
theorem ofR_more (dl : Nat → Int) (n g cap : Nat) (hn : n ≤ 64) (hb : ∀ k, k < 16 → 0 ≤ dl k ∧ dl k < 65536) (hp : ∀ k, 16 ≤ k → k < n → 0 ≤ dl k) (h0 : ∃ k, 16 ≤ k ∧ k < n ∧ 0 < dl k) (w : World) (hg : g < w.heap.size) (hc : ∀ k, k < n → w.cell? ⟨g, k, none⟩ = some (.int .u64 (dl k))) :
    Calls Try.prog 86 #[.slice (some ⟨g, 0, none⟩) n cap] w fun e w' => e = .returned (.tuple #[.agg #[.int .u64 0, .int .u64 0, .int .u64 0, .int .u64 0], .bool false]) ∧ Below w.heap.size w w' := by
  have hpad := pads
  go_enter Try.func86, Try.ntmps86
  go_wp2
  go_loopw [5] (fun i wr => ∃ (k m : Nat) (f : Nat → Obj) (dr : Nat), k ≤ n ∧ (∀ j, 16 ≤ j → j < k → dl j = 0) ∧ i = .int .i64 k ∧ w.heap.size + 1 + 1 ≤ m ∧ wr = pad ((w.alloc (.cells #[.int .u64 0, .int .u64 0, .int .u64 0, .int .u64 0] 69)).alloc (.cells #[.int .u64 (Lp dl k 0), .int .u64 (Lp dl k 1), .int .u64 (Lp dl k 2), .int .u64 (Lp dl k 3)] 69)) m f dr) (fun i _ => n - (intOf i).toNat)
  case atStart =>
    obtain ⟨m, f, dr, hm, e⟩ := pad_of (Below.refl _ ((w.alloc (.cells #[.int .u64 0, .int .u64 0, .int .u64 0, .int .u64 0] 69)).alloc (.cells #[.int .u64 0, .int .u64 0, .int .u64 0, .int .u64 0] 69)))
    exact ⟨0, m, f, dr, by omega, fun j h1 h2 => by omega, rfl, by simpa using hm, by simpa [Lp] using e⟩
  case round =>
    obtain ⟨k, m, f, dr, hk, hzz, rfl, hm, rfl⟩ := hrel
    have st := sz2 (n := w.heap.size) (m := m) hm
    have hgm : g < m := by omega
    have hgn : ¬ g = w.heap.size := by omega
    have hgn1 : ¬ g = w.heap.size + 1 := by omega
    have hgl : g < w.heap.size + 1 := by omega
    have hgl' : g < w.heap.size + 1 + 1 := by omega
    have hlt : k < n := by
      obtain ⟨j, h1, h2, h3⟩ := h0
      rcases Nat.lt_or_ge j k with h | h
      · have := hzz j h1 h; omega
      · omega
    by_cases h16 : k < 16
    · have c := hc k hlt
      have hb' := hb k h16
      obtain ⟨kk, hkk⟩ : ∃ kk : Nat, Hid (kk = k + 1) := ⟨_, rfl⟩
      rcases (show k = 0 ∨ k = 1 ∨ k = 2 ∨ k = 3 ∨ k = 4 ∨ k = 5 ∨ k = 6 ∨ k = 7 ∨ k = 8 ∨ k = 9 ∨ k = 10 ∨ k = 11 ∨ k = 12 ∨ k = 13 ∨ k = 14 ∨ k = 15 by omega) with rfl | rfl | rfl | rfl | rfl | rfl | rfl | rfl | rfl | rfl | rfl | rfl | rfl | rfl | rfl | rfl
      all_goals
        clear h16 hb'
        go_wp2
        go_region
        all_goals go_wp2
        all_goals go_roundw
        case rel =>
          have e := hkk.out
          have b0 := hb 0 (by omega); have b1 := hb 1 (by omega); have b2 := hb 2 (by omega); have b3 := hb 3 (by omega); have b4 := hb 4 (by omega); have b5 := hb 5 (by omega); have b6 := hb 6 (by omega); have b7 := hb 7 (by omega); have b8 := hb 8 (by omega); have b9 := hb 9 (by omega); have b10 := hb 10 (by omega); have b11 := hb 11 (by omega); have b12 := hb 12 (by omega); have b13 := hb 13 (by omega); have b14 := hb 14 (by omega); have b15 := hb 15 (by omega)
          refine ⟨kk, m, f, dr + 1, by omega, fun j h1 h2 => by omega, by rw [e]; go_num, hm, ?_⟩
          rw [e]
          simp (disch := omega) [Lp, IntKind.wrap_u64, Int.emod_eq_of_lt]
        case measure => simp [intOf]; omega
    · have c := hc k hlt
      have h16' : ¬ (k : Int) < 16 := by omega
      have h16'' : (16 : Int) ≤ (k : Int) := by omega
      by_cases hzk : dl k = 0
      · rw [hzk] at c
        clear hc
        go_wp2
        go_roundw
        case rel =>
          refine ⟨k + 1, m, f, dr, by omega, fun j h1 h2 => ?_, by go_num, hm, ?_⟩
          · by_cases e : j = k
            · rw [e]; exact hzk
            · exact hzz j h1 (by omega)
          · simp only [Lp_stop dl (k := k + 1) (by omega), Lp_stop dl (k := k) (by omega)]
        case measure => simp [intOf]; omega
      · have hpk : 0 < dl k := by have := hp k (by omega) hlt; omega
        clear hc
        go_wp2
        refine bodyPost_ret (v := .tuple #[.agg #[.int .u64 0, .int .u64 0, .int .u64 0, .int .u64 0], .bool false]) (by simp only [results, Try.results86]; go_simp) rfl ⟨rfl, by (repeat (first | (with_reducible exact Below.refl _ _) | (with_reducible assumption) | (with_reducible apply bd) | (with_reducible apply ba) | (with_reducible refine bp ?_ (by first | omega | (simp [pad_size]; done) | (simp [pad_size]; omega)) _ _) | (with_reducible refine bs ?_ (by first | omega | (simp [pad_size]; done) | (simp [pad_size]; omega)) _) | (with_reducible refine bt ?_ (by assumption))))⟩

theorem row_cells {W : World} {base g cap n : Nat} {dl : Nat → Int} (h : W.ownsRow base 22 1 (.slice (some ⟨g, 0, none⟩) (n + 1) cap) (n + 1) (encU (fl dl (n + 1)))) : g < W.heap.size ∧ ∀ k, k < n + 1 → W.cell? ⟨g, k, none⟩ = some (.int .u64 (dl k)) := by
  obtain ⟨g', c', hv, -, hgl, hcell, -⟩ := row_words h (fl_len _ _)
  cases hv
  exact ⟨hgl, fun k hk => by rw [hcell k hk]; simp [fl]⟩

theorem pow_up {a b : Nat} (h : a ≤ b) : (65536 : Int) ^ a ≤ 65536 ^ b := by
  obtain ⟨d, rfl⟩ := Nat.exists_eq_add_of_le h
  rw [Int.pow_add]
  have h1 : (0 : Int) < 65536 ^ a := Int.pow_pos (by decide)
  have h2 : (0 : Int) < 65536 ^ d := Int.pow_pos (by decide)
  have h3 : 65536 ^ a * 1 ≤ (65536 : Int) ^ a * 65536 ^ d := Int.mul_le_mul_of_nonneg_left (by omega) (by omega)
  omega

theorem sm_ge {dl : Nat → Int} {k : Nat} (n : Nat) (h : ∀ i, i < n → 0 ≤ dl i) (hk : k < n) (hp : 0 < dl k) : 65536 ^ k ≤ sm dl n := by
  induction n with
  | zero => omega
  | succ n ih =>
    have h0 : (0 : Int) < 65536 ^ n := Int.pow_pos (by decide)
    have hn : 0 ≤ dl n * 65536 ^ n := Int.mul_nonneg (h n (by omega)) (by omega)
    rw [sm_succ]
    by_cases e : k = n
    · subst e
      have hs : ∀ m, m ≤ k → 0 ≤ sm dl m := by
        intro m
        induction m with
        | zero => intro _; exact Int.le_refl _
        | succ m im => intro hm; rw [sm_succ]; have := Int.mul_nonneg (h m (by omega)) (Int.le_of_lt (show (0 : Int) < 65536 ^ m from Int.pow_pos (by decide))); have := im (by omega); omega
      have := hs k (Nat.le_refl _)
      have h2 : 1 * 65536 ^ k ≤ dl k * 65536 ^ k := Int.mul_le_mul_of_nonneg_right (by omega) (by omega)
      omega
    · have := ih (fun i hi => h i (by omega)) (by omega)
      omega

/-- The number that digits are, or that it is too much. -/
theorem says_ofR {dl : Nat → Int} {n : Nat} {z0 z1 z2 z3 : Int} (hn : 16 ≤ n ∧ n ≤ 64) (hb : ∀ k, k < n → 0 ≤ dl k ∧ dl k < 65536) (hz : Lim z0 z1 z2 z3) (hs : sm dl n = val z0 z1 z2 z3) (g cap : Nat) (w : World) (hg : g < w.heap.size) (hc : ∀ k, k < n → w.cell? ⟨g, k, none⟩ = some (.int .u64 (dl k))) :
    Calls Try.prog 86 #[.slice (some ⟨g, 0, none⟩) n cap] w fun e w' => e = .returned (.tuple #[.agg #[.int .u64 z0, .int .u64 z1, .int .u64 z2, .int .u64 z3], .bool true]) ∧ Below w.heap.size w w' := by
  have e16 : (65536 : Int) ^ 16 = 115792089237316195423570985008687907853269984665640564039457584007913129639936 := by decide
  have hzero : ∀ k, 16 ≤ k → k < n → dl k = 0 := by
    intro k h1 h2
    apply Int.le_antisymm _ (hb k h2).1
    apply Int.not_lt.1
    intro h
    have h3 := sm_ge n (fun i hi => (hb i hi).1) h2 h
    have h4 : (65536 : Int) ^ 16 ≤ 65536 ^ k := pow_up h1
    have := val_hi hz
    omega
  refine (ofR_fit dl n g cap hn (fun k hk => hb k (by omega)) hzero w hg hc).mono ?_
  rintro e w' ⟨rfl, hbw⟩
  have hs' : sm dl 16 = val z0 z1 z2 z3 := by
    obtain ⟨d, rfl⟩ := Nat.exists_eq_add_of_le hn.1
    rw [← hs, sm_stop d (fun j h1 h2 => hzero j h1 h2)]
  obtain ⟨h0, h1, h2, h3⟩ := val_inj (lim_Lp (fun i hi => hb i (by omega))) hz (by rw [val_Lp]; exact hs')
  rw [h0, h1, h2, h3]
  exact ⟨rfl, hbw⟩
theorem says_ofR_over {dl : Nat → Int} {n : Nat} (hn : 16 ≤ n ∧ n ≤ 64) (hb : ∀ k, k < n → 0 ≤ dl k ∧ dl k < 65536) (hs : 115792089237316195423570985008687907853269984665640564039457584007913129639936 ≤ sm dl n) (g cap : Nat) (w : World) (hg : g < w.heap.size) (hc : ∀ k, k < n → w.cell? ⟨g, k, none⟩ = some (.int .u64 (dl k))) :
    Calls Try.prog 86 #[.slice (some ⟨g, 0, none⟩) n cap] w fun e w' => e = .returned (.tuple #[.agg #[.int .u64 0, .int .u64 0, .int .u64 0, .int .u64 0], .bool false]) ∧ Below w.heap.size w w' := by
  have e16 : (65536 : Int) ^ 16 = 115792089237316195423570985008687907853269984665640564039457584007913129639936 := by decide
  refine ofR_more dl n g cap hn.2 (fun k hk => hb k (by omega)) (fun k _ h => (hb k h).1) ?_ w hg hc
  apply Classical.byContradiction
  intro hne
  have hzero : ∀ k, 16 ≤ k → k < n → dl k = 0 := by
    intro k h1 h2
    apply Int.le_antisymm _ (hb k h2).1
    apply Int.not_lt.1
    intro h
    exact hne ⟨k, h1, h2, h⟩
  have hl := sm_lim 16 (fun i hi => hb i (by omega))
  obtain ⟨d, rfl⟩ := Nat.exists_eq_add_of_le hn.1
  rw [sm_stop d (fun j h1 h2 => hzero j h1 h2)] at hs
  omega

end Go.Proofs.Ytmfnfnegnfpkiaa

/- law01.wide: is a product at most another one? num.MulDiv where the answer is known. -/
namespace Go.Proofs.Ytmfnfnegnfpkiaa
open Go.RowKit

theorem sm_below {a b : Nat → Int} {k : Nat} (hk : a k < b k) (ha : ∀ i, i < k → 0 ≤ a i ∧ a i < 65536) (hb : ∀ i, i < k → 0 ≤ b i ∧ b i < 65536) : ∀ d, (∀ j, k < j → j < k + 1 + d → a j = b j) → sm a (k + 1 + d) < sm b (k + 1 + d)
  | 0, _ => by
    have h1 := sm_lim k ha
    have h2 := sm_lim k hb
    show sm a (k + 1) < sm b (k + 1)
    rw [sm_succ, sm_succ]
    generalize (65536 : Int) ^ k = B at *
    have h3 : (a k + 1) * B ≤ b k * B := Int.mul_le_mul_of_nonneg_right (by omega) (by omega)
    rw [Int.add_mul] at h3
    omega
  | d + 1, h => by
    have h1 := sm_below hk ha hb d (fun j h1 h2 => h j h1 (by omega))
    show sm a (k + 1 + d + 1) < sm b (k + 1 + d + 1)
    rw [sm_succ, sm_succ, h (k + 1 + d) (by omega) (by omega)]
    omega
theorem sm_less {a b : Nat → Int} {n k : Nat} (hn : k < n) (hk : a k < b k) (ha : ∀ i, i < n → 0 ≤ a i ∧ a i < 65536) (hb : ∀ i, i < n → 0 ≤ b i ∧ b i < 65536) (h : ∀ j, k < j → j < n → a j = b j) : sm a n < sm b n := by
  obtain ⟨d, rfl⟩ := Nat.exists_eq_add_of_le (show k + 1 ≤ n by omega)
  exact sm_below hk (fun i hi => ha i (by omega)) (fun i hi => hb i (by omega)) d h

theorem wide_c (x0 x1 x2 x3 y0 y1 y2 y3 : Int) (hx : Lim x0 x1 x2 x3) (hy : Lim y0 y1 y2 y3) (w : World) :
    Calls Try.prog 84 #[.agg #[.int .u64 x0, .int .u64 x1, .int .u64 x2, .int .u64 x3], .agg #[.int .u64 y0, .int .u64 y1, .int .u64 y2, .int .u64 y3]] w fun e w' => ∃ (dl : Nat → Int) (g cap : Nat), e = .returned (.slice (some ⟨g, 0, none⟩) 32 cap) ∧ g < w'.heap.size ∧ (∀ k, k < 32 → w'.cell? ⟨g, k, none⟩ = some (.int .u64 (dl k))) ∧ (∀ i, i < 32 → 0 ≤ dl i ∧ dl i < 65536) ∧ Hid (sm dl 32 = val x0 x1 x2 x3 * val y0 y1 y2 y3) ∧ Below w.heap.size w w' := by
  refine (wide_any _ _ _ _ _ _ _ _ hx hy w).mono ?_
  rintro e w' ⟨dl, g, cap, rfl, hr, hl, hs, hb⟩
  obtain ⟨hgl, hcs⟩ := row_cells (n := 31) hr
  exact ⟨dl, g, cap, rfl, hgl, hcs, hl, hs, hb⟩

theorem says_small (n : Int) : Says 52 #[.int .u64 n] (.agg #[.int .u64 n, .int .u64 0, .int .u64 0, .int .u64 0]) := by
  intro w
  go_enter Try.func52, Try.ntmps52
  go_wp2
  refine bodyPost_ret (v := .agg #[.int .u64 n, .int .u64 0, .int .u64 0, .int .u64 0]) (by simp [results, Try.results52, go_sem]) rfl ⟨rfl, ?_⟩
  exact (Below.refl _ _).alloc (Nat.le_refl _) _

/-- num.MulDiv where the answer is known. -/
theorem says_md_zero {x0 x1 x2 x3 y0 y1 y2 y3 u0 u1 u2 u3 : Int} (up : Bool) (hx : Lim x0 x1 x2 x3) (hy : Lim y0 y1 y2 y3) (hu : Lim u0 u1 u2 u3) (h0 : val u0 u1 u2 u3 = 0) :
    Says 79 #[.agg #[.int .u64 x0, .int .u64 x1, .int .u64 x2, .int .u64 x3], .agg #[.int .u64 y0, .int .u64 y1, .int .u64 y2, .int .u64 y3], .agg #[.int .u64 u0, .int .u64 u1, .int .u64 u2, .int .u64 u3], .bool up] (.tuple #[.agg #[.int .u64 0, .int .u64 0, .int .u64 0, .int .u64 0], .int .i64 1]) := by
  intro w
  refine (muldiv_any _ _ _ _ _ _ _ _ _ _ _ _ up hx hy hu w).mono ?_
  rintro e w' ⟨z0, z1, z2, z3, c, rfl, hz, hs, hb⟩
  rcases hs with ⟨-, rfl, h⟩ | ⟨hc, -⟩
  · obtain ⟨rfl, rfl, rfl, rfl⟩ := (val_zero hz).1 h
    exact ⟨rfl, hb⟩
  · omega
theorem qr_one {a c q r q' r' : Int} (h1 : a = q * c + r) (h2 : a = q' * c + r') (hr : 0 ≤ r ∧ r < c) (hr' : 0 ≤ r' ∧ r' < c) : q = q' ∧ r = r' := by
  have hc : 0 < c := by omega
  have e : (q - q') * c = r' - r := by rw [Int.sub_mul]; omega
  have hlt : q - q' < 1 := Int.lt_of_mul_lt_mul_right (a := c) (by omega) (by omega)
  have hge : -1 < q - q' := Int.lt_of_mul_lt_mul_right (a := c) (by omega) (by omega)
  have : q = q' := by omega
  subst this
  omega
theorem says_md {x0 x1 x2 x3 y0 y1 y2 y3 u0 u1 u2 u3 z0 z1 z2 z3 q r : Int} (up : Bool) (hx : Lim x0 x1 x2 x3) (hy : Lim y0 y1 y2 y3) (hu : Lim u0 u1 u2 u3) (hz : Lim z0 z1 z2 z3) (hq : val x0 x1 x2 x3 * val y0 y1 y2 y3 = q * val u0 u1 u2 u3 + r) (hr : 0 ≤ r ∧ r < val u0 u1 u2 u3) (he : val z0 z1 z2 z3 = upI up q r) :
    Says 79 #[.agg #[.int .u64 x0, .int .u64 x1, .int .u64 x2, .int .u64 x3], .agg #[.int .u64 y0, .int .u64 y1, .int .u64 y2, .int .u64 y3], .agg #[.int .u64 u0, .int .u64 u1, .int .u64 u2, .int .u64 u3], .bool up] (.tuple #[.agg #[.int .u64 z0, .int .u64 z1, .int .u64 z2, .int .u64 z3], .int .i64 0]) := by
  intro w
  refine (muldiv_any _ _ _ _ _ _ _ _ _ _ _ _ up hx hy hu w).mono ?_
  rintro e w' ⟨v0, v1, v2, v3, c, rfl, hv, hs, hb⟩
  rcases hs with ⟨h, -⟩ | ⟨hc, q', r', h2, h3, h4, h5, h6⟩
  · omega
  · obtain ⟨rfl, rfl⟩ := qr_one hq h2 hr ⟨h3, h4⟩
    have := val_hi hz
    rcases h6 with ⟨-, rfl, h⟩ | ⟨h, -⟩
    · obtain ⟨rfl, rfl, rfl, rfl⟩ := val_inj hv hz (h.trans he.symm)
      exact ⟨rfl, hb⟩
    · omega
theorem says_md_over {x0 x1 x2 x3 y0 y1 y2 y3 u0 u1 u2 u3 q r : Int} (up : Bool) (hx : Lim x0 x1 x2 x3) (hy : Lim y0 y1 y2 y3) (hu : Lim u0 u1 u2 u3) (hq : val x0 x1 x2 x3 * val y0 y1 y2 y3 = q * val u0 u1 u2 u3 + r) (hr : 0 ≤ r ∧ r < val u0 u1 u2 u3) (he : 115792089237316195423570985008687907853269984665640564039457584007913129639936 ≤ upI up q r) :
    Says 79 #[.agg #[.int .u64 x0, .int .u64 x1, .int .u64 x2, .int .u64 x3], .agg #[.int .u64 y0, .int .u64 y1, .int .u64 y2, .int .u64 y3], .agg #[.int .u64 u0, .int .u64 u1, .int .u64 u2, .int .u64 u3], .bool up] (.tuple #[.agg #[.int .u64 0, .int .u64 0, .int .u64 0, .int .u64 0], .int .i64 2]) := by
  intro w
  refine (muldiv_any _ _ _ _ _ _ _ _ _ _ _ _ up hx hy hu w).mono ?_
  rintro e w' ⟨v0, v1, v2, v3, c, rfl, hv, hs, hb⟩
  rcases hs with ⟨h, -⟩ | ⟨hc, q', r', h2, h3, h4, h5, h6⟩
  · omega
  · obtain ⟨rfl, rfl⟩ := qr_one hq h2 hr ⟨h3, h4⟩
    rcases h6 with ⟨h, -⟩ | ⟨-, rfl, h⟩
    · omega
    · obtain ⟨rfl, rfl, rfl, rfl⟩ := (val_zero hv).1 h
      exact ⟨rfl, hb⟩
end Go.Proofs.Ytmfnfnegnfpkiaa

/- The reference's less, of lists of digits; plain facts on digits. -/
namespace Go.Proofs.Ytmfnfnegnfpkiaa
open Go.RowKit

set_option maxRecDepth 100000 in
set_option maxHeartbeats 8000000 in
theorem less_any (dl de : Nat → Int) (n g1 c1 g2 c2 : Nat) (hn : 0 < n ∧ n ≤ 64) (w : World) (hg1 : g1 < w.heap.size) (hg2 : g2 < w.heap.size) (hc1 : ∀ k, k < n → w.cell? ⟨g1, k, none⟩ = some (.int .u64 (dl k))) (hc2 : ∀ k, k < n → w.cell? ⟨g2, k, none⟩ = some (.int .u64 (de k))) (hl1 : ∀ i, i < n → 0 ≤ dl i ∧ dl i < 65536) (hl2 : ∀ i, i < n → 0 ≤ de i ∧ de i < 65536) :
    Calls Try.prog 105 #[.slice (some ⟨g1, 0, none⟩) n c1, .slice (some ⟨g2, 0, none⟩) n c2] w fun e w' => e = .returned (.bool (decide (sm dl n < sm de n))) ∧ Below w.heap.size w w' := by
  have hpad := pads
  have hret : ∀ c : Bool, c = decide (sm dl n < sm de n) → ∀ wz, Below w.heap.size w wz → (Ending.returned (.bool c) = .returned (.bool (decide (sm dl n < sm de n))) ∧ Below w.heap.size w wz) := by
    rintro c rfl wz hbz; exact ⟨rfl, hbz⟩
  go_enter Try.func105, Try.ntmps105
  go_wp2
  go_loopw [5] (fun i wr => ∃ (k m : Nat) (f : Nat → Obj) (dr : Nat), k ≤ n ∧ i = .int .i64 ((k : Int) - 1) ∧ w.heap.size ≤ m ∧ wr = pad w m f dr ∧ (∀ j, k ≤ j → j < n → Hid (dl j = de j))) (fun i _ => (intOf i + 1).toNat)
  case atStart =>
    obtain ⟨m, f, dr, hm, e⟩ := pad_of (Below.refl w.heap.size w)
    exact ⟨n, m, f, dr, by omega, rfl, hm, e, fun j h1 h2 => by omega⟩
  case round =>
    obtain ⟨k, m, f, dr, hk, rfl, hm, rfl, hpre⟩ := hrel
    cases k with
    | zero =>
      go_wp2
      go_ret
      refine hret _ ?_ _ (by (repeat (first | (with_reducible exact Below.refl _ _) | (with_reducible assumption) | (with_reducible apply bd) | (with_reducible apply ba) | (with_reducible refine bp ?_ (by first | omega | (simp [pad_size]; done) | (simp [pad_size]; omega)) _ _) | (with_reducible refine bs ?_ (by first | omega | (simp [pad_size]; done) | (simp [pad_size]; omega)) _) | (with_reducible refine bt ?_ (by assumption)))))
      rw [sm_congr n (fun i hi => (hpre i (Nat.zero_le _) hi).out)]
      simp
    | succ j =>
      have e : (((j + 1 : Nat) : Int) - 1) = (j : Int) := by omega
      rw [e]
      clear e
      have hj : j < n := by omega
      have d1 := hc1 j hj
      have d2 := hc2 j hj
      have hg1m : g1 < m := by omega
      have hg2m : g2 < m := by omega
      have b1 := hl1 j hj
      have b2 := hl2 j hj
      clear hc1 hc2
      rcases Int.lt_trichotomy (dl j) (de j) with hlt | he | hgt
      · have hne : (dl j != de j) = true := by simp; omega
        have hdc : decide (dl j < de j) = true := by simpa using hlt
        go_wp2
        go_region
        all_goals go_wp2
        all_goals go_region
        all_goals go_wp2
        all_goals go_ret
        all_goals
          refine hret _ ?_ _ (by (repeat (first | (with_reducible exact Below.refl _ _) | (with_reducible assumption) | (with_reducible apply bd) | (with_reducible apply ba) | (with_reducible refine bp ?_ (by first | omega | (simp [pad_size]; done) | (simp [pad_size]; omega)) _ _) | (with_reducible refine bs ?_ (by first | omega | (simp [pad_size]; done) | (simp [pad_size]; omega)) _) | (with_reducible refine bt ?_ (by assumption)))))
          have h := sm_less hj hlt hl1 hl2 (fun i h1 h2 => (hpre i (by omega) h2).out)
          exact (decide_eq_true (by omega)).symm
      · have he' : Hid _ := he
        rw [← he] at d2
        have hne : (dl j != dl j) = false := by simp
        clear he
        go_wp2
        go_region
        all_goals go_wp2
        all_goals go_roundw
        case rel =>
          refine ⟨j, m, f, dr + 1, by omega, by go_num, hm, by first | rfl | (simp [hpad]; done), fun i h1 h2 => ?_⟩
          by_cases e : i = j
          · rw [e]; exact he'
          · exact hpre i (by omega) h2
        case measure => simp [intOf]
      · have hne : (dl j != de j) = true := by simp; omega
        have hdc : decide (dl j < de j) = false := by simp; omega
        go_wp2
        go_region
        all_goals go_wp2
        all_goals go_region
        all_goals go_wp2
        all_goals go_ret
        all_goals
          refine hret _ ?_ _ (by (repeat (first | (with_reducible exact Below.refl _ _) | (with_reducible assumption) | (with_reducible apply bd) | (with_reducible apply ba) | (with_reducible refine bp ?_ (by first | omega | (simp [pad_size]; done) | (simp [pad_size]; omega)) _ _) | (with_reducible refine bs ?_ (by first | omega | (simp [pad_size]; done) | (simp [pad_size]; omega)) _) | (with_reducible refine bt ?_ (by assumption)))))
          have h := sm_less hj hgt hl2 hl1 (fun i h1 h2 => (hpre i (by omega) h2).out.symm)
          exact (decide_eq_false (by omega)).symm

theorem sm_high {dl : Nat → Int} (j : Nat) : ∀ d, ∃ X : Int, sm dl (j + 1 + d) = sm dl j + (dl j + 65536 * X) * 65536 ^ j
  | 0 => ⟨0, by show sm dl (j + 1) = _; rw [sm_succ, Int.mul_zero, Int.add_zero]⟩
  | d + 1 => by
    obtain ⟨X, h⟩ := sm_high (dl := dl) j d
    refine ⟨X + dl (j + 1 + d) * 65536 ^ d, ?_⟩
    show sm dl (j + 1 + d + 1) = _
    rw [sm_succ, h, show j + 1 + d = j + (1 + d) by omega, Int.pow_add, Int.pow_add, show (65536 : Int) ^ 1 = 65536 by decide]
    generalize (65536 : Int) ^ j = P
    generalize (65536 : Int) ^ d = Q
    grind
theorem sm_dig {dl : Nat → Int} {n j : Nat} (hj : j < n) (hl : ∀ i, i < n → 0 ≤ dl i ∧ dl i < 65536) : sm dl n / 65536 ^ j % 65536 = dl j := by
  obtain ⟨d, rfl⟩ := Nat.exists_eq_add_of_le (show j + 1 ≤ n by omega)
  obtain ⟨X, h⟩ := sm_high (dl := dl) j d
  have h0 := sm_lim j (fun i hi => hl i (by omega))
  have h1 := hl j (by omega)
  have hp : (0 : Int) < 65536 ^ j := Int.pow_pos (by decide)
  rw [h, Int.add_mul_ediv_right _ _ (by omega), Int.ediv_eq_zero_of_lt h0.1 h0.2]
  omega
theorem pow_16 (j s : Nat) : (2 : Int) ^ (16 * j + s) = 65536 ^ j * 2 ^ s := by
  rw [Int.pow_add, Int.pow_mul]; rfl
theorem ediv_pow (P : Int) (j s : Nat) : P / 2 ^ (16 * j + s) = P / 65536 ^ j / 2 ^ s := by
  rw [pow_16]
  first
    | exact (Int.ediv_ediv_eq_ediv_mul _ (Int.pow_nonneg (by decide))).symm
    | exact (Int.ediv_ediv (Int.pow_nonneg (by decide))).symm
    | exact (Int.ediv_ediv_of_nonneg (Int.pow_nonneg (by decide))).symm
theorem ediv_half (P : Int) (k : Nat) : P / 2 ^ k = 2 * (P / 2 ^ (k + 1)) + P / 2 ^ k % 2 := by
  have e : P / 2 ^ (k + 1) = P / 2 ^ k / 2 := by
    rw [Int.pow_succ]
    first
      | exact (Int.ediv_ediv_eq_ediv_mul _ (Int.pow_nonneg (by decide))).symm
      | exact (Int.ediv_ediv (Int.pow_nonneg (by decide))).symm
      | exact (Int.ediv_ediv_of_nonneg (Int.pow_nonneg (by decide))).symm
  rw [e]
  generalize P / 2 ^ k = q
  omega
def Z17 : Array Value := #[.int .u64 0, .int .u64 0, .int .u64 0, .int .u64 0, .int .u64 0, .int .u64 0, .int .u64 0, .int .u64 0, .int .u64 0, .int .u64 0, .int .u64 0, .int .u64 0, .int .u64 0, .int .u64 0, .int .u64 0, .int .u64 0, .int .u64 0]
theorem make17 (w : World) : (Instr.makeSlice 111 (.int .i64 17) (.int .i64 17)).run Try.prog w = .ok (.slice (some ⟨w.heap.size, 0, none⟩) 17 17) (w.alloc (.cells Z17 22)) := by kernel_rfl
theorem row17 (w : World) : (w.alloc (.cells Z17 22)).ownsRow w.heap.size 22 1 (.slice (some ⟨w.heap.size, 0, none⟩) 17 17) 17 (encU (fl (fun _ => 0) 17)) := by
  refine ⟨by simp [encU, fl], .inr ⟨w.heap.size, 17, Z17, rfl, Nat.le_refl _, World.alloc_heap_new w _, by omega, ?_⟩⟩
  exact ⟨by decide, by rfl, by rfl⟩
end Go.Proofs.Ytmfnfnegnfpkiaa

/- The reference's By: digits by a number, bit by bit. -/
namespace Go.Proofs.Ytmfnfnegnfpkiaa
open Go.RowKit

def db17 (u0 u1 u2 u3 : Int) : Nat → Int := fun k => if k < 16 then dg u0 u1 u2 u3 k else 0
theorem db17_lim {u0 u1 u2 u3 : Int} (k : Nat) : 0 ≤ db17 u0 u1 u2 u3 k ∧ db17 u0 u1 u2 u3 k < 65536 := by
  unfold db17; split
  · exact dg_lim k
  · omega
theorem db17_sm {u0 u1 u2 u3 : Int} (hu : Lim u0 u1 u2 u3) : sm (db17 u0 u1 u2 u3) 17 = val u0 u1 u2 u3 := by
  rw [sm_succ, sm_congr (b := dg u0 u1 u2 u3) 16 (fun i hi => by unfold db17; rw [if_pos hi]), sm_dg hu]
  simp [db17]
/-- What the bits from a place on make: a quotient and what is left. -/
def ByS (P C qv R : Int) (k : Nat) : Prop := P / 2 ^ k = qv * C + R ∧ 0 ≤ R ∧ R < C
theorem byS_less {P C qv R : Int} {k : Nat} (h : ByS P C qv R (k + 1)) (hl : 2 * R + P / 2 ^ k % 2 < C) : ByS P C (2 * qv) (2 * R + P / 2 ^ k % 2) k := by
  obtain ⟨h1, h2, h3⟩ := h
  refine ⟨?_, by omega, hl⟩
  have e := ediv_half P k
  rw [h1] at e
  have e2 : 2 * qv * C = 2 * (qv * C) := Int.mul_assoc _ _ _
  rw [e2]
  generalize qv * C = t at *
  generalize P / 2 ^ k % 2 = b at *
  omega
theorem byS_more {P C qv R : Int} {k : Nat} (h : ByS P C qv R (k + 1)) (hl : ¬ 2 * R + P / 2 ^ k % 2 < C) : ByS P C (2 * qv + 1) (2 * R + P / 2 ^ k % 2 - C) k := by
  obtain ⟨h1, h2, h3⟩ := h
  refine ⟨?_, by omega, by omega⟩
  have e := ediv_half P k
  rw [h1] at e
  have e2 : (2 * qv + 1) * C = 2 * (qv * C) + C := by rw [Int.add_mul, Int.mul_assoc, Int.one_mul]
  rw [e2]
  generalize qv * C = t at *
  generalize P / 2 ^ k % 2 = b at *
  omega
theorem q_digit {dq : Nat → Int} {qv : Int} {j s : Nat} (hj : j < 32) (hl : ∀ i, i < 32 → 0 ≤ dq i ∧ dq i < 65536) (h : sm dq 32 = qv * 2 ^ (16 * j + s + 1)) : dq j = qv * 2 ^ (s + 1) % 65536 := by
  rw [← sm_dig hj hl, h, show 16 * j + s + 1 = 16 * j + (s + 1) by omega, pow_16]
  have hp : (0 : Int) < 65536 ^ j := Int.pow_pos (by decide)
  rw [show qv * (65536 ^ j * 2 ^ (s + 1)) = (qv * 2 ^ (s + 1)) * 65536 ^ j by grind, Int.mul_ediv_cancel _ (by omega)]
theorem sm_put {dq : Nat → Int} {j : Nat} (u : Int) : ∀ n, j < n → sm (upd dq j u) n = sm dq n + (u - dq j) * 65536 ^ j
  | 0, h => by omega
  | n + 1, h => by
    rw [sm_succ, sm_succ]
    by_cases e : j = n
    · subst e
      rw [sm_upd_above (Nat.le_refl _), upd_at, Int.sub_mul]; omega
    · rw [sm_put u n (by omega), upd_ne (by omega)]; omega

theorem row_other {W : World} {base b o g n cap : Nat} {e : TypeId} {u : Value} {xs : List Value} (h : W.ownsRow base e 1 (.slice (some ⟨g, 0, none⟩) n cap) n xs) (hne : g ≠ b) : (W.setCell ⟨b, o, none⟩ u).ownsRow base e 1 (.slice (some ⟨g, 0, none⟩) n cap) n xs := by
  obtain ⟨h1, h2⟩ := h
  refine ⟨h1, ?_⟩
  rcases h2 with h2 | ⟨g', cap', cur, hv, hg, hh, r⟩
  · exact .inl h2
  · cases hv
    exact .inr ⟨g, cap, cur, rfl, hg, (Below.heap_setCell W ⟨b, o, none⟩ u g hne).trans hh, r⟩
theorem row_drew {W : World} {base n : Nat} {e : TypeId} {size : Nat} {v : Value} {xs : List Value} (h : W.ownsRow base e size v n xs) : W.drew.ownsRow base e size v n xs := h
theorem tm2 {y : Int} (h : 0 ≤ y) : y.tmod 2 = y % 2 := Int.tmod_eq_emod_of_nonneg h
theorem tm2' {y : Int} (h : 0 ≤ y) {d : Int} (hd : 0 ≤ d := by decide) : (y / d).tmod 2 = y / d % 2 := Int.tmod_eq_emod_of_nonneg (Int.ediv_nonneg h hd)
theorem ret_tup {v : Value} {a b : Bool} (h : a = b) : Ending.returned (.tuple #[v, .bool a]) = .returned (.tuple #[v, .bool b]) := by rw [h]

set_option maxRecDepth 100000 in
set_option maxHeartbeats 16000000 in
theorem by_any (dp : Nat → Int) (gp cp : Nat) (u0 u1 u2 u3 : Int) (hu : Lim u0 u1 u2 u3) (hu0 : 0 < val u0 u1 u2 u3) (hdp : ∀ i, i < 32 → 0 ≤ dp i ∧ dp i < 65536) (w : World) (hgp : gp < w.heap.size) (hcp : ∀ k, k < 32 → w.cell? ⟨gp, k, none⟩ = some (.int .u64 (dp k))) :
    Calls Try.prog 83 #[.slice (some ⟨gp, 0, none⟩) 32 cp, .agg #[.int .u64 u0, .int .u64 u1, .int .u64 u2, .int .u64 u3]] w fun e w' =>
      ∃ (dq : Nat → Int) (gq cq : Nat) (qv R : Int), e = .returned (.tuple #[.slice (some ⟨gq, 0, none⟩) 32 cq, .bool (decide (0 < R))]) ∧ w'.ownsRow w.heap.size 22 1 (.slice (some ⟨gq, 0, none⟩) 32 cq) 32 (encU (fl dq 32)) ∧ (∀ i, i < 32 → 0 ≤ dq i ∧ dq i < 65536) ∧ Hid (sm dp 32 = qv * val u0 u1 u2 u3 + R ∧ 0 ≤ R ∧ R < val u0 u1 u2 u3 ∧ sm dq 32 = qv) ∧ Below w.heap.size w w' := by
  obtain ⟨i0, hi, hz0, hz1, hz2⟩ := info_parts u64_info
  have hmk := make32
  have hmk' := make17
  go_enter Try.func83, Try.ntmps83
  go_wp2_with (first
    | (go_at_call 91; refine (digits_o _ _ _ _ hu _).mono ?_; rintro e w1 ⟨g1, cap1, rfl, ho1, hl1, hg1, hb1⟩; have hs1 := hb1.size; simp at hs1 hl1)
    | (at_builtin; refine wpList_append_own _ rfl _ _ 111 rfl (w.heap.size + 1 + 1) 22 i0 _ 1 8 Try.underlying111 hi hz0 hz1 hz2 rfl (by decide) _ _ _ rfl ((row_base ho1 (by simp)).alloc _) ⟨w1.heap.size, 0, none⟩ 1 1 [_] rfl rfl (cell_one_new _ _ _) (by simp [Value.oneCell']) (by unfold maxLen; omega) (by omega) (by simp; omega) ?_; intro v' w' hown' hgrow _))
  obtain ⟨gb, cb, rfl, hgb, hgbl, hcb, -⟩ := row_words (n := 16) (l := fl (db17 u0 u1 u2 u3) 17) (by
    rw [fl_snoc, encU_snoc, fl_congr (b := dg u0 u1 u2 u3) 16 (fun i hi => by unfold db17; rw [if_pos hi])]
    simpa [db17] using hown') (fl_len _ _)
  have hBw' : Below (w.heap.size + 1 + 1) ((w.alloc (.cells #[.int .u64 u0, .int .u64 u1, .int .u64 u2, .int .u64 u3] 69)).alloc (.cells Z32 22)) w' := by
    have hB1 : Below (w.heap.size + 1 + 1) ((w.alloc (.cells #[.int .u64 u0, .int .u64 u1, .int .u64 u2, .int .u64 u3] 69)).alloc (.cells Z32 22)) w1 := by simpa using hb1
    refine (hB1.alloc (by omega) _).grown hgrow (by simp; omega) (fun k' e => ?_)
    cases e; omega
  have hsw' : w.heap.size + 1 + 1 ≤ w'.heap.size := by have := hBw'.size; simpa using this
  have hB0 : Below w.heap.size w w' := (ba (ba (Below.refl _ _) _) _).trans (hBw'.mono (by omega))
  have hQ : w'.ownsRow w.heap.size 22 1 (.slice (some ⟨w.heap.size + 1, 0, none⟩) 32 32) 32 (encU (fl (fun _ => 0) 32)) := by
    have h := row32 (w.alloc (.cells #[.int .u64 u0, .int .u64 u1, .int .u64 u2, .int .u64 u3] 69))
    have e : (w.alloc (.cells #[.int .u64 u0, .int .u64 u1, .int .u64 u2, .int .u64 u3] 69)).heap.size = w.heap.size + 1 := by simp
    rw [e] at h
    exact row_base (row_below h (by simpa using hBw')) (by omega)
  have hcb' : ∀ k, k < 17 → w'.cell? ⟨gb, k, none⟩ = some (.int .u64 (db17 u0 u1 u2 u3 k)) := fun k hk => by rw [hcb k hk]; simp [fl]
  have hP0 : sm dp 32 / 2 ^ 512 = 0 := by
    have h := sm_lim 32 hdp
    have e : (65536 : Int) ^ 32 = 2 ^ 512 := by rw [show (65536 : Int) = 2 ^ 16 by decide, ← Int.pow_mul]
    rw [e] at h
    exact Int.ediv_eq_zero_of_lt h.1 h.2
  clear hcb hown' hgrow ho1 hb1 hl1 hs1 hmk hmk' hBw'
  obtain ⟨P, hPe⟩ : ∃ P, Hid (sm dp 32 = P) := ⟨_, rfl⟩
  obtain ⟨C, hCe⟩ : ∃ C, Hid (val u0 u1 u2 u3 = C) := ⟨_, rfl⟩
  have hC0 : 0 < C := by rw [← hCe.out]; exact hu0
  have hC1 : Hid (C < 115792089237316195423570985008687907853269984665640564039457584007913129639936) := by unfold Hid; rw [← hCe.out]; exact val_hi hu
  go_loopw [9] (fun i wr => ∃ (k : Nat) (dq dr : Nat → Int) (qv R : Int), k ≤ 512 ∧ i = .int .i64 ((k : Int) - 1) ∧ wr.ownsRow w.heap.size 22 1 (.slice (some ⟨w.heap.size + 1, 0, none⟩) 32 32) 32 (encU (fl dq 32)) ∧ wr.ownsRow w'.heap.size 22 1 (.slice (some ⟨w'.heap.size, 0, none⟩) 17 17) 17 (encU (fl dr 17)) ∧ (∀ j, j < 17 → wr.cell? ⟨gb, j, none⟩ = some (.int .u64 (db17 u0 u1 u2 u3 j))) ∧ (∀ j, j < 32 → 0 ≤ dq j ∧ dq j < 65536) ∧ (∀ j, j < 17 → 0 ≤ dr j ∧ dr j < 65536) ∧ Hid (ByS P C qv R k ∧ sm dr 17 = R ∧ sm dq 32 = qv * 2 ^ k) ∧ Below w.heap.size w wr) (fun i _ => (intOf i + 1).toNat)
  case atStart =>
    refine ⟨512, fun _ => 0, fun _ => 0, 0, 0, by omega, rfl, hQ.alloc _, row17 w', fun j hj => ?_, fun j _ => (by show (0 : Int) ≤ 0 ∧ (0 : Int) < 65536; omega), fun j _ => (by show (0 : Int) ≤ 0 ∧ (0 : Int) < 65536; omega), ⟨⟨?_, by omega, hC0⟩, sm_zero 17, by rw [sm_zero]; omega⟩, ba hB0 _⟩
    · exact (((Below.refl w'.heap.size w').alloc (Nat.le_refl _) _).cell (p := ⟨gb, j, none⟩) hgbl).trans (hcb' j hj)
    · rw [← hPe.out, hP0]; omega
  case round =>
    have hdim : gb ≠ w.heap.size + 1 := by omega
    have hdim2 : gb ≠ w'.heap.size := by omega
    have hdim3 : w'.heap.size ≠ w.heap.size + 1 := by omega
    clear hQ hcb' hP0 hB0
    obtain ⟨k, dq, dr, qv, R, hk, rfl, hq, hr, hcb, hlq, hlr, hby, hB⟩ := hrel
    have hsw := hB.size
    cases k with
    | zero =>
      obtain ⟨hbs, hsr, hsq⟩ := hby.out
      obtain ⟨hrl, hcr⟩ := row_cells (n := 16) hr
      have hfin : Hid (sm dp 32 = qv * val u0 u1 u2 u3 + R ∧ 0 ≤ R ∧ R < val u0 u1 u2 u3 ∧ sm dq 32 = qv) := by
        obtain ⟨h1, h2, h3⟩ := hbs
        unfold Hid
        rw [hPe.out, hCe.out]
        refine ⟨?_, h2, h3, ?_⟩
        · have e : P / 2 ^ 0 = P := by simp
          rw [← e]; exact h1
        · rw [hsq]; simp
      clear hbs hsq hby
      go_wp2
      go_loopw [16] (fun i wz => ∃ kk : Nat, kk ≤ 17 ∧ i = .int .i64 kk ∧ (∀ j, j < kk → Hid (dr j = 0)) ∧ wz = wr) (fun i _ => 17 - (intOf i).toNat)
      case atStart => exact ⟨0, by omega, rfl, fun j h => by omega, rfl⟩
      case round =>
        obtain ⟨kk, hkk, rfl, hzz, rfl⟩ := hrel
        by_cases hlt : kk < 17
        · have ck := hcr kk hlt
          have bk := hlr kk hlt
          by_cases hp : 0 < dr kk
          · have hR : 0 < R := by
              have h := sm_ge 17 (fun i hi => (hlr i hi).1) hlt hp
              have : (0 : Int) < 65536 ^ kk := Int.pow_pos (by decide)
              omega
            have hdR : decide (0 < R) = true := by simpa using hR
            clear hcr
            go_wp2
            go_ret2
            exact ⟨dq, w.heap.size + 1, 32, qv, R, ret_tup (a := true) hdR.symm, hq, hlq, hfin, hB⟩
          · have hd0 : dr kk = 0 := by omega
            have Hd0 : Hid _ := hd0
            rw [hd0] at ck
            clear hcr hd0 hp bk
            go_wp2
            go_roundw
            case rel =>
              refine ⟨kk + 1, by omega, by go_num, fun j hj => ?_, by first | rfl | trivial⟩
              by_cases e : j = kk
              · rw [e]; exact Hd0
              · exact hzz j (by omega)
            case measure => (simp [intOf] <;> omega)
        · have hk' : kk = 17 := by omega
          subst hk'
          have hR : R = 0 := by rw [← hsr, sm_congr (b := fun _ => 0) 17 (fun i hi => (hzz i hi).out), sm_zero]
          have hdR : decide (0 < R) = false := by rw [hR]; rfl
          clear hcr
          go_wp2
          go_ret2
          exact ⟨dq, w.heap.size + 1, 32, qv, R, ret_tup (a := false) hdR.symm, hq, hlq, hfin, hB⟩
    | succ k =>
      have e : (((k + 1 : Nat) : Int) - 1) = (k : Int) := by omega
      rw [e]
      clear e
      obtain ⟨hbs, hsr, hsq⟩ := hby.out
      obtain ⟨j, s, hs, hj, hkj⟩ : ∃ j s : Nat, s < 16 ∧ j < 32 ∧ k = 16 * j + s := ⟨k / 16, k % 16, by omega, by omega, by omega⟩
      have hkq : (k : Int).tdiv 16 = (j : Int) := by rw [Int.tdiv_eq_ediv_of_nonneg (by omega)]; omega
      have hkm : (k : Int).tmod 16 = (s : Int) := by rw [Int.tmod_eq_emod_of_nonneg (by omega)]; omega
      have hkq2 : (k : Int) / 16 = (j : Int) := by omega
      have hkm2 : (k : Int) % 16 = (s : Int) := by omega
      have hkq3 : k / 16 = j := by omega
      have hkm3 : k % 16 = s := by omega
      have cpj : wr.cell? ⟨gp, j, none⟩ = some (.int .u64 (dp j)) := (hB.cell (p := ⟨gp, j, none⟩) hgp).trans (hcp j hj)
      have bpj := hdp j hj
      obtain ⟨bit, hbit⟩ : ∃ b, Hid (b = P / 2 ^ k % 2) := ⟨_, rfl⟩
      have hb01 : 0 ≤ bit ∧ bit ≤ 1 := by have := hbit.out; omega
      have hbd : Hid (dp j / 2 ^ s % 2 = bit) := by
        unfold Hid
        rw [hbit.out, hkj, ediv_pow, ← hPe.out]
        have h1 := sm_dig hj hdp
        generalize sm dp 32 / 65536 ^ j = Z at *
        rw [← h1]
        rcases (show s = 0 ∨ s = 1 ∨ s = 2 ∨ s = 3 ∨ s = 4 ∨ s = 5 ∨ s = 6 ∨ s = 7 ∨ s = 8 ∨ s = 9 ∨ s = 10 ∨ s = 11 ∨ s = 12 ∨ s = 13 ∨ s = 14 ∨ s = 15 by omega) with rfl | rfl | rfl | rfl | rfl | rfl | rfl | rfl | rfl | rfl | rfl | rfl | rfl | rfl | rfl | rfl <;> (simp only [Int.reducePow]; omega)
      have hkk0 : (0 : Int) ≤ (k : Int) := by omega
      have HKJ : Hid (k = 16 * j + s) := hkj
      clear hkj
      clear hcp hby
      go_upto_region 7 with fail
      go_cut [10] from 29 to 96 (fun s10 wx => s10 = .int .u64 bit ∧ wx = wr)
      case first =>
        clear hq hr hcb hlq hlr hbs hsr hsq
        rcases (show s = 0 ∨ s = 1 ∨ s = 2 ∨ s = 3 ∨ s = 4 ∨ s = 5 ∨ s = 6 ∨ s = 7 ∨ s = 8 ∨ s = 9 ∨ s = 10 ∨ s = 11 ∨ s = 12 ∨ s = 13 ∨ s = 14 ∨ s = 15 by omega) with rfl | rfl | rfl | rfl | rfl | rfl | rfl | rfl | rfl | rfl | rfl | rfl | rfl | rfl | rfl | rfl
        all_goals
          have hbs' := hbd.out
          simp only [Int.reducePow, Int.ediv_one] at hbs'
          clear hs
          go_wp2
          go_meet
          exact ⟨by first | rfl | (rw [← hbs']; done) | (simp [tm2 bpj.1, tm2' bpj.1, hbs']; done), by first | rfl | trivial⟩
      case rest =>
        obtain ⟨rfl, rfl⟩ := hcut
        clear hbd cpj bpj
        go_wp2
        go_loopw [10, 11] (fun o kk wz => ∃ (m : Nat) (c : Int) (de : Nat → Int), m ≤ 17 ∧ o = .int .u64 c ∧ kk = .int .i64 m ∧ (0 ≤ c ∧ c ≤ 1) ∧ wz.ownsRow w.heap.size 22 1 (.slice (some ⟨w.heap.size + 1, 0, none⟩) 32 32) 32 (encU (fl dq 32)) ∧ wz.ownsRow w'.heap.size 22 1 (.slice (some ⟨w'.heap.size, 0, none⟩) 17 17) 17 (encU (fl de 17)) ∧ (∀ i, i < 17 → wz.cell? ⟨gb, i, none⟩ = some (.int .u64 (db17 u0 u1 u2 u3 i))) ∧ (∀ i, i < 17 → 0 ≤ de i ∧ de i < 65536) ∧ (∀ i, m ≤ i → de i = dr i) ∧ Hid (sm de m + c * 65536 ^ m = 2 * sm dr m + bit) ∧ Below w.heap.size w wz) (fun _ kk _ => 17 - (intOf kk).toNat)
        case atStart => exact ⟨0, bit, dr, by omega, rfl, rfl, hb01, hq, hr, hcb, hlr, fun _ _ => rfl, by unfold Hid; simp [sm], hB⟩
        case round =>
          clear hq hr hcb hB hsw
          obtain ⟨m, c, de, hm, rfl, rfl, hc, hq, hr, hcb, hle, hde, hsm, hB⟩ := hrel
          have hsw := hB.size
          obtain ⟨gr, cr, hv, hgr, hgrl, hcr, hfr⟩ := row_words (n := 16) hr (fl_len _ _)
          cases hv
          by_cases hlt : m < 17
          · have ck : wr.cell? ⟨w'.heap.size, m, none⟩ = some (.int .u64 (dr m)) := by rw [hcr m hlt]; simp [fl, hde m (Nat.le_refl _)]
            have fk := hfr m
            have bk := hlr m hlt
            obtain ⟨d, hd⟩ : ∃ d, Hid (dr m = d) := ⟨_, rfl⟩
            rw [hd.out] at ck bk
            obtain ⟨t1, ht1⟩ : ∃ t, Hid (t = d * 2) := ⟨_, rfl⟩
            obtain ⟨t, hte⟩ : ∃ t, Hid (t = d * 2 + c) := ⟨_, rfl⟩
            have hw1 : IntKind.u64.wrap (d * 2) = t1 := by rw [IntKind.wrap_u64]; have := ht1.out; omega
            have hw2 : IntKind.u64.wrap (t1 + c) = t := by rw [IntKind.wrap_u64]; have := ht1.out; have := hte.out; omega
            have htb : 0 ≤ t ∧ t ≤ 131071 := by have := hte.out; omega
            have hr1 : t.tmod 65536 = t % 65536 := Int.tmod_eq_emod_of_nonneg htb.1
            have hr2 : t.tdiv 65536 = t / 65536 := Int.tdiv_eq_ediv_of_nonneg htb.1
            have hnz : ¬ (65536 : Int) = 0 := by omega
            clear hcr hfr
            go_wp2
            all_goals try go_region
            all_goals go_wp2
            all_goals go_roundw
            case rel =>
              refine ⟨m + 1, t / 65536, upd de m (t % 65536), by omega, rfl, by go_num, by omega, ?_, ?_, ?_, ?_, ?_, ?_, ?_⟩
              · exact row_other hq hdim3.symm
              · rw [← fl_set]; exact row_set _ hr hlt
              · intro i hi; exact (cell_other hdim2).trans (hcb i hi)
              · intro i hi; unfold upd; split
                · omega
                · exact hle i hi
              · intro i hi; rw [upd_ne (by omega)]; exact hde i (by omega)
              · have h := hsm.out
                show _ = _
                rw [sm_succ, sm_succ, sm_upd_above (Nat.le_refl _), upd_at, Int.pow_succ, hd.out]
                have h2 : t % 65536 + t / 65536 * 65536 = d * 2 + c := by have := hte.out; omega
                generalize (65536 : Int) ^ m = B at *
                have h3 : (t % 65536 + t / 65536 * 65536) * B = (d * 2 + c) * B := by rw [h2]
                grind
              · exact hB.setCell (p := ⟨w'.heap.size, m, none⟩) (by show w.heap.size ≤ w'.heap.size; omega) _
            case measure => (simp [intOf] <;> omega)
          · have hm' : m = 17 := by omega
            subst hm'
            have e17 : (65536 : Int) ^ 17 = 7588550360256754183279148073529370729071901715047420004889892225542594864082845696 := by decide
            have hsde : sm de 17 = 2 * R + bit := by
              have h1 := hsm.out
              have h2 := sm_lim 17 hle
              have h3 := hC1.out
              have h4 := hbs.2
              rw [hsr, e17] at h1
              rw [e17] at h2
              omega
            have hsdb : sm (db17 u0 u1 u2 u3) 17 = C := by rw [db17_sm hu, hCe.out]
            have hcd : ∀ i, i < 17 → wr.cell? ⟨w'.heap.size, i, none⟩ = some (.int .u64 (de i)) := fun i hi => by rw [hcr i hi]; simp [fl]
            have hgbr : gb < wr.heap.size := lt_of_cell (hcb 0 (by omega))
            have hsq2 : Hid (sm dq 32 = 2 * qv * 2 ^ k) := by unfold Hid; rw [hsq, Int.pow_succ]; grind
            clear hcr hfr hsm
            by_cases hless : 2 * R + bit < C
            · have hdec : decide (sm de 17 < sm (db17 u0 u1 u2 u3) 17) = true := by rw [hsde, hsdb]; simpa using hless
              have hnew : Hid (ByS P C (2 * qv) (2 * R + bit) k) := by
                have := hbit.out; unfold Hid; rw [this]; exact byS_less hbs (by rw [← this]; exact hless)
              clear hsdb
              go_wp2_with (go_at_call 105; refine (less_any de (db17 u0 u1 u2 u3) 17 w'.heap.size 17 gb cb (by omega) _ hgrl hgbr hcd hcb hle (fun i _ => db17_lim i)).mono ?_; rintro e w3 ⟨rfl, hb3⟩; rw [hdec])
              go_roundw
              case rel =>
                (repeat apply Exists.intro)
                refine And.intro ?_ rfl
                exact ⟨k, dq, de, 2 * qv, 2 * R + bit, by omega, by go_num, row_below hq hb3, row_below hr hb3, fun i hi => (hb3.cell (p := ⟨gb, i, none⟩) hgbr).trans (hcb i hi), hlq, hle, ⟨hnew.out, hsde, hsq2.out⟩, bt' hB hb3 hsw⟩
              case measure => (simp [intOf] <;> omega)
            · have hdec : decide (sm de 17 < sm (db17 u0 u1 u2 u3) 17) = false := by rw [hsde, hsdb]; simpa using hless
              have hnew : Hid (ByS P C (2 * qv + 1) (2 * R + bit - C) k) := by
                have := hbit.out; unfold Hid; rw [this]; exact byS_more hbs (by rw [← this]; exact hless)
              have Hless : Hid (C ≤ 2 * R + bit) := show _ ≤ _ by omega
              have HsC : Hid _ := hsdb
              have Hsde : Hid _ := hsde
              clear hless hsdb hsde
              go_wp2_with (go_at_call 105; refine (less_any de (db17 u0 u1 u2 u3) 17 w'.heap.size 17 gb cb (by omega) _ hgrl hgbr hcd hcb hle (fun i _ => db17_lim i)).mono ?_; rintro e w3 ⟨rfl, hb3⟩; rw [hdec])
              have hq3 := row_below hq hb3
              have hr3 := row_below hr hb3
              have hcb3 : ∀ i, i < 17 → w3.cell? ⟨gb, i, none⟩ = some (.int .u64 (db17 u0 u1 u2 u3 i)) := fun i hi => (hb3.cell (p := ⟨gb, i, none⟩) hgbr).trans (hcb i hi)
              have hB3 := bt' hB hb3 hsw
              clear hq hr hcb hB hsw hcd hgbr hgrl hb3 hdec
              go_loopw [13, 14] (fun o kk wz => ∃ (m : Nat) (b : Int) (dt : Nat → Int), m ≤ 17 ∧ o = .int .u64 b ∧ kk = .int .i64 m ∧ (0 ≤ b ∧ b ≤ 1) ∧ wz.ownsRow w.heap.size 22 1 (.slice (some ⟨w.heap.size + 1, 0, none⟩) 32 32) 32 (encU (fl dq 32)) ∧ wz.ownsRow w'.heap.size 22 1 (.slice (some ⟨w'.heap.size, 0, none⟩) 17 17) 17 (encU (fl dt 17)) ∧ (∀ i, i < 17 → wz.cell? ⟨gb, i, none⟩ = some (.int .u64 (db17 u0 u1 u2 u3 i))) ∧ (∀ i, i < 17 → 0 ≤ dt i ∧ dt i < 65536) ∧ (∀ i, m ≤ i → dt i = de i) ∧ Hid (sm dt m = sm de m - sm (db17 u0 u1 u2 u3) m + b * 65536 ^ m) ∧ Below w.heap.size w wz) (fun _ kk _ => 17 - (intOf kk).toNat)
              case atStart => exact ⟨0, 0, de, by omega, rfl, rfl, by omega, hq3, hr3, hcb3, hle, fun _ _ => rfl, by unfold Hid; simp [sm], hB3⟩
              case round =>
                clear hq3 hr3 hcb3 hB3
                obtain ⟨m, b, dt, hm, rfl, rfl, hb, hq, hr, hcb, hlt', hdt, hsm, hB⟩ := hrel
                have hsw := hB.size
                obtain ⟨gr, cr, hv, hgr, hgrl, hcr, hfr⟩ := row_words (n := 16) hr (fl_len _ _)
                cases hv
                by_cases hlt : m < 17
                · have ck : wr.cell? ⟨w'.heap.size, m, none⟩ = some (.int .u64 (de m)) := by rw [hcr m hlt]; simp [fl, hdt m (Nat.le_refl _)]
                  have fk := hfr m
                  have c2k := hcb m hlt
                  have p1 := hle m hlt
                  have p2 := @db17_lim u0 u1 u2 u3 m
                  obtain ⟨p, hpe⟩ : ∃ p, Hid (de m = p) := ⟨_, rfl⟩
                  rw [hpe.out] at ck p1
                  obtain ⟨t1, ht1⟩ : ∃ t, Hid (t = p + 65536) := ⟨_, rfl⟩
                  obtain ⟨t2, ht2⟩ : ∃ t, Hid (t = p + 65536 - db17 u0 u1 u2 u3 m) := ⟨_, rfl⟩
                  obtain ⟨t, hte⟩ : ∃ t, Hid (t = p + 65536 - db17 u0 u1 u2 u3 m - b) := ⟨_, rfl⟩
                  have hw1 : IntKind.u64.wrap (p + 65536) = t1 := by rw [IntKind.wrap_u64]; have := ht1.out; omega
                  have hw2 : IntKind.u64.wrap (t1 - db17 u0 u1 u2 u3 m) = t2 := by rw [IntKind.wrap_u64]; have := ht1.out; have := ht2.out; omega
                  have hw3 : IntKind.u64.wrap (t2 - b) = t := by rw [IntKind.wrap_u64]; have := hte.out; have := ht2.out; omega
                  have htb : 0 ≤ t ∧ t ≤ 131071 := by have := hte.out; omega
                  have hr1 : t.tmod 65536 = t % 65536 := Int.tmod_eq_emod_of_nonneg htb.1
                  have hr2 : t.tdiv 65536 = t / 65536 := Int.tdiv_eq_ediv_of_nonneg htb.1
                  have hnz : ¬ (65536 : Int) = 0 := by omega
                  obtain ⟨b', hbe⟩ : ∃ t', Hid (t' = 1 - t / 65536) := ⟨_, rfl⟩
                  have hw4 : IntKind.u64.wrap (1 - t / 65536) = b' := by rw [IntKind.wrap_u64]; have := hbe.out; omega
                  clear hcr hfr
                  go_wp2
                  go_region
                  all_goals go_wp2
                  all_goals go_roundw
                  case rel =>
                    refine ⟨m + 1, b', upd dt m (t % 65536), by omega, rfl, by go_num, by have := hbe.out; omega, ?_, ?_, ?_, ?_, ?_, ?_, ?_⟩
                    · exact row_drew (row_other hq hdim3.symm)
                    · rw [← fl_set]; exact row_drew (row_set _ hr hlt)
                    · intro i hi; exact (cell_other hdim2).trans (hcb i hi)
                    · intro i hi; unfold upd; split
                      · omega
                      · exact hlt' i hi
                    · intro i hi; rw [upd_ne (by omega)]; exact hdt i (by omega)
                    · have h := hsm.out
                      show _ = _
                      rw [sm_succ, sm_succ, sm_succ, sm_upd_above (Nat.le_refl _), upd_at, Int.pow_succ, h, hpe.out]
                      have h2 : t % 65536 = p - db17 u0 u1 u2 u3 m - b + b' * 65536 := by have := hte.out; have := hbe.out; omega
                      rw [h2]
                      generalize (65536 : Int) ^ m = B at *
                      grind
                    · first | exact (hB.setCell (p := ⟨w'.heap.size, m, none⟩) (by show w.heap.size ≤ w'.heap.size; omega) _).drew | exact (hB.drew).setCell (p := ⟨w'.heap.size, m, none⟩) (by show w.heap.size ≤ w'.heap.size; omega) _
                  case measure => (simp [intOf] <;> omega)
                · have hm' : m = 17 := by omega
                  subst hm'
                  have hsdt : Hid (sm dt 17 = 2 * R + bit - C) := by
                    have h1 := hsm.out
                    have h2 := sm_lim 17 hlt'
                    have h3 := Hless.out
                    rw [Hsde.out, HsC.out, e17] at h1
                    rw [e17] at h2
                    have h4 := hC1.out
                    have h5 := hbs.2
                    unfold Hid
                    omega
                  obtain ⟨gq, cq, hv, hgq, hgql, hcq, hfq⟩ := row_words (n := 31) hq (fl_len _ _)
                  cases hv
                  have cqj : wr.cell? ⟨w.heap.size + 1, j, none⟩ = some (.int .u64 (dq j)) := by rw [hcq j hj]; simp [fl]
                  have fqj := hfq j
                  have bqj := hlq j hj
                  have hdg : Hid (dq j = qv * 2 ^ (s + 1) % 65536) := q_digit hj hlq (by rw [hsq, HKJ.out])
                  obtain ⟨x, hxe⟩ : ∃ x, Hid (dq j = x) := ⟨_, rfl⟩
                  rw [hxe.out] at cqj bqj
                  obtain ⟨t, hte⟩ : ∃ t, Hid (t = x + 2 ^ s) := ⟨_, rfl⟩
                  have htl : 0 ≤ t ∧ t < 65536 := by
                    have h1 := hdg.out
                    rw [hxe.out] at h1
                    have h2 := hte.out
                    rcases (show s = 0 ∨ s = 1 ∨ s = 2 ∨ s = 3 ∨ s = 4 ∨ s = 5 ∨ s = 6 ∨ s = 7 ∨ s = 8 ∨ s = 9 ∨ s = 10 ∨ s = 11 ∨ s = 12 ∨ s = 13 ∨ s = 14 ∨ s = 15 by omega) with rfl | rfl | rfl | rfl | rfl | rfl | rfl | rfl | rfl | rfl | rfl | rfl | rfl | rfl | rfl | rfl <;> (simp only [Nat.reduceAdd, Int.reducePow] at h1 h2; omega)
                  have hw : Hid (IntKind.u64.wrap (x + 2 ^ s) = t) := by unfold Hid; rw [← hte.out, IntKind.wrap_u64]; omega
                  have hsum : Hid (sm (upd dq j t) 32 = (2 * qv + 1) * 2 ^ k) := by
                    unfold Hid
                    rw [sm_put t 32 hj, hsq2.out, hxe.out, hte.out, HKJ.out, pow_16]
                    generalize (65536 : Int) ^ j = B
                    generalize (2 : Int) ^ s = D
                    grind
                  have hupd : ∀ i, i < 32 → 0 ≤ upd dq j t i ∧ upd dq j t i < 65536 := fun i hi => by
                    unfold upd; split
                    · exact htl
                    · exact hlq i hi
                  have hgbr : gb < wr.heap.size := lt_of_cell (hcb 0 (by omega))
                  clear hcq hfq hcr hfr hdg hsm
                  rcases (show s = 0 ∨ s = 1 ∨ s = 2 ∨ s = 3 ∨ s = 4 ∨ s = 5 ∨ s = 6 ∨ s = 7 ∨ s = 8 ∨ s = 9 ∨ s = 10 ∨ s = 11 ∨ s = 12 ∨ s = 13 ∨ s = 14 ∨ s = 15 by omega) with rfl | rfl | rfl | rfl | rfl | rfl | rfl | rfl | rfl | rfl | rfl | rfl | rfl | rfl | rfl | rfl
                  all_goals
                    have hw' := hw.out
                    simp only [Int.reducePow] at hw'
                    clear hs
                    go_wp2
                    go_region
                    all_goals go_wp2
                    all_goals go_roundw
                    case rel =>
                      (repeat apply Exists.intro)
                      refine And.intro ?_ rfl
                      refine ⟨k, upd dq j t, dt, 2 * qv + 1, 2 * R + bit - C, by omega, by go_num, ?_, ?_, ?_, hupd, hlt', ⟨hnew.out, hsdt.out, hsum.out⟩, ?_⟩
                      · rw [← fl_set]; exact row_drew (row_set _ hq hj)
                      · exact row_drew (row_other hr hdim3)
                      · intro i hi; exact (cell_other hdim).trans (hcb i hi)
                      · first | exact (hB.setCell (p := ⟨w.heap.size + 1, j, none⟩) (by show w.heap.size ≤ w.heap.size + 1; omega) _).drew | exact (hB.drew).setCell (p := ⟨w.heap.size + 1, j, none⟩) (by show w.heap.size ≤ w.heap.size + 1; omega) _
                    case measure => (simp [intOf] <;> omega)
end Go.Proofs.Ytmfnfnegnfpkiaa

/- The reference's carry of 32 digits. -/
namespace Go.Proofs.Ytmfnfnegnfpkiaa
open Go.RowKit

set_option maxHeartbeats 4000000 in
theorem carry32_any (dl : Nat → Int) (hd : ∀ i, i < 32 → 0 ≤ dl i ∧ dl i ≤ 131070) (base g cap : Nat) (w : World) (hbase : base ≤ w.heap.size) (hrow : w.ownsRow base 22 1 (.slice (some ⟨g, 0, none⟩) 32 cap) 32 (encU (fl dl 32))) :
    Calls Try.prog 85 #[.slice (some ⟨g, 0, none⟩) 32 cap] w fun e w' => ∃ (dl' : Nat → Int) (v : Value), e = .returned v ∧ w'.ownsRow base 22 1 v 33 (encU (fl dl' 33)) ∧ (∀ i, i < 33 → 0 ≤ dl' i ∧ dl' i < 65536) ∧ sm dl' 33 = sm dl 32 ∧ Below base w w' := by
  obtain ⟨i0, hi, hz0, hz1, hz2⟩ := info_parts u64_info
  go_enter Try.func85, Try.ntmps85
  go_wp2
  go_loopw [3, 4] (fun o i wr => ∃ (k : Nat) (c : Int) (dl' : Nat → Int), k ≤ 32 ∧ o = .int .u64 c ∧ i = .int .i64 k ∧ (0 ≤ c ∧ c ≤ 1) ∧ wr.ownsRow base 22 1 (.slice (some ⟨g, 0, none⟩) 32 cap) 32 (encU (fl dl' 32)) ∧ (∀ j, j < k → 0 ≤ dl' j ∧ dl' j < 65536) ∧ (∀ j, k ≤ j → dl' j = dl j) ∧ Hid (sm dl' k + c * 65536 ^ k = sm dl k) ∧ Below base w wr) (fun _ i _ => 32 - (intOf i).toNat)
  case atStart => exact ⟨0, 0, dl, by omega, rfl, rfl, by omega, hrow, fun j h => by omega, fun j _ => rfl, by unfold Hid; simp [sm], Below.refl _ _⟩
  case round =>
    obtain ⟨k, c, dl', hk, rfl, rfl, hc, hr, hlo, hhi, hsm, hB⟩ := hrel
    obtain ⟨g', cap', hv, hg, hgl, hcell, hfz⟩ := row_words (n := 31) hr (fl_len _ _)
    cases hv
    have hsz := hB.size
    by_cases hlt : k < 32
    · have hd' := hd k hlt
      have ck : wr.cell? ⟨g, k, none⟩ = some (.int .u64 (dl k)) := by rw [hcell k hlt]; simp [fl, hhi k (Nat.le_refl _)]
      have fk := hfz k
      obtain ⟨d, hde⟩ : ∃ d, Hid (dl k = d) := ⟨_, rfl⟩
      rw [hde.out] at ck hd'
      obtain ⟨t, hte⟩ : ∃ t, Hid (t = c + d) := ⟨_, rfl⟩
      have htb : 0 ≤ t ∧ t ≤ 131071 := by have := hte.out; omega
      have hw : IntKind.u64.wrap (c + d) = t := by rw [IntKind.wrap_u64]; have := hte.out; omega
      have hr1 : t.tmod 65536 = t % 65536 := Int.tmod_eq_emod_of_nonneg htb.1
      have hr2 : t.tdiv 65536 = t / 65536 := Int.tdiv_eq_ediv_of_nonneg htb.1
      have hnz : ¬ (65536 : Int) = 0 := by omega
      clear hcell hfz
      go_wp2
      all_goals try go_region
      all_goals go_wp2
      all_goals go_roundw
      case rel =>
        refine ⟨k + 1, t / 65536, upd dl' k (t % 65536), by omega, rfl, by go_num, by omega, ?_, ?_, ?_, ?_, ?_⟩
        · rw [← fl_set]; exact row_set _ hr hlt
        · intro j hj; unfold upd; split
          · omega
          · exact hlo j (by omega)
        · intro j hj; unfold upd; rw [if_neg (by omega)]; exact hhi j (by omega)
        · have h := hsm.out
          show _ = _
          simp only [sm]
          rw [sm_congr (b := dl') k (fun i hi => by unfold upd; rw [if_neg (by omega)])]
          rw [← h, hde.out]
          have e : upd dl' k (t % 65536) k = t % 65536 := if_pos rfl
          rw [e, Int.pow_succ]
          have h2 : t % 65536 + t / 65536 * 65536 = c + d := by have := hte.out; omega
          generalize (65536 : Int) ^ k = B at *
          have h3 : (t % 65536 + t / 65536 * 65536) * B = (c + d) * B := by rw [h2]
          grind
        · exact hB.setCell (p := ⟨g, k, none⟩) hg _
      case measure => simp [intOf]; omega
    · have hk' : k = 32 := by omega
      subst hk'
      go_wp2_with (at_builtin; refine wpList_append_own _ rfl _ _ 111 rfl base 22 i0 _ 1 8 Try.underlying111 hi hz0 hz1 hz2 rfl (by decide) _ _ _ rfl (hr.alloc _) ⟨wr.heap.size, 0, none⟩ 1 1 [_] rfl rfl (cell_one_new _ _ _) (by simp [Value.oneCell']) (by unfold maxLen; omega) (by omega) (by simp; omega) ?_; intro v' w' hown' hgrow _)
      go_ret
      refine ⟨upd dl' 32 c, v', rfl, ?_, ?_, ?_, ?_⟩
      · rw [fl_snoc, encU_snoc, fl_congr (b := dl') 32 (fun i hi => by unfold upd; rw [if_neg (by omega)])]
        simpa [upd] using hown'
      · intro i hi; unfold upd; split
        · omega
        · exact hlo i (by omega)
      · have h := hsm.out
        show sm _ 32 + _ = _
        rw [sm_congr (b := dl') 32 (fun i hi => by unfold upd; rw [if_neg (by omega)]), ← h]
        simp [upd]
      · refine (hB.alloc (by omega) _).grown hgrow (by simp; omega) (fun k' e => ?_)
        cases e; exact hg
end Go.Proofs.Ytmfnfnegnfpkiaa

/- The reference's MulDiv. -/
namespace Go.Proofs.Ytmfnfnegnfpkiaa
open Go.RowKit

set_option maxHeartbeats 1000000 in
theorem zero_any4 (x0 x1 x2 x3 : Int) (w : World) :
    Calls Try.prog 61 #[.agg #[.int .u64 x0, .int .u64 x1, .int .u64 x2, .int .u64 x3]] w fun e w' => e = .returned (.bool (eq4 x0 x1 x2 x3 0 0 0 0)) ∧ Below w.heap.size w w' := by
  rcases Bool.eq_false_or_eq_true (x0 == 0) with e0 | e0
  · rcases Bool.eq_false_or_eq_true (x1 == 0) with e1 | e1
    · rcases Bool.eq_false_or_eq_true (x2 == 0) with e2 | e2
      · go_enter Try.func61, Try.ntmps61
        go_wp2
        go_ret
        exact ⟨ret_bool (by simp [eq4, e0, e1, e2]), by (repeat (first | (with_reducible exact Below.refl _ _) | (with_reducible assumption) | (with_reducible apply bd) | (with_reducible apply ba) | (with_reducible refine bp ?_ (by first | omega | (simp [pad_size]; done) | (simp [pad_size]; omega)) _ _) | (with_reducible refine bs ?_ (by first | omega | (simp [pad_size]; done) | (simp [pad_size]; omega)) _) | (with_reducible refine bt ?_ (by assumption))))⟩
      · go_enter Try.func61, Try.ntmps61
        go_wp2
        go_ret
        exact ⟨ret_bool (by simp [eq4, e0, e1, e2]), by (repeat (first | (with_reducible exact Below.refl _ _) | (with_reducible assumption) | (with_reducible apply bd) | (with_reducible apply ba) | (with_reducible refine bp ?_ (by first | omega | (simp [pad_size]; done) | (simp [pad_size]; omega)) _ _) | (with_reducible refine bs ?_ (by first | omega | (simp [pad_size]; done) | (simp [pad_size]; omega)) _) | (with_reducible refine bt ?_ (by assumption))))⟩
    · go_enter Try.func61, Try.ntmps61
      go_wp2
      go_ret
      exact ⟨ret_bool (by simp [eq4, e0, e1]), by (repeat (first | (with_reducible exact Below.refl _ _) | (with_reducible assumption) | (with_reducible apply bd) | (with_reducible apply ba) | (with_reducible refine bp ?_ (by first | omega | (simp [pad_size]; done) | (simp [pad_size]; omega)) _ _) | (with_reducible refine bs ?_ (by first | omega | (simp [pad_size]; done) | (simp [pad_size]; omega)) _) | (with_reducible refine bt ?_ (by assumption))))⟩
  · go_enter Try.func61, Try.ntmps61
    go_wp2
    go_ret
    exact ⟨ret_bool (by simp [eq4, e0]), by (repeat (first | (with_reducible exact Below.refl _ _) | (with_reducible assumption) | (with_reducible apply bd) | (with_reducible apply ba) | (with_reducible refine bp ?_ (by first | omega | (simp [pad_size]; done) | (simp [pad_size]; omega)) _ _) | (with_reducible refine bs ?_ (by first | omega | (simp [pad_size]; done) | (simp [pad_size]; omega)) _) | (with_reducible refine bt ?_ (by assumption))))⟩
set_option maxHeartbeats 2000000 in
theorem says_mdR_zero {x0 x1 x2 x3 y0 y1 y2 y3 u0 u1 u2 u3 : Int} (up : Bool) (hu0 : eq4 u0 u1 u2 u3 0 0 0 0 = true) : Says 51 #[.agg #[.int .u64 x0, .int .u64 x1, .int .u64 x2, .int .u64 x3], .agg #[.int .u64 y0, .int .u64 y1, .int .u64 y2, .int .u64 y3], .agg #[.int .u64 u0, .int .u64 u1, .int .u64 u2, .int .u64 u3], .bool up] (.tuple #[.agg #[.int .u64 0, .int .u64 0, .int .u64 0, .int .u64 0], .int .i64 1]) := by
  intro w
  have hpad := pads
  go_enter Try.func51, Try.ntmps51
  go_wp2_with (go_at_call 61; refine (zero_any4 _ _ _ _ _).mono ?_; rintro e w1 ⟨rfl, hb⟩; rw [hu0]; obtain ⟨m1, g1, d1, hm1, rfl⟩ := pad_of hb; clear hb; (try simp [pad_size] at hm1); have st1_w := sz4 (n := w.heap.size) (m := m1) (by omega))
  refine bodyPost_ret (v := .tuple #[.agg #[.int .u64 0, .int .u64 0, .int .u64 0, .int .u64 0], .int .i64 1]) (by simp only [results, Try.results51]; go_simp) rfl ⟨rfl, by (repeat (first | (with_reducible exact Below.refl _ _) | (with_reducible assumption) | (with_reducible apply bd) | (with_reducible apply ba) | (with_reducible refine bp ?_ (by first | omega | (simp [pad_size]; done) | (simp [pad_size]; omega)) _ _) | (with_reducible refine bs ?_ (by first | omega | (simp [pad_size]; done) | (simp [pad_size]; omega)) _) | (with_reducible refine bt ?_ (by assumption))))⟩

set_option maxRecDepth 100000 in
set_option maxHeartbeats 8000000 in
theorem says_mdR {x0 x1 x2 x3 y0 y1 y2 y3 u0 u1 u2 u3 z0 z1 z2 z3 q r : Int} (up : Bool) (hx : Lim x0 x1 x2 x3) (hy : Lim y0 y1 y2 y3) (hu : Lim u0 u1 u2 u3) (hz : Lim z0 z1 z2 z3) (hu0 : eq4 u0 u1 u2 u3 0 0 0 0 = false) (hqr : Hid (val x0 x1 x2 x3 * val y0 y1 y2 y3 = q * val u0 u1 u2 u3 + r ∧ 0 ≤ r ∧ r < val u0 u1 u2 u3)) (he : Hid (val z0 z1 z2 z3 = upI up q r)) :
    Says 51 #[.agg #[.int .u64 x0, .int .u64 x1, .int .u64 x2, .int .u64 x3], .agg #[.int .u64 y0, .int .u64 y1, .int .u64 y2, .int .u64 y3], .agg #[.int .u64 u0, .int .u64 u1, .int .u64 u2, .int .u64 u3], .bool up] (.tuple #[.agg #[.int .u64 z0, .int .u64 z1, .int .u64 z2, .int .u64 z3], .int .i64 0]) := by
  intro w
  have hpad := pads
  have hup : 0 < val u0 u1 u2 u3 := by have := hqr.out; omega
  go_enter Try.func51, Try.ntmps51
  go_upto_region 3 with (go_at_call 61; refine (zero_any4 _ _ _ _ _).mono ?_; rintro e w1 ⟨rfl, hb⟩; rw [hu0]; obtain ⟨m1, g1, d1, hm1, rfl⟩ := pad_of hb; clear hb; (try simp [pad_size] at hm1); have st1_w := sz4 (n := w.heap.size) (m := m1) (by omega))
  go_cut [10, 11] from 17 to 24 (fun s10 s11 wx => ∃ (dq : Nat → Int) (gq cq : Nat) (qv R : Int), s10 = .slice (some ⟨gq, 0, none⟩) 32 cq ∧ s11 = .bool (decide (0 < R)) ∧ wx.ownsRow (w.heap.size + 1 + 1 + 1 + 1) 22 1 (.slice (some ⟨gq, 0, none⟩) 32 cq) 32 (encU (fl dq 32)) ∧ (∀ i, i < 32 → 0 ≤ dq i ∧ dq i < 65536) ∧ Hid (val x0 x1 x2 x3 * val y0 y1 y2 y3 = qv * val u0 u1 u2 u3 + R ∧ 0 ≤ R ∧ R < val u0 u1 u2 u3 ∧ sm dq 32 = qv) ∧ Below (w.heap.size + 1 + 1 + 1 + 1) ((((w.alloc (.cells #[.int .u64 x0, .int .u64 x1, .int .u64 x2, .int .u64 x3] 69)).alloc (.cells #[.int .u64 y0, .int .u64 y1, .int .u64 y2, .int .u64 y3] 69)).alloc (.cells #[.int .u64 u0, .int .u64 u1, .int .u64 u2, .int .u64 u3] 69)).alloc (.cells #[.int .u64 0, .int .u64 0, .int .u64 0, .int .u64 0] 69)) wx)
  case first =>
    go_region_held2 (fun W => W.cell? ⟨w.heap.size, 0, none⟩ = some (.int .u64 x0) ∧ W.cell? ⟨w.heap.size, 1, none⟩ = some (.int .u64 x1) ∧ W.cell? ⟨w.heap.size, 2, none⟩ = some (.int .u64 x2) ∧ W.cell? ⟨w.heap.size, 3, none⟩ = some (.int .u64 x3) ∧ W.cell? ⟨w.heap.size + 1, 0, none⟩ = some (.int .u64 y0) ∧ W.cell? ⟨w.heap.size + 1, 1, none⟩ = some (.int .u64 y1) ∧ W.cell? ⟨w.heap.size + 1, 2, none⟩ = some (.int .u64 y2) ∧ W.cell? ⟨w.heap.size + 1, 3, none⟩ = some (.int .u64 y3) ∧ W.cell? ⟨w.heap.size + 1 + 1, 0, none⟩ = some (.int .u64 u0) ∧ W.cell? ⟨w.heap.size + 1 + 1, 1, none⟩ = some (.int .u64 u1) ∧ W.cell? ⟨w.heap.size + 1 + 1, 2, none⟩ = some (.int .u64 u2) ∧ W.cell? ⟨w.heap.size + 1 + 1, 3, none⟩ = some (.int .u64 u3)) (go_simp) (first
      | (go_at_call 84; with_reducible refine (wide_c _ _ _ _ _ _ _ _ hx hy _).mono ?_; rintro e w1 ⟨dl, r1, cap1, rfl, hg1, hc1, hl1, hs1, hb1⟩; obtain ⟨m2, g2, d2, hm2, rfl⟩ := pad_of (bt (bp (Below.refl _ _) (by first | omega | (simp [pad_size]; omega)) _ _) hb1); clear hb1; (try simp [pad_size] at hm2); have st2_w := sz4 (n := w.heap.size) (m := m2) (by omega))
      | (go_at_call 83; refine (by_any dl r1 cap1 _ _ _ _ hu hup hl1 _ hg1 hc1).mono ?_; rintro e w2 ⟨dq, gq, cq, qv, R, rfl, hrq, hlq, hsq, hb2⟩; obtain ⟨m3, g3, d3, hm3, rfl⟩ := pad_of (bt (bp (Below.refl _ _) (by first | omega | (simp [pad_size]; omega)) _ _) hb2); clear hb2; (try simp [pad_size] at hm3); have st3_w := sz4 (n := w.heap.size) (m := m3) (by omega)))
    all_goals (go_wp2_with fail; go_meet)
    all_goals
      refine ⟨dq, gq, cq, qv, R, rfl, rfl, row_base hrq (by simp [pad_size]; omega), hlq, ?_, ?_⟩
      · have h := hsq.out
        rw [hs1.out] at h
        exact h
      · have hp := bp (Below.refl _ ((((w.alloc (.cells #[.int .u64 x0, .int .u64 x1, .int .u64 x2, .int .u64 x3] 69)).alloc (.cells #[.int .u64 y0, .int .u64 y1, .int .u64 y2, .int .u64 y3] 69)).alloc (.cells #[.int .u64 u0, .int .u64 u1, .int .u64 u2, .int .u64 u3] 69)).alloc (.cells #[.int .u64 0, .int .u64 0, .int .u64 0, .int .u64 0] 69))) (m := m3) (by simp; omega) g3 d3
        simpa using hp
  case rest =>
    obtain ⟨dq, gq, cq, qv, R, rfl, rfl, hr, hlq, hsq, hB⟩ := hcut
    obtain ⟨h1, h2, h3, h4⟩ := hsq.out
    obtain ⟨hq1, hr1⟩ := qr_one hqr.out.1 h1 hqr.out.2 ⟨h2, h3⟩
    have hval := he.out
    unfold upI at hval
    rw [hq1, hr1] at hval
    have hsz : w.heap.size + 1 + 1 + 1 + 1 ≤ wc.heap.size := by have := hB.size; simpa using this
    obtain ⟨gq', cq', hv, hgq, hgql, hcq, hfq⟩ := row_words (n := 31) hr (fl_len _ _)
    cases hv
    have hcs : ∀ k, k < 32 → wc.cell? ⟨gq, k, none⟩ = some (.int .u64 (dq k)) := fun k hk => by rw [hcq k hk]; simp [fl]
    clear hcq
    by_cases hb : up = true ∧ R ≠ 0
    · obtain ⟨rfl, hR⟩ := hb
      have hb : true = true ∧ R ≠ 0 := ⟨rfl, hR⟩
      have hRd : decide (0 < R) = true := by simp; omega
      rw [hRd]
      have c0 := hcs 0 (by omega)
      have f0 := hfq 0
      have b0 := hlq 0 (by omega)
      have hw : IntKind.u64.wrap (dq 0 + 1) = dq 0 + 1 := by rw [IntKind.wrap_u64]; omega
      have hd32 : ∀ i, i < 32 → 0 ≤ upd dq 0 (dq 0 + 1) i ∧ upd dq 0 (dq 0 + 1) i ≤ 131070 := fun i hi => by
        unfold upd; split
        · omega
        · have := hlq i hi; omega
      have hsum1 : sm (upd dq 0 (dq 0 + 1)) 32 = qv + 1 := by rw [sm_put (dq 0 + 1) 32 (by omega), h4]; simp; omega
      have hBs : Below (w.heap.size + 1 + 1 + 1 + 1) ((((w.alloc (.cells #[.int .u64 x0, .int .u64 x1, .int .u64 x2, .int .u64 x3] 69)).alloc (.cells #[.int .u64 y0, .int .u64 y1, .int .u64 y2, .int .u64 y3] 69)).alloc (.cells #[.int .u64 u0, .int .u64 u1, .int .u64 u2, .int .u64 u3] 69)).alloc (.cells #[.int .u64 0, .int .u64 0, .int .u64 0, .int .u64 0] 69)) (wc.setCell ⟨gq, 0, none⟩ (.int .u64 (dq 0 + 1))) := hB.setCell (p := ⟨gq, 0, none⟩) hgq _
      clear hcs hfq
      go_upto_region 6 with fail
      go_wp2_with (first
          | (go_at_call 85; refine (carry32_any (upd dq 0 (dq 0 + 1)) hd32 (w.heap.size + 1 + 1 + 1 + 1) gq cq _ (by have := hB.size; simp at this ⊢; omega) (by rw [← fl_set]; exact row_set _ hr (by omega))).mono ?_; rintro e w5 ⟨d5, v5, rfl, hr5, hl5, hs5, hb5⟩; obtain ⟨g5, c5, rfl, hg5, hgl5, hc5', -⟩ := row_words (n := 32) hr5 (fl_len _ _); have hc5 : ∀ k, k < 33 → w5.cell? ⟨g5, k, none⟩ = some (.int .u64 (d5 k)) := (fun k hk => by rw [hc5' k hk]; simp [fl]); clear hc5'; have hs6 : sm d5 33 = qv + 1 := (hs5.trans hsum1))
          | (go_at_call 86; refine (says_ofR (by omega) hl5 hz (by rw [hs6, hval, if_pos hb]) g5 c5 _ hgl5 hc5).mono ?_; rintro e w6 ⟨rfl, hb6⟩; obtain ⟨m1, f1, d1, hm1, rfl⟩ := pad_of (add_chain (A := ((((w.alloc (.cells #[.int .u64 x0, .int .u64 x1, .int .u64 x2, .int .u64 x3] 69)).alloc (.cells #[.int .u64 y0, .int .u64 y1, .int .u64 y2, .int .u64 y3] 69)).alloc (.cells #[.int .u64 u0, .int .u64 u1, .int .u64 u2, .int .u64 u3] 69)).alloc (.cells #[.int .u64 0, .int .u64 0, .int .u64 0, .int .u64 0] 69))) (by simpa using hBs) (by simpa using hb5) hb6); clear hb6; simp at hm1; have st1 := sz4 (n := w.heap.size) (m := m1) hm1))
      refine bodyPost_ret (v := .tuple #[.agg #[.int .u64 z0, .int .u64 z1, .int .u64 z2, .int .u64 z3], .int .i64 0]) (by simp only [results, Try.results51]; go_simp) rfl ⟨rfl, by (repeat (first | (with_reducible exact Below.refl _ _) | (with_reducible assumption) | (with_reducible apply bd) | (with_reducible apply ba) | (with_reducible refine bp ?_ (by first | omega | (simp [pad_size]; done) | (simp [pad_size]; omega)) _ _) | (with_reducible refine bs ?_ (by first | omega | (simp [pad_size]; done) | (simp [pad_size]; omega)) _) | (with_reducible refine bt ?_ (by assumption))))⟩
    · have hs6 : sm dq 32 = qv := h4
      by_cases hRd : 0 < R
      · have hup2 : up = false := by
          cases up
          · rfl
          · exact absurd ⟨rfl, by omega⟩ hb
        subst hup2
        have hRd' : decide (0 < R) = true := by simpa using hRd
        rw [hRd']
        clear hfq
        go_wp2_with (go_at_call 86; refine (says_ofR (by omega) hlq hz (by rw [hs6, hval, if_neg hb]) gq cq _ hgql hcs).mono ?_; rintro e w6 ⟨rfl, hb6⟩; obtain ⟨m1, f1, d1, hm1, rfl⟩ := pad_of (bt (a := ((((w.alloc (.cells #[.int .u64 x0, .int .u64 x1, .int .u64 x2, .int .u64 x3] 69)).alloc (.cells #[.int .u64 y0, .int .u64 y1, .int .u64 y2, .int .u64 y3] 69)).alloc (.cells #[.int .u64 u0, .int .u64 u1, .int .u64 u2, .int .u64 u3] 69)).alloc (.cells #[.int .u64 0, .int .u64 0, .int .u64 0, .int .u64 0] 69))) (by simpa using hB) hb6); clear hb6; simp at hm1; have st1 := sz4 (n := w.heap.size) (m := m1) hm1)
        refine bodyPost_ret (v := .tuple #[.agg #[.int .u64 z0, .int .u64 z1, .int .u64 z2, .int .u64 z3], .int .i64 0]) (by simp only [results, Try.results51]; go_simp) rfl ⟨rfl, by (repeat (first | (with_reducible exact Below.refl _ _) | (with_reducible assumption) | (with_reducible apply bd) | (with_reducible apply ba) | (with_reducible refine bp ?_ (by first | omega | (simp [pad_size]; done) | (simp [pad_size]; omega)) _ _) | (with_reducible refine bs ?_ (by first | omega | (simp [pad_size]; done) | (simp [pad_size]; omega)) _) | (with_reducible refine bt ?_ (by assumption))))⟩
      · have hRd' : decide (0 < R) = false := by simpa using hRd
        rw [hRd']
        clear hfq
        go_wp2_with (go_at_call 86; refine (says_ofR (by omega) hlq hz (by rw [hs6, hval, if_neg hb]) gq cq _ hgql hcs).mono ?_; rintro e w6 ⟨rfl, hb6⟩; obtain ⟨m1, f1, d1, hm1, rfl⟩ := pad_of (bt (a := ((((w.alloc (.cells #[.int .u64 x0, .int .u64 x1, .int .u64 x2, .int .u64 x3] 69)).alloc (.cells #[.int .u64 y0, .int .u64 y1, .int .u64 y2, .int .u64 y3] 69)).alloc (.cells #[.int .u64 u0, .int .u64 u1, .int .u64 u2, .int .u64 u3] 69)).alloc (.cells #[.int .u64 0, .int .u64 0, .int .u64 0, .int .u64 0] 69))) (by simpa using hB) hb6); clear hb6; simp at hm1; have st1 := sz4 (n := w.heap.size) (m := m1) hm1)
        refine bodyPost_ret (v := .tuple #[.agg #[.int .u64 z0, .int .u64 z1, .int .u64 z2, .int .u64 z3], .int .i64 0]) (by simp only [results, Try.results51]; go_simp) rfl ⟨rfl, by (repeat (first | (with_reducible exact Below.refl _ _) | (with_reducible assumption) | (with_reducible apply bd) | (with_reducible apply ba) | (with_reducible refine bp ?_ (by first | omega | (simp [pad_size]; done) | (simp [pad_size]; omega)) _ _) | (with_reducible refine bs ?_ (by first | omega | (simp [pad_size]; done) | (simp [pad_size]; omega)) _) | (with_reducible refine bt ?_ (by assumption))))⟩

set_option maxRecDepth 100000 in
set_option maxHeartbeats 8000000 in
theorem says_mdR_over {x0 x1 x2 x3 y0 y1 y2 y3 u0 u1 u2 u3  q r : Int} (up : Bool) (hx : Lim x0 x1 x2 x3) (hy : Lim y0 y1 y2 y3) (hu : Lim u0 u1 u2 u3) (hu0 : eq4 u0 u1 u2 u3 0 0 0 0 = false) (hqr : Hid (val x0 x1 x2 x3 * val y0 y1 y2 y3 = q * val u0 u1 u2 u3 + r ∧ 0 ≤ r ∧ r < val u0 u1 u2 u3)) (he : Hid (115792089237316195423570985008687907853269984665640564039457584007913129639936 ≤ upI up q r)) :
    Says 51 #[.agg #[.int .u64 x0, .int .u64 x1, .int .u64 x2, .int .u64 x3], .agg #[.int .u64 y0, .int .u64 y1, .int .u64 y2, .int .u64 y3], .agg #[.int .u64 u0, .int .u64 u1, .int .u64 u2, .int .u64 u3], .bool up] (.tuple #[.agg #[.int .u64 0, .int .u64 0, .int .u64 0, .int .u64 0], .int .i64 2]) := by
  intro w
  have hpad := pads
  have hup : 0 < val u0 u1 u2 u3 := by have := hqr.out; omega
  go_enter Try.func51, Try.ntmps51
  go_upto_region 3 with (go_at_call 61; refine (zero_any4 _ _ _ _ _).mono ?_; rintro e w1 ⟨rfl, hb⟩; rw [hu0]; obtain ⟨m1, g1, d1, hm1, rfl⟩ := pad_of hb; clear hb; (try simp [pad_size] at hm1); have st1_w := sz4 (n := w.heap.size) (m := m1) (by omega))
  go_cut [10, 11] from 17 to 24 (fun s10 s11 wx => ∃ (dq : Nat → Int) (gq cq : Nat) (qv R : Int), s10 = .slice (some ⟨gq, 0, none⟩) 32 cq ∧ s11 = .bool (decide (0 < R)) ∧ wx.ownsRow (w.heap.size + 1 + 1 + 1 + 1) 22 1 (.slice (some ⟨gq, 0, none⟩) 32 cq) 32 (encU (fl dq 32)) ∧ (∀ i, i < 32 → 0 ≤ dq i ∧ dq i < 65536) ∧ Hid (val x0 x1 x2 x3 * val y0 y1 y2 y3 = qv * val u0 u1 u2 u3 + R ∧ 0 ≤ R ∧ R < val u0 u1 u2 u3 ∧ sm dq 32 = qv) ∧ Below (w.heap.size + 1 + 1 + 1 + 1) ((((w.alloc (.cells #[.int .u64 x0, .int .u64 x1, .int .u64 x2, .int .u64 x3] 69)).alloc (.cells #[.int .u64 y0, .int .u64 y1, .int .u64 y2, .int .u64 y3] 69)).alloc (.cells #[.int .u64 u0, .int .u64 u1, .int .u64 u2, .int .u64 u3] 69)).alloc (.cells #[.int .u64 0, .int .u64 0, .int .u64 0, .int .u64 0] 69)) wx)
  case first =>
    go_region_held2 (fun W => W.cell? ⟨w.heap.size, 0, none⟩ = some (.int .u64 x0) ∧ W.cell? ⟨w.heap.size, 1, none⟩ = some (.int .u64 x1) ∧ W.cell? ⟨w.heap.size, 2, none⟩ = some (.int .u64 x2) ∧ W.cell? ⟨w.heap.size, 3, none⟩ = some (.int .u64 x3) ∧ W.cell? ⟨w.heap.size + 1, 0, none⟩ = some (.int .u64 y0) ∧ W.cell? ⟨w.heap.size + 1, 1, none⟩ = some (.int .u64 y1) ∧ W.cell? ⟨w.heap.size + 1, 2, none⟩ = some (.int .u64 y2) ∧ W.cell? ⟨w.heap.size + 1, 3, none⟩ = some (.int .u64 y3) ∧ W.cell? ⟨w.heap.size + 1 + 1, 0, none⟩ = some (.int .u64 u0) ∧ W.cell? ⟨w.heap.size + 1 + 1, 1, none⟩ = some (.int .u64 u1) ∧ W.cell? ⟨w.heap.size + 1 + 1, 2, none⟩ = some (.int .u64 u2) ∧ W.cell? ⟨w.heap.size + 1 + 1, 3, none⟩ = some (.int .u64 u3)) (go_simp) (first
      | (go_at_call 84; with_reducible refine (wide_c _ _ _ _ _ _ _ _ hx hy _).mono ?_; rintro e w1 ⟨dl, r1, cap1, rfl, hg1, hc1, hl1, hs1, hb1⟩; obtain ⟨m2, g2, d2, hm2, rfl⟩ := pad_of (bt (bp (Below.refl _ _) (by first | omega | (simp [pad_size]; omega)) _ _) hb1); clear hb1; (try simp [pad_size] at hm2); have st2_w := sz4 (n := w.heap.size) (m := m2) (by omega))
      | (go_at_call 83; refine (by_any dl r1 cap1 _ _ _ _ hu hup hl1 _ hg1 hc1).mono ?_; rintro e w2 ⟨dq, gq, cq, qv, R, rfl, hrq, hlq, hsq, hb2⟩; obtain ⟨m3, g3, d3, hm3, rfl⟩ := pad_of (bt (bp (Below.refl _ _) (by first | omega | (simp [pad_size]; omega)) _ _) hb2); clear hb2; (try simp [pad_size] at hm3); have st3_w := sz4 (n := w.heap.size) (m := m3) (by omega)))
    all_goals (go_wp2_with fail; go_meet)
    all_goals
      refine ⟨dq, gq, cq, qv, R, rfl, rfl, row_base hrq (by simp [pad_size]; omega), hlq, ?_, ?_⟩
      · have h := hsq.out
        rw [hs1.out] at h
        exact h
      · have hp := bp (Below.refl _ ((((w.alloc (.cells #[.int .u64 x0, .int .u64 x1, .int .u64 x2, .int .u64 x3] 69)).alloc (.cells #[.int .u64 y0, .int .u64 y1, .int .u64 y2, .int .u64 y3] 69)).alloc (.cells #[.int .u64 u0, .int .u64 u1, .int .u64 u2, .int .u64 u3] 69)).alloc (.cells #[.int .u64 0, .int .u64 0, .int .u64 0, .int .u64 0] 69))) (m := m3) (by simp; omega) g3 d3
        simpa using hp
  case rest =>
    obtain ⟨dq, gq, cq, qv, R, rfl, rfl, hr, hlq, hsq, hB⟩ := hcut
    obtain ⟨h1, h2, h3, h4⟩ := hsq.out
    obtain ⟨hq1, hr1⟩ := qr_one hqr.out.1 h1 hqr.out.2 ⟨h2, h3⟩
    have hval := he.out
    unfold upI at hval
    rw [hq1, hr1] at hval
    have hsz : w.heap.size + 1 + 1 + 1 + 1 ≤ wc.heap.size := by have := hB.size; simpa using this
    obtain ⟨gq', cq', hv, hgq, hgql, hcq, hfq⟩ := row_words (n := 31) hr (fl_len _ _)
    cases hv
    have hcs : ∀ k, k < 32 → wc.cell? ⟨gq, k, none⟩ = some (.int .u64 (dq k)) := fun k hk => by rw [hcq k hk]; simp [fl]
    clear hcq
    by_cases hb : up = true ∧ R ≠ 0
    · obtain ⟨rfl, hR⟩ := hb
      have hb : true = true ∧ R ≠ 0 := ⟨rfl, hR⟩
      have hRd : decide (0 < R) = true := by simp; omega
      rw [hRd]
      have c0 := hcs 0 (by omega)
      have f0 := hfq 0
      have b0 := hlq 0 (by omega)
      have hw : IntKind.u64.wrap (dq 0 + 1) = dq 0 + 1 := by rw [IntKind.wrap_u64]; omega
      have hd32 : ∀ i, i < 32 → 0 ≤ upd dq 0 (dq 0 + 1) i ∧ upd dq 0 (dq 0 + 1) i ≤ 131070 := fun i hi => by
        unfold upd; split
        · omega
        · have := hlq i hi; omega
      have hsum1 : sm (upd dq 0 (dq 0 + 1)) 32 = qv + 1 := by rw [sm_put (dq 0 + 1) 32 (by omega), h4]; simp; omega
      have hBs : Below (w.heap.size + 1 + 1 + 1 + 1) ((((w.alloc (.cells #[.int .u64 x0, .int .u64 x1, .int .u64 x2, .int .u64 x3] 69)).alloc (.cells #[.int .u64 y0, .int .u64 y1, .int .u64 y2, .int .u64 y3] 69)).alloc (.cells #[.int .u64 u0, .int .u64 u1, .int .u64 u2, .int .u64 u3] 69)).alloc (.cells #[.int .u64 0, .int .u64 0, .int .u64 0, .int .u64 0] 69)) (wc.setCell ⟨gq, 0, none⟩ (.int .u64 (dq 0 + 1))) := hB.setCell (p := ⟨gq, 0, none⟩) hgq _
      clear hcs hfq
      go_upto_region 6 with fail
      go_wp2_with (first
          | (go_at_call 85; refine (carry32_any (upd dq 0 (dq 0 + 1)) hd32 (w.heap.size + 1 + 1 + 1 + 1) gq cq _ (by have := hB.size; simp at this ⊢; omega) (by rw [← fl_set]; exact row_set _ hr (by omega))).mono ?_; rintro e w5 ⟨d5, v5, rfl, hr5, hl5, hs5, hb5⟩; obtain ⟨g5, c5, rfl, hg5, hgl5, hc5', -⟩ := row_words (n := 32) hr5 (fl_len _ _); have hc5 : ∀ k, k < 33 → w5.cell? ⟨g5, k, none⟩ = some (.int .u64 (d5 k)) := (fun k hk => by rw [hc5' k hk]; simp [fl]); clear hc5'; have hs6 : sm d5 33 = qv + 1 := (hs5.trans hsum1))
          | (go_at_call 86; refine (says_ofR_over (by omega) hl5 (by rw [hs6]; rw [if_pos hb] at hval; exact hval) g5 c5 _ hgl5 hc5).mono ?_; rintro e w6 ⟨rfl, hb6⟩; obtain ⟨m1, f1, d1, hm1, rfl⟩ := pad_of (add_chain (A := ((((w.alloc (.cells #[.int .u64 x0, .int .u64 x1, .int .u64 x2, .int .u64 x3] 69)).alloc (.cells #[.int .u64 y0, .int .u64 y1, .int .u64 y2, .int .u64 y3] 69)).alloc (.cells #[.int .u64 u0, .int .u64 u1, .int .u64 u2, .int .u64 u3] 69)).alloc (.cells #[.int .u64 0, .int .u64 0, .int .u64 0, .int .u64 0] 69))) (by simpa using hBs) (by simpa using hb5) hb6); clear hb6; simp at hm1; have st1 := sz4 (n := w.heap.size) (m := m1) hm1))
      refine bodyPost_ret (v := .tuple #[.agg #[.int .u64 0, .int .u64 0, .int .u64 0, .int .u64 0], .int .i64 2]) (by simp only [results, Try.results51]; go_simp) rfl ⟨rfl, by (repeat (first | (with_reducible exact Below.refl _ _) | (with_reducible assumption) | (with_reducible apply bd) | (with_reducible apply ba) | (with_reducible refine bp ?_ (by first | omega | (simp [pad_size]; done) | (simp [pad_size]; omega)) _ _) | (with_reducible refine bs ?_ (by first | omega | (simp [pad_size]; done) | (simp [pad_size]; omega)) _) | (with_reducible refine bt ?_ (by assumption))))⟩
    · have hs6 : sm dq 32 = qv := h4
      by_cases hRd : 0 < R
      · have hup2 : up = false := by
          cases up
          · rfl
          · exact absurd ⟨rfl, by omega⟩ hb
        subst hup2
        have hRd' : decide (0 < R) = true := by simpa using hRd
        rw [hRd']
        clear hfq
        go_wp2_with (go_at_call 86; refine (says_ofR_over (by omega) hlq (by rw [hs6]; rw [if_neg hb] at hval; exact hval) gq cq _ hgql hcs).mono ?_; rintro e w6 ⟨rfl, hb6⟩; obtain ⟨m1, f1, d1, hm1, rfl⟩ := pad_of (bt (a := ((((w.alloc (.cells #[.int .u64 x0, .int .u64 x1, .int .u64 x2, .int .u64 x3] 69)).alloc (.cells #[.int .u64 y0, .int .u64 y1, .int .u64 y2, .int .u64 y3] 69)).alloc (.cells #[.int .u64 u0, .int .u64 u1, .int .u64 u2, .int .u64 u3] 69)).alloc (.cells #[.int .u64 0, .int .u64 0, .int .u64 0, .int .u64 0] 69))) (by simpa using hB) hb6); clear hb6; simp at hm1; have st1 := sz4 (n := w.heap.size) (m := m1) hm1)
        refine bodyPost_ret (v := .tuple #[.agg #[.int .u64 0, .int .u64 0, .int .u64 0, .int .u64 0], .int .i64 2]) (by simp only [results, Try.results51]; go_simp) rfl ⟨rfl, by (repeat (first | (with_reducible exact Below.refl _ _) | (with_reducible assumption) | (with_reducible apply bd) | (with_reducible apply ba) | (with_reducible refine bp ?_ (by first | omega | (simp [pad_size]; done) | (simp [pad_size]; omega)) _ _) | (with_reducible refine bs ?_ (by first | omega | (simp [pad_size]; done) | (simp [pad_size]; omega)) _) | (with_reducible refine bt ?_ (by assumption))))⟩
      · have hRd' : decide (0 < R) = false := by simpa using hRd
        rw [hRd']
        clear hfq
        go_wp2_with (go_at_call 86; refine (says_ofR_over (by omega) hlq (by rw [hs6]; rw [if_neg hb] at hval; exact hval) gq cq _ hgql hcs).mono ?_; rintro e w6 ⟨rfl, hb6⟩; obtain ⟨m1, f1, d1, hm1, rfl⟩ := pad_of (bt (a := ((((w.alloc (.cells #[.int .u64 x0, .int .u64 x1, .int .u64 x2, .int .u64 x3] 69)).alloc (.cells #[.int .u64 y0, .int .u64 y1, .int .u64 y2, .int .u64 y3] 69)).alloc (.cells #[.int .u64 u0, .int .u64 u1, .int .u64 u2, .int .u64 u3] 69)).alloc (.cells #[.int .u64 0, .int .u64 0, .int .u64 0, .int .u64 0] 69))) (by simpa using hB) hb6); clear hb6; simp at hm1; have st1 := sz4 (n := w.heap.size) (m := m1) hm1)
        refine bodyPost_ret (v := .tuple #[.agg #[.int .u64 0, .int .u64 0, .int .u64 0, .int .u64 0], .int .i64 2]) (by simp only [results, Try.results51]; go_simp) rfl ⟨rfl, by (repeat (first | (with_reducible exact Below.refl _ _) | (with_reducible assumption) | (with_reducible apply bd) | (with_reducible apply ba) | (with_reducible refine bp ?_ (by first | omega | (simp [pad_size]; done) | (simp [pad_size]; omega)) _ _) | (with_reducible refine bs ?_ (by first | omega | (simp [pad_size]; done) | (simp [pad_size]; omega)) _) | (with_reducible refine bt ?_ (by assumption))))⟩
end Go.Proofs.Ytmfnfnegnfpkiaa

/- The reference's Over and first. -/
namespace Go.Proofs.Ytmfnfnegnfpkiaa
open Go.RowKit

set_option maxRecDepth 20000 in
set_option maxHeartbeats 8000000 in
theorem overR_any {x : Pn} {t : Int} (w : World) (h : PnAt w x) (ho : PnOk x) (ht : 0 ≤ t ∧ t < 18446744073709551616) :
    Calls Try.prog 55 #[pnV x, .int .u64 t] w fun e w' => e = .returned (.int .i64 ((ovN x.pl x.s t).1 : Int)) ∧ Below w.heap.size w w' := by
  obtain ⟨k, s, u, av, pv, al, pl⟩ := x
  obtain ⟨-, h2⟩ := h
  obtain ⟨⟨-, hws, -, -⟩, hwp⟩ := ho
  simp only at h2 hws hwp ⊢
  obtain ⟨a2, c2, rfl⟩ := h2.slice
  show Calls Try.prog 55 #[.agg #[.int .u8 k, .int .u64 s, .int .u64 u, av, .slice a2 pl.length c2], .int .u64 t] w _
  have hb0 : Below w.heap.size w (w.alloc (.cells #[.int .u8 k, .int .u64 s, .int .u64 u, av, .slice a2 pl.length c2] 26)) := ba (Below.refl _ _) _
  have hPb : (w.alloc (.cells #[.int .u8 k, .int .u64 s, .int .u64 u, av, .slice a2 pl.length c2] 26)).heap[w.heap.size]? = some (.cells #[.int .u8 k, .int .u64 s, .int .u64 u, av, .slice a2 pl.length c2] 26 (0, 0)) := al_at rfl
  have hPs : (w.alloc (.cells #[.int .u8 k, .int .u64 s, .int .u64 u, av, .slice a2 pl.length c2] 26)).heap.size = w.heap.size + 1 := by simp
  have hlen := h2.len
  have hlen' : (pl.length : Int) ≤ 9223372036854775807 := by omega
  have hP : Hid _ := pds_at h2
  clear h2
  by_cases hts : t < s
  · have hr : (ovN pl s t).1 = 0 := by
      cases pl with
      | nil => rfl
      | cons q l => unfold ovN; rw [if_pos (.inl hts)]
    rw [hr]
    clear hr hP hPb hPs hlen hlen'
    go_enter Try.func55, Try.ntmps55
    go_wp2
    go_ret
    exact ⟨rfl, hb0⟩
  have hw0 : IntKind.u64.wrap (t - s) = t - s := by rw [IntKind.wrap_u64]; omega
  go_enter Try.func55, Try.ntmps55
  go_wp2
  generalize w.alloc (.cells #[.int .u8 k, .int .u64 s, .int .u64 u, av, .slice a2 pl.length c2] 26) = P at *
  go_loopw [5, 6] (fun ev iv X => ∃ (i : Nat) (f : Int), i ≤ pl.length ∧ ev = .int .u64 f ∧ iv = .int .i64 (i : Int) ∧ (0 ≤ f ∧ f ≤ t) ∧ Hid ((ovN pl s t).1 = (ovN (pl.drop i) (t - f) t).1 + i) ∧ Below P.heap.size P X ∧ Below w.heap.size w X) (fun _ iv _ => pl.length - (intOf iv).toNat)
  case atStart => exact ⟨0, t - s, by omega, rfl, rfl, by omega, by unfold Hid; simp [show t - (t - s) = s by omega], Below.refl _ _, hb0⟩
  case round =>
    obtain ⟨i, f, hi, rfl, rfl, hf, hc, hXP, hX⟩ := hrel
    obtain ⟨cp, fp⟩ := cells_of_block ((hXP.block w.heap.size (by omega)).trans hPb)
    have k4 : wr.cell? ⟨w.heap.size, 4, none⟩ = some (.slice a2 pl.length c2) := cp 4
    by_cases hlt : i < pl.length
    · have hlt' : (i : Int) < (pl.length : Int) := by omega
      obtain ⟨blk, off, rfl, hbl, hA⟩ := hP.out i pl[i] (List.getElem?_eq_getElem hlt)
      obtain ⟨d0, d1, -⟩ := hA.below hbl hX
      have hq := (hwp pl[i] (List.getElem_mem hlt)).n
      clear cp fp
      by_cases hs2 : f < pl[i].n
      · have hst := ovN_stop (t := t) (e := t - f) hlt (.inr (by omega))
        rw [hst] at hc
        have hs3 : ¬ pl[i].n ≤ f := by omega
        clear hst
        go_wp2
        go_ret
        rw [hc.out]
        exact ⟨by simp, hX⟩
      · have hst := ovN_go (t := t) (e := t - f) hlt (by omega)
        rw [hst] at hc
        have hs3 : pl[i].n ≤ f := by omega
        have hw1 : IntKind.u64.wrap (f - pl[i].n) = f - pl[i].n := by rw [IntKind.wrap_u64]; omega
        have hc2 : Hid ((ovN pl s t).1 = (ovN (pl.drop (i + 1)) (t - (f - pl[i].n)) t).1 + (i + 1)) := by
          unfold Hid; rw [hc.out, show t - (f - pl[i].n) = t - f + pl[i].n by omega]; simp only; omega
        clear hst hc
        go_wp2
        all_goals go_roundw
        case rel => exact ⟨i + 1, f - pl[i].n, by omega, rfl, by go_num, by omega, hc2, hXP, hX⟩
        case measure => (simp [intOf]; omega)
    · obtain rfl : i = pl.length := by omega
      have hc3 : Hid ((ovN pl s t).1 = pl.length) := by unfold Hid; rw [hc.out, List.drop_length]; simp [ovN]
      clear hc cp fp
      go_wp2
      go_ret
      rw [hc3.out]
      exact ⟨rfl, hX⟩
set_option maxRecDepth 20000 in
set_option maxHeartbeats 8000000 in
theorem first_any {x : Pn} {m : Nat} (w : World) (h : PnAt w x) (ho : PnOk x) (hm : m ≤ x.pl.length) (hs : ∀ q ∈ x.pl, rightFrom 0 q.l = true) (hf : ∀ d, d < 8 → tot x.pl d < 115792089237316195423570985008687907853269984665640564039457584007913129639936) :
    GivesI 54 #[pnV x, .int .i64 (m : Int)] w (lst (sumP (x.pl.take m)) 8) := by
  unfold GivesI
  have hwp := ho.p
  obtain ⟨k, s, u, av, pv, al, pl⟩ := x
  obtain ⟨-, h2⟩ := h
  simp only at h2 hwp hm hs hf ⊢
  obtain ⟨a2, c2, rfl⟩ := h2.slice
  show Calls Try.prog 54 #[.agg #[.int .u8 k, .int .u64 s, .int .u64 u, av, .slice a2 pl.length c2], .int .i64 (m : Int)] w _
  have hb0 : Below w.heap.size w (w.alloc (.cells #[.int .u8 k, .int .u64 s, .int .u64 u, av, .slice a2 pl.length c2] 26)) := ba (Below.refl _ _) _
  have hPb : (w.alloc (.cells #[.int .u8 k, .int .u64 s, .int .u64 u, av, .slice a2 pl.length c2] 26)).heap[w.heap.size]? = some (.cells #[.int .u8 k, .int .u64 s, .int .u64 u, av, .slice a2 pl.length c2] 26 (0, 0)) := al_at rfl
  have hPs : (w.alloc (.cells #[.int .u8 k, .int .u64 s, .int .u64 u, av, .slice a2 pl.length c2] 26)).heap.size = w.heap.size + 1 := by simp
  have hlen := h2.len
  have hlen' : (pl.length : Int) ≤ 9223372036854775807 := by omega
  have hP : Hid _ := pds_at h2
  have hfm : Hid (∀ i, ∀ d, d < 8 → tot (pl.take i) d < 115792089237316195423570985008687907853269984665640564039457584007913129639936) := fun i d hd => by
    have h1 := tot_take hwp i hd
    have h2 := hf d hd
    omega
  clear h2 hf
  go_enter Try.func54, Try.ntmps54
  go_wp2
  generalize w.alloc (.cells #[.int .u8 k, .int .u64 s, .int .u64 u, av, .slice a2 pl.length c2] 26) = P at *
  go_loopw [5, 6] (fun sv iv X => ∃ (i n c : Nat) (a : Option Addr), i ≤ m ∧ sv = .slice a n c ∧ iv = .int .i64 (i : Int) ∧ Hid (IsCoins X (.slice a n c) (lst (sumP (pl.take i)) 8)) ∧ Below P.heap.size P X ∧ Below w.heap.size w X) (fun _ iv _ => m - (intOf iv).toNat)
  case atStart => exact ⟨0, 0, 0, none, by omega, rfl, rfl, by unfold Hid; rw [List.take_zero, sumP_nil]; exact .inl ⟨rfl, _, _, rfl⟩, Below.refl _ _, hb0⟩
  case round =>
    obtain ⟨i, n, c, a, hi, rfl, rfl, hc, hXP, hX⟩ := hrel
    obtain ⟨cp, fp⟩ := cells_of_block ((hXP.block w.heap.size (by omega)).trans hPb)
    have k4 : wr.cell? ⟨w.heap.size, 4, none⟩ = some (.slice a2 pl.length c2) := cp 4
    clear cp fp
    by_cases him : i < m
    · have hlt : i < pl.length := by omega
      have him' : (i : Int) < (m : Int) := by omega
      have hlt' : (i : Int) < (pl.length : Int) := by omega
      obtain ⟨blk, off, rfl, hbl, hA⟩ := hP.out i pl[i] (List.getElem?_eq_getElem hlt)
      obtain ⟨d0, d1, hxc⟩ := hA.below hbl hX
      have hxr := hxc.lst (hs pl[i] (List.getElem_mem hlt))
      obtain ⟨a1, c1, ev1⟩ := hxc.slice
      rw [ev1] at d1 hxr
      have hz := sumP_purse (l := pl.take i) (fun q hq => hwp q (List.mem_of_mem_take hq)) (hfm.out i)
      have hy := amP_purse (hwp pl[i] (List.getElem_mem hlt)).l
      have hC := addRC_fit hz hy (fun d hd => by rw [← tot_next hlt]; exact hfm.out (i + 1) d hd) _ hc.out hxr
      rw [sum_next hlt] at hC
      clear hz hy hxr hxc hA hc ev1
      go_wp2_with (go_at_call 22; refine hC.mono ?_; rintro e w1 ⟨u, rfl, hu, hb1⟩; obtain ⟨au, cu, rfl⟩ := hu.sl; have hu : Hid _ := hu)
      all_goals go_roundw
      case rel => exact ⟨i + 1, _, _, _, by omega, rfl, by go_num, hu, bt hXP hb1, bt hX hb1⟩
      case measure => (simp [intOf]; omega)
    · obtain rfl : i = m := by omega
      go_wp2
      go_ret
      exact ⟨_, _, _, rfl, hc.out, hX⟩
end Go.Proofs.Ytmfnfnegnfpkiaa

/- The reference's Vested, but for plans of kind 1 between their start and their end. -/
namespace Go.Proofs.Ytmfnfnegnfpkiaa
open Go.RowKit
theorem overR_hid {x : Pn} {t : Int} (w : World) (h : PnAt w x) (ho : PnOk x) (ht : 0 ≤ t ∧ t < 18446744073709551616) : Hid (∀ X, Below w.heap.size w X → Calls Try.prog 55 #[pnV x, .int .u64 t] X fun e w' => e = .returned (.int .i64 ((ovN x.pl x.s t).1 : Int)) ∧ Below X.heap.size X w') := fun X hX => overR_any X (h.below hX) ho ht
theorem first_hid {x : Pn} {t : Int} (w : World) (h : PnAt w x) (ho : PnOk x) (hs : stepsB x = true) : Hid (∀ X, Below w.heap.size w X → Calls Try.prog 54 #[pnV x, .int .i64 ((ovN x.pl x.s t).1 : Int)] X fun e w' => ∃ a n c, e = .returned (.slice a n c) ∧ IsCoins w' (.slice a n c) (lst (sumP (x.pl.take (ovN x.pl x.s t).1)) 8) ∧ Below X.heap.size X w') := fun X hX =>
  first_any X (h.below hX) ho (ovN_le _ _ _) (fun q hq => some_right ((steps_facts hs).ok q hq).2) (fun d hd => by
    have h2 := (steps_facts hs).tot d hd
    have h3 := al_lo ho hd
    omega)
section
variable {s t u : Int} {a1 a2 : Option Addr} {c1 c2 : Nat} {al : List Cn} {pl : List Pd}
set_option maxHeartbeats 4000000 in
theorem vestedR_2 (w : World) (h : PnAt w ⟨2, s, u, .slice a1 al.length c1, .slice a2 pl.length c2, al, pl⟩) (hr : PnR ⟨2, s, u, .slice a1 al.length c1, .slice a2 pl.length c2, al, pl⟩) :
    Calls Try.prog 19 #[.agg #[.int .u8 2, .int .u64 s, .int .u64 u, .slice a1 al.length c1, .slice a2 pl.length c2], .int .u64 t] w fun e w' => ∃ u', e = .returned u' ∧ IsCoins w' u' (lst (if u ≤ t then amP al else zeroP) 8) ∧ Below w.heap.size w w' := by
  have hb : Below w.heap.size w (w.alloc (.cells #[.int .u8 2, .int .u64 s, .int .u64 u, .slice a1 al.length c1, .slice a2 pl.length c2] 26)) := ba (Below.refl _ _) _
  have hA := al_coins (h.below hb) hr
  simp only at hA
  clear h hr
  by_cases h1 : u ≤ t
  · rw [if_pos h1]
    have hA : Hid _ := hA
    go_enter Try.func19, Try.ntmps19
    go_wp2
    go_ret
    exact ⟨_, rfl, hA.out, hb⟩
  · rw [if_neg h1]
    clear hA
    go_enter Try.func19, Try.ntmps19
    go_wp2
    go_ret
    exact ⟨_, rfl, zero_coins _, hb⟩
set_option maxHeartbeats 4000000 in
theorem vestedR_1 (w : World) (h : PnAt w ⟨1, s, u, .slice a1 al.length c1, .slice a2 pl.length c2, al, pl⟩) (hr : PnR ⟨1, s, u, .slice a1 al.length c1, .slice a2 pl.length c2, al, pl⟩) (hst : ¬ (s < t ∧ t < u)) :
    Calls Try.prog 19 #[.agg #[.int .u8 1, .int .u64 s, .int .u64 u, .slice a1 al.length c1, .slice a2 pl.length c2], .int .u64 t] w fun e w' => ∃ u', e = .returned u' ∧ IsCoins w' u' (lst (if u ≤ t then amP al else zeroP) 8) ∧ Below w.heap.size w w' := by
  have hb : Below w.heap.size w (w.alloc (.cells #[.int .u8 1, .int .u64 s, .int .u64 u, .slice a1 al.length c1, .slice a2 pl.length c2] 26)) := ba (Below.refl _ _) _
  have hA := al_coins (h.below hb) hr
  have hsu := hr.k1 rfl
  simp only at hA hsu
  clear h hr
  by_cases h0 : t ≤ s
  · rw [if_neg (by omega)]
    clear hA
    go_enter Try.func19, Try.ntmps19
    go_wp2
    go_ret
    exact ⟨_, rfl, zero_coins _, hb⟩
  · have h1 : u ≤ t := by omega
    rw [if_pos h1]
    have hA : Hid _ := hA
    go_enter Try.func19, Try.ntmps19
    go_wp2
    go_ret
    exact ⟨_, rfl, hA.out, hb⟩
set_option maxHeartbeats 4000000 in
theorem vestedR_no {k : Int} (h1 : ¬ k = 1) (h2 : ¬ k = 2) (h3 : ¬ k = 3) (h5 : ¬ k = 5) (w : World) (v1 v2 : Value) :
    Calls Try.prog 19 #[.agg #[.int .u8 k, .int .u64 s, .int .u64 u, v1, v2], .int .u64 t] w fun e w' => ∃ u', e = .returned u' ∧ IsCoins w' u' (lst zeroP 8) ∧ Below w.heap.size w w' := by
  go_enter Try.func19, Try.ntmps19
  go_wp2
  go_ret
  exact ⟨_, rfl, zero_coins _, ba (Below.refl _ _) _⟩
set_option maxRecDepth 20000 in
set_option maxHeartbeats 8000000 in
theorem vestedR_3 (w : World) (h : PnAt w ⟨3, s, u, .slice a1 al.length c1, .slice a2 pl.length c2, al, pl⟩) (ho : PnOk ⟨3, s, u, .slice a1 al.length c1, .slice a2 pl.length c2, al, pl⟩) (hr : PnR ⟨3, s, u, .slice a1 al.length c1, .slice a2 pl.length c2, al, pl⟩) (ht : 0 ≤ t ∧ t < 18446744073709551616) :
    Calls Try.prog 19 #[.agg #[.int .u8 3, .int .u64 s, .int .u64 u, .slice a1 al.length c1, .slice a2 pl.length c2], .int .u64 t] w fun e w' => ∃ u', e = .returned u' ∧ IsCoins w' u' (lst (sumP (pl.take (ovN pl s t).1)) 8) ∧ Below w.heap.size w w' := by
  have hpad := pads
  have hb : Below w.heap.size w (w.alloc (.cells #[.int .u8 3, .int .u64 s, .int .u64 u, .slice a1 al.length c1, .slice a2 pl.length c2] 26)) := ba (Below.refl _ _) _
  have hO : Hid (∀ X, Below w.heap.size w X → Calls Try.prog 55 #[.agg #[.int .u8 3, .int .u64 s, .int .u64 u, .slice a1 al.length c1, .slice a2 pl.length c2], .int .u64 t] X fun e w' => e = .returned (.int .i64 ((ovN pl s t).1 : Int)) ∧ Below X.heap.size X w') := overR_hid (x := ⟨3, s, u, .slice a1 al.length c1, .slice a2 pl.length c2, al, pl⟩) (t := t) w h ho ht
  have hF : Hid (∀ X, Below w.heap.size w X → Calls Try.prog 54 #[.agg #[.int .u8 3, .int .u64 s, .int .u64 u, .slice a1 al.length c1, .slice a2 pl.length c2], .int .i64 ((ovN pl s t).1 : Int)] X fun e w' => ∃ a n c, e = .returned (.slice a n c) ∧ IsCoins w' (.slice a n c) (lst (sumP (pl.take (ovN pl s t).1)) 8) ∧ Below X.heap.size X w') := first_hid (x := ⟨3, s, u, .slice a1 al.length c1, .slice a2 pl.length c2, al, pl⟩) (t := t) w h ho (hr.st (by simp))
  have hkeep : Hid (∀ X, Below (w.alloc (.cells #[.int .u8 3, .int .u64 s, .int .u64 u, .slice a1 al.length c1, .slice a2 pl.length c2] 26)).heap.size (w.alloc (.cells #[.int .u8 3, .int .u64 s, .int .u64 u, .slice a1 al.length c1, .slice a2 pl.length c2] 26)) X → X.cell? ⟨w.heap.size, 0, none⟩ = some (.int .u8 3) ∧ X.cell? ⟨w.heap.size, 1, none⟩ = some (.int .u64 s) ∧ X.cell? ⟨w.heap.size, 2, none⟩ = some (.int .u64 u) ∧ X.cell? ⟨w.heap.size, 3, none⟩ = some (.slice a1 al.length c1) ∧ X.cell? ⟨w.heap.size, 4, none⟩ = some (.slice a2 pl.length c2)) := fun X hX => by
    have q1 := (hX.block w.heap.size (by simp)).trans (al_at rfl)
    exact ⟨(cells_of_block q1).1 0, (cells_of_block q1).1 1, (cells_of_block q1).1 2, (cells_of_block q1).1 3, (cells_of_block q1).1 4⟩
  clear h ho hr
  generalize lst (sumP (pl.take (ovN pl s t).1)) 8 = L at *
  generalize (ovN pl s t).1 = m at *
  go_enter Try.func19, Try.ntmps19
  go_upto_region 19 with fail
  generalize (w.alloc (.cells #[.int .u8 3, .int .u64 s, .int .u64 u, .slice a1 al.length c1, .slice a2 pl.length c2] 26)) = U at *
  have hbb : Hid (∀ X, Below U.heap.size U X → Below w.heap.size w X) := fun X hX => bt hb hX
  go_region_held2 (fun X => X.cell? ⟨w.heap.size, 0, none⟩ = some (.int .u8 3) ∧ X.cell? ⟨w.heap.size, 1, none⟩ = some (.int .u64 s) ∧ X.cell? ⟨w.heap.size, 2, none⟩ = some (.int .u64 u) ∧ X.cell? ⟨w.heap.size, 3, none⟩ = some (.slice a1 al.length c1) ∧ X.cell? ⟨w.heap.size, 4, none⟩ = some (.slice a2 pl.length c2)) (exact hkeep.out _ (by (repeat (first | (with_reducible exact Below.refl _ _) | (with_reducible assumption) | (with_reducible apply bd) | (with_reducible apply ba) | (with_reducible refine bp ?_ (by first | omega | (simp [pad_size]; done) | (simp [pad_size]; omega)) _ _) | (with_reducible refine bs ?_ (by first | omega | (simp [pad_size]; done) | (simp [pad_size]; omega)) _) | (with_reducible refine bt ?_ (by assumption)))))) (first
    | (go_at_call 55; refine (hO.out _ (hbb.out _ (by (repeat (first | (with_reducible exact Below.refl _ _) | (with_reducible assumption) | (with_reducible apply bd) | (with_reducible apply ba) | (with_reducible refine bp ?_ (by first | omega | (simp [pad_size]; done) | (simp [pad_size]; omega)) _ _) | (with_reducible refine bs ?_ (by first | omega | (simp [pad_size]; done) | (simp [pad_size]; omega)) _) | (with_reducible refine bt ?_ (by assumption))))))).mono ?_; rintro e w1 ⟨rfl, hb⟩; obtain ⟨m1, g1, d1, hm1, rfl⟩ := pad_of hb; clear hb; simp [pad_size] at hm1)
    | (go_at_call 54; refine (hF.out _ (hbb.out _ (by (repeat (first | (with_reducible exact Below.refl _ _) | (with_reducible assumption) | (with_reducible apply bd) | (with_reducible apply ba) | (with_reducible refine bp ?_ (by first | omega | (simp [pad_size]; done) | (simp [pad_size]; omega)) _ _) | (with_reducible refine bs ?_ (by first | omega | (simp [pad_size]; done) | (simp [pad_size]; omega)) _) | (with_reducible refine bt ?_ (by assumption))))))).mono ?_; rintro e w1 ⟨a, n, c, rfl, hI, hb⟩; obtain ⟨m2, g2, d2, hm2, rfl⟩ := pad_of hb; have hI : Hid _ := hI; clear hb; simp [pad_size] at hm2))
  all_goals go_wp2_with fail
  all_goals go_ret
  all_goals exact ⟨_, rfl, IsCoins.below hI.out (by (repeat (first | (with_reducible exact Below.refl _ _) | (with_reducible assumption) | (with_reducible apply bd) | (with_reducible apply ba) | (with_reducible refine bp ?_ (by first | omega | (simp [pad_size]; done) | (simp [pad_size]; omega)) _ _) | (with_reducible refine bs ?_ (by first | omega | (simp [pad_size]; done) | (simp [pad_size]; omega)) _) | (with_reducible refine bt ?_ (by assumption))))), hbb.out _ (by (repeat (first | (with_reducible exact Below.refl _ _) | (with_reducible assumption) | (with_reducible apply bd) | (with_reducible apply ba) | (with_reducible refine bp ?_ (by first | omega | (simp [pad_size]; done) | (simp [pad_size]; omega)) _ _) | (with_reducible refine bs ?_ (by first | omega | (simp [pad_size]; done) | (simp [pad_size]; omega)) _) | (with_reducible refine bt ?_ (by assumption)))))⟩
set_option maxRecDepth 20000 in
set_option maxHeartbeats 8000000 in
theorem vestedR_5 (w : World) (h : PnAt w ⟨5, s, u, .slice a1 al.length c1, .slice a2 pl.length c2, al, pl⟩) (ho : PnOk ⟨5, s, u, .slice a1 al.length c1, .slice a2 pl.length c2, al, pl⟩) (hr : PnR ⟨5, s, u, .slice a1 al.length c1, .slice a2 pl.length c2, al, pl⟩) (ht : 0 ≤ t ∧ t < 18446744073709551616) :
    Calls Try.prog 19 #[.agg #[.int .u8 5, .int .u64 s, .int .u64 u, .slice a1 al.length c1, .slice a2 pl.length c2], .int .u64 t] w fun e w' => ∃ u', e = .returned u' ∧ IsCoins w' u' (lst (sumP (pl.take (ovN pl s t).1)) 8) ∧ Below w.heap.size w w' := by
  have hpad := pads
  have hb : Below w.heap.size w (w.alloc (.cells #[.int .u8 5, .int .u64 s, .int .u64 u, .slice a1 al.length c1, .slice a2 pl.length c2] 26)) := ba (Below.refl _ _) _
  have hO : Hid (∀ X, Below w.heap.size w X → Calls Try.prog 55 #[.agg #[.int .u8 5, .int .u64 s, .int .u64 u, .slice a1 al.length c1, .slice a2 pl.length c2], .int .u64 t] X fun e w' => e = .returned (.int .i64 ((ovN pl s t).1 : Int)) ∧ Below X.heap.size X w') := overR_hid (x := ⟨5, s, u, .slice a1 al.length c1, .slice a2 pl.length c2, al, pl⟩) (t := t) w h ho ht
  have hF : Hid (∀ X, Below w.heap.size w X → Calls Try.prog 54 #[.agg #[.int .u8 5, .int .u64 s, .int .u64 u, .slice a1 al.length c1, .slice a2 pl.length c2], .int .i64 ((ovN pl s t).1 : Int)] X fun e w' => ∃ a n c, e = .returned (.slice a n c) ∧ IsCoins w' (.slice a n c) (lst (sumP (pl.take (ovN pl s t).1)) 8) ∧ Below X.heap.size X w') := first_hid (x := ⟨5, s, u, .slice a1 al.length c1, .slice a2 pl.length c2, al, pl⟩) (t := t) w h ho (hr.st (by simp))
  have hkeep : Hid (∀ X, Below (w.alloc (.cells #[.int .u8 5, .int .u64 s, .int .u64 u, .slice a1 al.length c1, .slice a2 pl.length c2] 26)).heap.size (w.alloc (.cells #[.int .u8 5, .int .u64 s, .int .u64 u, .slice a1 al.length c1, .slice a2 pl.length c2] 26)) X → X.cell? ⟨w.heap.size, 0, none⟩ = some (.int .u8 5) ∧ X.cell? ⟨w.heap.size, 1, none⟩ = some (.int .u64 s) ∧ X.cell? ⟨w.heap.size, 2, none⟩ = some (.int .u64 u) ∧ X.cell? ⟨w.heap.size, 3, none⟩ = some (.slice a1 al.length c1) ∧ X.cell? ⟨w.heap.size, 4, none⟩ = some (.slice a2 pl.length c2)) := fun X hX => by
    have q1 := (hX.block w.heap.size (by simp)).trans (al_at rfl)
    exact ⟨(cells_of_block q1).1 0, (cells_of_block q1).1 1, (cells_of_block q1).1 2, (cells_of_block q1).1 3, (cells_of_block q1).1 4⟩
  clear h ho hr
  generalize lst (sumP (pl.take (ovN pl s t).1)) 8 = L at *
  generalize (ovN pl s t).1 = m at *
  go_enter Try.func19, Try.ntmps19
  go_upto_region 19 with fail
  generalize (w.alloc (.cells #[.int .u8 5, .int .u64 s, .int .u64 u, .slice a1 al.length c1, .slice a2 pl.length c2] 26)) = U at *
  have hbb : Hid (∀ X, Below U.heap.size U X → Below w.heap.size w X) := fun X hX => bt hb hX
  go_region_held2 (fun X => X.cell? ⟨w.heap.size, 0, none⟩ = some (.int .u8 5) ∧ X.cell? ⟨w.heap.size, 1, none⟩ = some (.int .u64 s) ∧ X.cell? ⟨w.heap.size, 2, none⟩ = some (.int .u64 u) ∧ X.cell? ⟨w.heap.size, 3, none⟩ = some (.slice a1 al.length c1) ∧ X.cell? ⟨w.heap.size, 4, none⟩ = some (.slice a2 pl.length c2)) (exact hkeep.out _ (by (repeat (first | (with_reducible exact Below.refl _ _) | (with_reducible assumption) | (with_reducible apply bd) | (with_reducible apply ba) | (with_reducible refine bp ?_ (by first | omega | (simp [pad_size]; done) | (simp [pad_size]; omega)) _ _) | (with_reducible refine bs ?_ (by first | omega | (simp [pad_size]; done) | (simp [pad_size]; omega)) _) | (with_reducible refine bt ?_ (by assumption)))))) (first
    | (go_at_call 55; refine (hO.out _ (hbb.out _ (by (repeat (first | (with_reducible exact Below.refl _ _) | (with_reducible assumption) | (with_reducible apply bd) | (with_reducible apply ba) | (with_reducible refine bp ?_ (by first | omega | (simp [pad_size]; done) | (simp [pad_size]; omega)) _ _) | (with_reducible refine bs ?_ (by first | omega | (simp [pad_size]; done) | (simp [pad_size]; omega)) _) | (with_reducible refine bt ?_ (by assumption))))))).mono ?_; rintro e w1 ⟨rfl, hb⟩; obtain ⟨m1, g1, d1, hm1, rfl⟩ := pad_of hb; clear hb; simp [pad_size] at hm1)
    | (go_at_call 54; refine (hF.out _ (hbb.out _ (by (repeat (first | (with_reducible exact Below.refl _ _) | (with_reducible assumption) | (with_reducible apply bd) | (with_reducible apply ba) | (with_reducible refine bp ?_ (by first | omega | (simp [pad_size]; done) | (simp [pad_size]; omega)) _ _) | (with_reducible refine bs ?_ (by first | omega | (simp [pad_size]; done) | (simp [pad_size]; omega)) _) | (with_reducible refine bt ?_ (by assumption))))))).mono ?_; rintro e w1 ⟨a, n, c, rfl, hI, hb⟩; obtain ⟨m2, g2, d2, hm2, rfl⟩ := pad_of hb; have hI : Hid _ := hI; clear hb; simp [pad_size] at hm2))
  all_goals go_wp2_with fail
  all_goals go_ret
  all_goals exact ⟨_, rfl, IsCoins.below hI.out (by (repeat (first | (with_reducible exact Below.refl _ _) | (with_reducible assumption) | (with_reducible apply bd) | (with_reducible apply ba) | (with_reducible refine bp ?_ (by first | omega | (simp [pad_size]; done) | (simp [pad_size]; omega)) _ _) | (with_reducible refine bs ?_ (by first | omega | (simp [pad_size]; done) | (simp [pad_size]; omega)) _) | (with_reducible refine bt ?_ (by assumption))))), hbb.out _ (by (repeat (first | (with_reducible exact Below.refl _ _) | (with_reducible assumption) | (with_reducible apply bd) | (with_reducible apply ba) | (with_reducible refine bp ?_ (by first | omega | (simp [pad_size]; done) | (simp [pad_size]; omega)) _ _) | (with_reducible refine bs ?_ (by first | omega | (simp [pad_size]; done) | (simp [pad_size]; omega)) _) | (with_reducible refine bt ?_ (by assumption)))))⟩
end
end Go.Proofs.Ytmfnfnegnfpkiaa

/- The reference's Vested of a plan of kind 1 between its start and its end. -/
namespace Go.Proofs.Ytmfnfnegnfpkiaa
open Go.RowKit

/-- Of a coin so many parts. -/
def prt (a b : Int) (x : Cn) : Cn := cnOf x.d.toNat (vl x * a / b)
/-- What a list's parts make, each at its denomination's place. -/
def ofV (a b : Int) (l : List Cn) : Nat → Cn := ofP (l.map (prt a b))
theorem ofV_snoc (a b : Int) (l : List Cn) (x : Cn) : ofV a b (l ++ [x]) = putP (ofV a b l) (x.d.toNat % 8) (prt a b x) := by
  unfold ofV; rw [List.map_append, List.map_cons, List.map_nil, ofP_snoc]
  have e : ((prt a b x).d % 8).toNat = x.d.toNat % 8 := by unfold prt cnOf; simp only; omega
  rw [e]
theorem says_part {x : Cn} {a b : Int} (hx : LimC x) (ha : 0 ≤ a ∧ a < 18446744073709551616) (hb : 0 < b ∧ b < 18446744073709551616) (hab : a ≤ b) (d : Nat) :
    Says 51 #[.agg #[.int .u64 x.a, .int .u64 x.b, .int .u64 x.c, .int .u64 x.e], .agg #[.int .u64 a, .int .u64 0, .int .u64 0, .int .u64 0], .agg #[.int .u64 b, .int .u64 0, .int .u64 0, .int .u64 0], .bool false] (.tuple #[.agg #[.int .u64 (cnOf d (vl x * a / b)).a, .int .u64 (cnOf d (vl x * a / b)).b, .int .u64 (cnOf d (vl x * a / b)).c, .int .u64 (cnOf d (vl x * a / b)).e], .int .i64 0]) := by
  have hp := part_le (val_lo hx) ha.1 hab hb.1
  have hv := val_hi hx
  have hz := cnOf_lim (d := d) (n := vl x * a / b) hp.1 (by unfold vl; omega)
  have he := cnOf_vl (d := d) (n := vl x * a / b)
  refine says_mdR (q := vl x * a / b) (r := vl x * a % b) false hx (by unfold Lim; omega) (by unfold Lim; omega) hz ?_ ?_ ?_
  · have h0 : ¬ b = 0 := by omega
    simp [eq4, h0]
  · unfold Hid
    rw [val_of, val_of]
    have h1 := Int.emod_nonneg (vl x * a) (show b ≠ 0 by omega)
    have h2 := Int.emod_lt_of_pos (vl x * a) hb.1
    have h3 := Int.mul_ediv_add_emod (vl x * a) b
    refine ⟨?_, h1, h2⟩
    have h4 : vl x * a / b * b = b * (vl x * a / b) := Int.mul_comm _ _
    show vl x * a = _
    omega
  · unfold Hid upI
    rw [if_neg (by simp)]
    exact he
end Go.Proofs.Ytmfnfnegnfpkiaa

/- Each coin's parts at its place: the parts of each denomination. -/
namespace Go.Proofs.Ytmfnfnegnfpkiaa
open Go.RowKit

theorem ofV_lst {z : Nat → Cn} (hz : Purse z) (a b : Int) : ∀ k, k ≤ 8 → ∀ d : Nat, ofP ((lst z k).map (prt a b)) d = if d < k then cnOf d (vl (z d) * a / b) else ⟨d, 0, 0, 0, 0⟩
  | 0, _, d => by simp [lst, ofP, zeroP]
  | k + 1, hk, d => by
    have ih := ofV_lst hz a b k (by omega) d
    have hzk := hz k (by omega)
    simp only [lst]
    rcases Bool.eq_false_or_eq_true (eq4 (z k).a (z k).b (z k).c (z k).e 0 0 0 0) with hq | hq
    · rw [oneL, if_pos hq, List.append_nil, ih]
      by_cases e : d = k
      · subst e
        rw [if_neg (by omega), if_pos (by omega)]
        obtain ⟨h0, h1, h2, h3⟩ := eq4_true.1 hq
        have hv : vl (z d) = 0 := by unfold vl; rw [h0, h1, h2, h3]; exact val0
        rw [hv, Int.zero_mul, Int.zero_ediv]
        simp [cnOf]
      · by_cases h : d < k
        · rw [if_pos h, if_pos (by omega)]
        · rw [if_neg h, if_neg (by omega)]
    · rw [oneL, if_neg (by simp [hq]), List.map_append, List.map_cons, List.map_nil, ofP_snoc]
      have e8 : ((prt a b (z k)).d % 8).toNat = k := by unfold prt cnOf; simp only; rw [hzk.2]; omega
      rw [e8]
      unfold putP
      by_cases e : d = k
      · subst e
        rw [if_pos rfl, if_pos (by omega)]
        rfl
      · rw [if_neg e, ih]
        by_cases h : d < k
        · rw [if_pos h, if_pos (by omega)]
        · rw [if_neg h, if_neg (by omega)]
theorem ofV_ev {al : List Cn} (hwf : ∀ x ∈ al, CnWf x) (hr : rightFrom 0 al = true) (a b : Int) : lst (ofV a b al) 8 = lst (evP al a b) 8 := by
  refine lst_congr 8 fun d hd => ?_
  have h := ofV_lst (amP_purse hwf) a b 8 (Nat.le_refl _) d
  rw [amP_lst hr, if_pos hd] at h
  exact h
end Go.Proofs.Ytmfnfnegnfpkiaa
