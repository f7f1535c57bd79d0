
/- num.downward, cmp.Compare, num.Cmp. -/
import Derived.Test.YtjhjgncnadhbhaaN2
import Derived.Test.YtjhjgncnadhbhaaE
set_option linter.unusedSimpArgs false
set_option linter.unusedVariables false
set_option maxRecDepth 20000
namespace Go.Proofs.Ytjhjgncnadhbhaa
open Go.RowKit Go.Shelf
attribute [local go_sem] Oper.semAt_some

def cmpI (x y : Int) : Int := if x < y then -1 else if y < x then 1 else 0

set_option maxHeartbeats 400000 in
theorem down_any (a0 a1 a2 a3 : Int) (w : World) :
    Calls Try.prog 100 #[.agg #[.int .u64 a0, .int .u64 a1, .int .u64 a2, .int .u64 a3]] w fun e w' =>
      e = .returned (.func (.func 109) #[] #[.pointer (some ⟨w.heap.size, 0, none⟩)]) ∧ w' = w.alloc (.cells #[.int .u64 a0, .int .u64 a1, .int .u64 a2, .int .u64 a3] 64) := by
  have hmf : ∀ (fn : Fn) (first cap : Array Value) (w : World), (Instr.makeFunc fn first cap).run Try.prog w = .ok (.func fn first cap) w := fun _ _ _ _ => rfl
  go_enter Try.func100, Try.ntmps100
  go_wp2
  go_ret
  exact ⟨rfl, rfl⟩

set_option maxHeartbeats 400000 in
theorem compare_any (x y : Int) (w : World) :
    Calls Try.prog 101 #[.int .u64 x, .int .u64 y] w fun e w' => e = .returned (.int .i64 (cmpI x y)) ∧ w' = w := by
  unfold cmpI
  by_cases h1 : x < y
  · go_enter Try.func101, Try.ntmps101
    go_wp2
    go_ret
    exact ⟨by simp [h1], rfl⟩
  · by_cases h2 : y < x
    · go_enter Try.func101, Try.ntmps101
      go_wp2
      go_ret
      exact ⟨by simp [h1, h2], rfl⟩
    · go_enter Try.func101, Try.ntmps101
      go_wp2
      go_ret
      exact ⟨by simp [h1, h2], rfl⟩

set_option maxHeartbeats 400000 in
theorem cmp_eq (x0 x1 x2 x3 y0 y1 y2 y3 : Int) (he : eq4 x0 x1 x2 x3 y0 y1 y2 y3 = true) (w : World) :
    Calls Try.prog 86 #[.agg #[.int .u64 x0, .int .u64 x1, .int .u64 x2, .int .u64 x3], .agg #[.int .u64 y0, .int .u64 y1, .int .u64 y2, .int .u64 y3]] w fun e w' => e = .returned (.int .i64 0) ∧ Below w.heap.size w w' := by
  have heq := eq_num
  go_enter Try.func86, Try.ntmps86
  go_wp2
  refine bodyPost_ret (v := .int .i64 0) (by simp only [results, Try.results86]; go_simp) rfl ⟨rfl, ?_⟩
  (repeat (first | (with_reducible exact Below.refl _ _) | (with_reducible assumption) | (with_reducible apply bd) | (with_reducible apply ba) | (with_reducible refine bp ?_ (by first | omega | (simp [pad_size]; done) | (simp [pad_size]; omega)) _ _) | (with_reducible refine bs ?_ (by first | omega | (simp [pad_size]; done) | (simp [pad_size]; omega)) _) | (with_reducible refine bt ?_ (by assumption))))

theorem cmpI_zero {a b : Int} (h : cmpI a b = 0) : a = b := by
  unfold cmpI at h
  split at h
  · omega
  · split at h <;> omega

def at4 (y0 y1 y2 y3 : Int) (i : Nat) : Int := match i with | 0 => y0 | 1 => y1 | 2 => y2 | _ => y3

theorem cmp_all {x0 x1 x2 x3 y0 y1 y2 y3 : Int} (hx : Lim x0 x1 x2 x3) (h : ∀ p ∈ limbsDown hx, p.1.2 = at4 y0 y1 y2 y3 p.1.1) : cmpI (val x0 x1 x2 x3) (val y0 y1 y2 y3) = 0 := by
  simp [limbsDown, limb, at4] at h
  obtain ⟨rfl, rfl, rfl, rfl⟩ := h
  simp [cmpI]

theorem cmp_stop {x0 x1 x2 x3 y0 y1 y2 y3 : Int} (hx : Lim x0 x1 x2 x3) (hy : Lim y0 y1 y2 y3) {init : List Limb} {x : Limb} (hp : init ++ [x] <+: limbsDown hx) (h : ∀ p ∈ init, p.1.2 = at4 y0 y1 y2 y3 p.1.1)
    (hne : cmpI x.1.2 (at4 y0 y1 y2 y3 x.1.1) ≠ 0) : cmpI x.1.2 (at4 y0 y1 y2 y3 x.1.1) = cmpI (val x0 x1 x2 x3) (val y0 y1 y2 y3) := by
  obtain ⟨t, ht⟩ := hp
  unfold limbsDown at ht
  match init, h, ht with
  | [], h, ht =>
    simp at ht
    obtain ⟨rfl, -⟩ := ht
    simp only [limb, at4] at hne ⊢
    unfold Lim at hx hy
    unfold cmpI val at *
    split at hne <;> split <;> (first | omega | (split <;> omega))
  | [a], h, ht =>
    simp at ht h
    obtain ⟨rfl, rfl, -⟩ := ht
    simp only [limb, at4] at hne h ⊢
    unfold Lim at hx hy
    unfold cmpI val at *
    split at hne <;> split <;> (first | omega | (split <;> omega))
  | [a, b], h, ht =>
    simp at ht h
    obtain ⟨rfl, rfl, rfl, -⟩ := ht
    simp only [limb, at4] at hne h ⊢
    unfold Lim at hx hy
    unfold cmpI val at *
    split at hne <;> split <;> (first | omega | (split <;> omega))
  | [a, b, c], h, ht =>
    simp at ht h
    obtain ⟨rfl, rfl, rfl, rfl, -⟩ := ht
    simp only [limb, at4] at hne h ⊢
    unfold Lim at hx hy
    unfold cmpI val at *
    split at hne <;> split <;> (first | omega | (split <;> omega))
  | a :: b :: c :: d :: r, h, ht =>
    have := congrArg List.length ht
    simp at this

theorem block_kept {W W' : World} {row : Option Nat} {k : Nat} {c : Array Value} {t : TypeId} (h : W.heap[k]? = some (.cells c t (0, 0))) (hg : W.grownBy W' row) (hrow : ∀ r, row = some r → ∃ o : Obj, W.heap[r]? = some o ∧ o.isCells = false) : W'.heap[k]? = some (.cells c t (0, 0)) := by
  rw [hg.block k (Array.getElem?_eq_some_iff.1 h).1 (fun e => by obtain ⟨o, ho, hc⟩ := hrow k e.symm; rw [h] at ho; cases ho; cases hc)]; exact h

theorem putObj_block {W : World} {k D : Nat} {o o' o'' : Obj} (h : W.heap[k]? = some o) (hD : W.heap[D]? = some o') (hne : o ≠ o') : (W.putObj D o'').heap[k]? = some o := by
  rw [World.putObj_heap_other (by rintro rfl; rw [h] at hD; cases hD; exact hne rfl)]; exact h

set_option maxRecDepth 100000 in
set_option maxHeartbeats 4000000 in
theorem cmp_any (x0 x1 x2 x3 y0 y1 y2 y3 : Int) (hx : Lim x0 x1 x2 x3) (hy : Lim y0 y1 y2 y3) (w : World) :
    Calls Try.prog 86 #[.agg #[.int .u64 x0, .int .u64 x1, .int .u64 x2, .int .u64 x3], .agg #[.int .u64 y0, .int .u64 y1, .int .u64 y2, .int .u64 y3]] w fun e w' => e = .returned (.int .i64 (cmpI (val x0 x1 x2 x3) (val y0 y1 y2 y3))) ∧ Below w.heap.size w w' := by
  by_cases he : eq4 x0 x1 x2 x3 y0 y1 y2 y3 = true
  · refine (cmp_eq _ _ _ _ _ _ _ _ he w).mono ?_
    rintro e w' ⟨rfl, hb⟩
    obtain ⟨rfl, rfl, rfl, rfl⟩ := eq4_true.1 he
    exact ⟨by simp [cmpI], hb⟩
  have he : eq4 x0 x1 x2 x3 y0 y1 y2 y3 = false := by simpa using he
  refine (callsIn_wide (n := 8)).1 ?_
  have heq := eq_num
  have hfn : ∀ f, Fence.wide.fn f := fun _ => trivial
  refine callsIn_of_wp_marks Try.func86 rfl trivial ?_ rfl
  simp only [Try.ntmps86, List.size_toArray, List.length_cons, List.length_nil, Nat.reduceAdd, Nat.reduceSub, Array.replicate_succ, Array.replicate_zero, List.push_toArray, List.append_toArray, List.nil_append, List.cons_append]
  gi_wp2_with (gi_at_call 100; refine (callsIn_wide.2 (down_any _ _ _ _ _)).mono ?_; rintro e w' ⟨rfl, rfl⟩)
  refine wpIn_rangeFunc_ownF rfl (by omega) (gf := 109) (lb := #[.pointer (some ⟨w.heap.size + 1 + 1 + 1, 0, none⟩)]) rfl trivial (enters_of Try.func109 (by kernel_rfl) rfl)
    (down_stops 7 (by omega) (w.heap.size + 1 + 1 + 1) hx 64 _ (by (repeat (first | (with_reducible exact al_at (by simp [pad_size])) | (with_reducible refine Eq.trans (dr_blk _ _) ?_) | (with_reducible refine Eq.trans (al_old (by first | omega | (simp [pad_size]; done) | (simp [pad_size]; omega))) ?_) | (with_reducible refine Eq.trans (pad_block (by first | omega | (simp [pad_size]; done) | (simp [pad_size]; omega)) (by first | omega | (simp [pad_size]; done) | (simp [pad_size]; omega))) ?_) | (with_reducible assumption))))) (fun h k => Eq.trans k h) (fun W l o o' hl h _ _ => ?hkb) (Below.refl _ _) (fun _ => rfl)
    (fun pre W => (W.heap[w.heap.size + 1]? = some (.cells #[.int .u64 y0, .int .u64 y1, .int .u64 y2, .int .u64 y3] 64 (0, 0)) ∧ W.heap[w.heap.size + 1 + 1]? = some (.cells #[.int .i64 0] 3 (0, 0)) ∧ (∀ p ∈ pre, p.1.2 = at4 y0 y1 y2 y3 p.1.1)) ∧ Below w.heap.size w W)
    (fun c pre W => (c = .ret ∧ ∃ init x, pre = init ++ [x] ∧ (∀ p ∈ init, p.1.2 = at4 y0 y1 y2 y3 p.1.1) ∧ cmpI x.1.2 (at4 y0 y1 y2 y3 x.1.1) ≠ 0 ∧ W.heap[w.heap.size + 1 + 1]? = some (.cells #[.int .i64 (cmpI x.1.2 (at4 y0 y1 y2 y3 x.1.1))] 3 (0, 0))) ∧ Below w.heap.size w W)
    (OwnFrom.and (Own.from (fun s A B row hs hg hr => ⟨block_kept hs.1 hg hr, block_kept hs.2.1 hg hr, hs.2.2⟩) _) (ownFrom_below (Nat.le_refl _) (by simp; omega)))
    (fun c => OwnFrom.and (Own.from (fun s A B row hs hg hr => by obtain ⟨h1, init, x, h2, h3, h4, h5⟩ := hs; exact ⟨h1, init, x, h2, h3, h4, block_kept h5 hg hr⟩) _) (ownFrom_below (Nat.le_refl _) (by simp; omega)))
    ⟨⟨by (repeat (first | (with_reducible exact al_at (by simp [pad_size])) | (with_reducible refine Eq.trans (dr_blk _ _) ?_) | (with_reducible refine Eq.trans (al_old (by first | omega | (simp [pad_size]; done) | (simp [pad_size]; omega))) ?_) | (with_reducible refine Eq.trans (pad_block (by first | omega | (simp [pad_size]; done) | (simp [pad_size]; omega)) (by first | omega | (simp [pad_size]; done) | (simp [pad_size]; omega))) ?_) | (with_reducible assumption))), by (repeat (first | (with_reducible exact al_at (by simp [pad_size])) | (with_reducible refine Eq.trans (dr_blk _ _) ?_) | (with_reducible refine Eq.trans (al_old (by first | omega | (simp [pad_size]; done) | (simp [pad_size]; omega))) ?_) | (with_reducible refine Eq.trans (pad_block (by first | omega | (simp [pad_size]; done) | (simp [pad_size]; omega)) (by first | omega | (simp [pad_size]; done) | (simp [pad_size]; omega))) ?_) | (with_reducible assumption))), by simp⟩, by (repeat (first | (with_reducible exact Below.refl _ _) | (with_reducible assumption) | (with_reducible apply bd) | (with_reducible apply ba) | (with_reducible refine bp ?_ (by first | omega | (simp [pad_size]; done) | (simp [pad_size]; omega)) _ _) | (with_reducible refine bs ?_ (by first | omega | (simp [pad_size]; done) | (simp [pad_size]; omega)) _) | (with_reducible refine bt ?_ (by assumption))))⟩
    (fun x => { tmps := #[.agg #[.int .u64 x0, .int .u64 x1, .int .u64 x2, .int .u64 x3], .agg #[.int .u64 y0, .int .u64 y1, .int .u64 y2, .int .u64 y3], .pointer (some ⟨w.heap.size, 0, none⟩), .pointer (some ⟨w.heap.size + 1, 0, none⟩), .pointer (some ⟨w.heap.size + 1 + 1, 0, none⟩), .int .i64 (x.1.1 : Int), .int .u64 x.1.2, undef, .agg #[.int .u64 x0, .int .u64 x1, .int .u64 x2, .int .u64 x3], .agg #[.int .u64 y0, .int .u64 y1, .int .u64 y2, .int .u64 y3], .bool true, .agg #[.int .u64 x0, .int .u64 x1, .int .u64 x2, .int .u64 x3], .func (.func 109) #[] #[.pointer (some ⟨w.heap.size + 1 + 1 + 1, 0, none⟩)], .int .i64 (x.1.1 : Int), .int .u64 x.1.2, undef, undef, undef, undef, undef, undef, undef, undef], defers := [] }) ?assign ?body ?done ?stop
  case hkb => 
    unfold KpB
    rw [World.putObj_heap_other]
    intro e; simp at hl; omega
  case assign =>
    intro l x W K hK
    gi_wp2
    exact hK
  case body =>
    rintro l pre ⟨⟨i, v⟩, hi, hv⟩ W ⟨⟨hb1, hb2, hp⟩, hB⟩ _
    obtain ⟨c1, f1⟩ := cells_of_block hb1
    obtain ⟨c2, f2⟩ := cells_of_block hb2
    dsimp only at hi hv
    rcases (show i = 0 ∨ i = 1 ∨ i = 2 ∨ i = 3 by omega) with rfl | rfl | rfl | rfl
    all_goals
      gi_wp2_with (gi_at_call 101; refine (CallsIn.inRound l (callsIn_wide.2 (compare_any _ _ _))).mono ?_; rintro e w' ⟨rfl, rfl⟩)
    all_goals rename_i hc
    all_goals first
      | exact ⟨KeepsOthers.setCell _ _ _, ⟨rfl, pre, _, rfl, hp, by simpa [at4] using hc, by simpa [at4] using block_set (i := 0) (.int .i64 _) hb2⟩, hB.setCell (p := ⟨w.heap.size + 1 + 1, 0, none⟩) (by first | omega | (simp [pad_size]; done) | (simp [pad_size]; omega)) _⟩
      | exact ⟨KeepsOthers.refl _, rfl, ⟨hb1, hb2, fun p hpm => (List.mem_append.1 hpm).elim (hp p) (fun e => by simp at e; subst e; simpa [at4] using cmpI_zero (by simpa using hc))⟩, hB⟩
  case done =>
    rintro D ys W hD rfl ⟨⟨hb1, hb2, hp⟩, hB⟩ hK
    obtain ⟨c2, f2⟩ := cells_of_block hb2
    gi_wp2
    have hK' := (KeepsOthers.setCell W ⟨w.heap.size + 1 + 1, 0, none⟩ (.int .i64 0)).same D _ hK rfl
    refine ⟨by simp, .inl ⟨_, _, rfl, run_takeDeferred hK', ?_⟩⟩
    have hb3 := putObj_block (o'' := .deferred none) (block_set (i := 0) (.int .i64 0) hb2) hK' (by simp)
    obtain ⟨c3, f3⟩ := cells_of_block hb3
    refine ⟨.int .i64 0, ?_, by rw [cmp_all hx hp], (hB.setCell (p := ⟨w.heap.size + 1 + 1, 0, none⟩) (by first | omega | (simp [pad_size]; done) | (simp [pad_size]; omega)) _).trans (belowK_b (w := w) (Nat.le_refl _) _ D _ _ (by simp at hD; omega) hK' rfl rfl)⟩
    simp [results, Try.results86, go_sem, c3]
  case stop =>
    rintro D c pre W hD hpre ⟨⟨rfl, init, x, rfl, h3, h4, h5⟩, hB⟩ hK
    gi_wp2
    refine ⟨by simp, .inl ⟨_, _, rfl, run_takeDeferred hK, ?_⟩⟩
    have hb3 := putObj_block (o'' := .deferred none) h5 hK (by simp)
    obtain ⟨c3, f3⟩ := cells_of_block hb3
    refine ⟨.int .i64 (cmpI x.1.2 (at4 y0 y1 y2 y3 x.1.1)), ?_, by rw [cmp_stop hx hy hpre h3 h4], hB.trans (belowK_b (w := w) (Nat.le_refl _) W D _ _ (by simp at hD; omega) hK rfl rfl)⟩
    simp [results, Try.results86, go_sem, c3]
end Go.Proofs.Ytjhjgncnadhbhaa
