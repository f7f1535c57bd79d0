
/- Several texts, one behind the other: PO12, Z11, PO13, PO14, PO15, PO16, PO17, PO18, PO19. -/
import Derived.Test.YtafcianpajheiaaPQ5
import Derived.Test.YtafcianpajheiaaV0
import Derived.Test.YtafcianpajheiaaC5
import Derived.Test.YtafcianpajheiaaV
import Derived.Test.YtafcianpajheiaaV6
import Derived.Test.YtafcianpajheiaaO12
/- pool: the reference's SetVal. -/
set_option linter.unusedSimpArgs false
set_option linter.unusedVariables false
set_option maxRecDepth 20000
namespace Go.Proofs.Ytafcianpajheiaa
open Go.RowKit

def setN (xs : List Value) (p : Nat) : List Value → List Value
  | [] => xs
  | c :: cs => setN (xs.set p c) (p + 1) cs
theorem setN_right (a : List Value) : ∀ (cs r : List Value) (p : Nat), setN (a ++ r) (a.length + p) cs = a ++ setN r p cs
  | [], r, p => rfl
  | c :: cs, r, p => by
    simp only [setN]
    rw [List.set_append_right _ _ (by omega), show a.length + p - a.length = p by omega, Nat.add_assoc, setN_right a cs (r.set p c) (p + 1)]
theorem setN_front : ∀ (cs pre a r : List Value), a.length = cs.length → setN (pre ++ (a ++ r)) pre.length cs = pre ++ (cs ++ r)
  | [], pre, a, r, h => by
    have : a = [] := List.eq_nil_of_length_eq_zero h
    subst this; rfl
  | c :: cs, pre, a, r, h => by
    match a, h with
    | x :: a, h =>
      simp only [setN]
      have e : (pre ++ (x :: a ++ r)).set pre.length c = (pre ++ [c]) ++ (a ++ r) := by
        rw [List.set_append_right _ _ (Nat.le_refl _), Nat.sub_self]; simp
      rw [e]
      have ih := setN_front cs (pre ++ [c]) a r (by simpa using h)
      rw [List.length_append] at ih
      simp only [List.length_cons, List.length_nil] at ih
      rw [ih]; simp
theorem setN_flat {α : Type} {f : α → List Value} {k : Nat} (hk : ∀ y, (f y).length = k) : ∀ (M : List α) (i : Nat) (y : α), i < M.length → setN (M.flatMap f) (i * k) (f y) = (M.set i y).flatMap f
  | [], i, y, h => by simp at h
  | x :: M, 0, y, _ => by
    have h := setN_front (f y) [] (f x) (M.flatMap f) (by rw [hk, hk])
    simpa using h
  | x :: M, i + 1, y, h => by
    have ih := setN_flat hk M i y (by simpa using h)
    rw [List.flatMap_cons, List.set_cons_succ, List.flatMap_cons, ← ih, ← setN_right, hk]
    congr 1
    rw [Nat.add_mul]; omega
section
variable {X : World} {m lo base : Nat} {B : Nat → Prop} {c0 c1 c2 c3 c6 c7 vv vd : Value} {M : List Vx} {N : List Dx}
set_option maxHeartbeats 4000000 in
theorem setV11_bad {i : Int} {x : Vd} {a1 a2 : Option Addr} {k1 k2 : Nat} (hx : VIn x) (hI : IsCL X (.slice a1 x.ix.length k1) x.ix) (hE : IsCL X (.slice a2 x.er.length k2) x.er) (p : Addr) (hm : mayB x.ow x.rt x.ix x.er = false) :
    Calls Try.prog 25 #[.pointer (some p), .agg #[.int .u8 i, .int .u8 x.ow, .int .u16 x.rt, .bool x.jl, .int .u64 x.t0, .int .u64 x.t1, .int .u64 x.t2, .int .u64 x.t3, .int .u64 x.s0, .int .u64 x.s1, .int .u64 x.s2, .int .u64 x.s3, .slice a1 x.ix.length k1, .slice a2 x.er.length k2]] X fun e w' => e = .returned (.int .i64 1) ∧ Below X.heap.size X w' := by
  have hM := fun Y (hX : Below X.heap.size X Y) => right11_any (id := i) (ow := x.ow) (rt := x.rt) (jl := x.jl) (t0 := x.t0) (t1 := x.t1) (t2 := x.t2) (t3 := x.t3) (s0 := x.s0) (s1 := x.s1) (s2 := x.s2) (s3 := x.s3) (hI.below hX) (hE.below hX) hx.iw hx.ew
  rw [hm] at hM
  obtain ⟨ow, rt, jl, t0, t1, t2, t3, s0, s1, s2, s3, ix, er⟩ := x
  simp only at hM ⊢
  have hM : Hid _ := hM
  clear hx hI hE hm
  go_enter Try.func25, Try.ntmps25
  go_wp2_with (go_at_call 46; refine (hM.out _ (by (repeat (first | (with_reducible exact Below.refl _ _) | (with_reducible assumption) | (with_reducible apply bd) | (with_reducible apply ba) | (with_reducible refine bp ?_ (by first | omega | (simp [pad_size]; done) | (simp [pad_size]; omega)) _ _) | (with_reducible refine bs ?_ (by first | omega | (simp [pad_size]; done) | (simp [pad_size]; omega)) _) | (with_reducible refine bt ?_ (by assumption)))))).mono ?_; rintro e w1 ⟨rfl, hb1⟩)
  go_ret
  exact ⟨rfl, bt (by (repeat (first | (with_reducible exact Below.refl _ _) | (with_reducible assumption) | (with_reducible apply bd) | (with_reducible apply ba) | (with_reducible refine bp ?_ (by first | omega | (simp [pad_size]; done) | (simp [pad_size]; omega)) _ _) | (with_reducible refine bs ?_ (by first | omega | (simp [pad_size]; done) | (simp [pad_size]; omega)) _) | (with_reducible refine bt ?_ (by assumption))))) hb1⟩
theorem set_ids {M : List Vx} (h : M.map (·.i) = List.range M.length) {i : Nat} (hi : i < M.length) {y : Vx} (hy : y.i = i) : (M.set i y).map (·.i) = List.range (M.set i y).length := by
  rw [List.length_set, ← h, List.map_set, hy]
  apply List.ext_getElem? 
  intro j
  rw [List.getElem?_set]
  split
  · rename_i hij
    subst hij
    rw [List.length_map, if_pos hi, h]
    simp [hi]
  · rfl
set_option maxRecDepth 20000 in
set_option maxHeartbeats 8000000 in
theorem setV11_any (h : RSt X m lo base B c0 c1 c2 c3 c6 c7 vv vd M N) {i : Nat} {x : Vd} {a1 a2 : Option Addr} {k1 k2 : Nat} (hl : M.length ≤ 16) (hi : i ≤ 255) (hx : VIn x) (hm : mayB x.ow x.rt x.ix x.er = true) (hI : VxLo X lo ⟨i, x, a1, k1, a2, k2⟩) :
    Calls Try.prog 25 #[.pointer (some ⟨m, 0, none⟩), .agg #[.int .u8 i, .int .u8 x.ow, .int .u16 x.rt, .bool x.jl, .int .u64 x.t0, .int .u64 x.t1, .int .u64 x.t2, .int .u64 x.t3, .int .u64 x.s0, .int .u64 x.s1, .int .u64 x.s2, .int .u64 x.s3, .slice a1 x.ix.length k1, .slice a2 x.er.length k2]] X fun e w' => (i < M.length ∧ e = .returned (.int .i64 0) ∧ ∃ B' vv', RSt w' m lo base B' c0 c1 c2 c3 c6 c7 vv' vd (M.set i ⟨i, x, a1, k1, a2, k2⟩) N ∧ Fr X w' B B') ∨ (M.length ≤ i ∧ e = .returned (.int .i64 5) ∧ Below X.heap.size X w') := by
  have hM := fun Y (hX : Below X.heap.size X Y) => right11_any (id := (i : Int)) (ow := x.ow) (rt := x.rt) (jl := x.jl) (t0 := x.t0) (t1 := x.t1) (t2 := x.t2) (t3 := x.t3) (s0 := x.s0) (s1 := x.s1) (s2 := x.s2) (s3 := x.s3) (hI.c1.below hX).toCL (hI.c2.below hX).toCL hx.iw hx.ew
  simp only at hM
  rw [hm] at hM
  have hend : Hid (i < M.length → ∀ (Y : World) (v' : Value), Below X.heap.size X Y → Y.ownsRow X.heap.size 43 14 v' M.length (setN (M.flatMap vxC) (i * 14) (vxC ⟨i, x, a1, k1, a2, k2⟩)) → ∃ B' vv', RSt (Y.setCell ⟨m, 4, none⟩ v') m lo base B' c0 c1 c2 c3 c6 c7 vv' vd (M.set i ⟨i, x, a1, k1, a2, k2⟩) N ∧ Fr X (Y.setCell ⟨m, 4, none⟩ v') B B') := fun hil Y v' hY hr => by
    rw [setN_flat vxC_len M i _ hil] at hr
    obtain ⟨B', q1, q2⟩ := h.setV hY (M' := M.set i ⟨i, x, a1, k1, a2, k2⟩) (by rw [List.length_set]; exact hr) (set_ids h.ids hil rfl) (fun y hy => by
      rcases List.mem_or_eq_of_mem_set hy with hy | rfl
      · exact h.cv y hy
      · exact hI)
    exact ⟨B', v', q1, q2⟩
  have hrow : Hid (∀ Y, Below X.heap.size X Y → Y.ownsRow base 43 14 vv M.length (M.flatMap vxC)) := fun Y hY => own_below h.rowV hY
  have hblk : Hid (∀ Y, Below X.heap.size X Y → Y.heap[m]? = some (.cells #[c0, c1, c2, c3, vv, vd, c6, c7] 37 (0, 0))) := fun Y hY => (hY.block m h.lt).trans h.blk
  obtain ⟨av, cv, rfl⟩ := row_slice h.rowV
  have hlt := h.lt
  obtain ⟨ow, rt, jl, t0, t1, t2, t3, s0, s1, s2, s3, ix, er⟩ := x
  simp only at hM hend ⊢
  have hM : Hid _ := hM
  clear h hI hx hm
  have hA0 : (X.alloc (.cells #[.int .u8 i, .int .u8 ow, .int .u16 rt, .bool jl, .int .u64 t0, .int .u64 t1, .int .u64 t2, .int .u64 t3, .int .u64 s0, .int .u64 s1, .int .u64 s2, .int .u64 s3, .slice a1 ix.length k1, .slice a2 er.length k2] 43)).heap[X.heap.size]? = some (.cells #[.int .u8 i, .int .u8 ow, .int .u16 rt, .bool jl, .int .u64 t0, .int .u64 t1, .int .u64 t2, .int .u64 t3, .int .u64 s0, .int .u64 s1, .int .u64 s2, .int .u64 s3, .slice a1 ix.length k1, .slice a2 er.length k2] 43 (0, 0)) := al_at rfl
  have hne : ¬ X.heap.size = m := by omega
  have hne2 : ¬ m = X.heap.size := by omega
  have hw8 : IntKind.i64.wrap (i : Int) = (i : Int) := by rw [IntKind.wrap_i64]; omega
  by_cases hil : i < M.length
  · have hil' : ¬ (M.length : Int) ≤ (i : Int) := by omega
    have hil2 : (i : Int) < (M.length : Int) := by omega
    go_enter Try.func25, Try.ntmps25
    go_upto_region 3 with (go_at_call 46; refine (hM.out _ (by (repeat (first | (with_reducible exact Below.refl _ _) | (with_reducible assumption) | (with_reducible apply bd) | (with_reducible apply ba) | (with_reducible refine bp ?_ (by first | omega | (simp [pad_size]; done) | (simp [pad_size]; omega)) _ _) | (with_reducible refine bs ?_ (by first | omega | (simp [pad_size]; done) | (simp [pad_size]; omega)) _) | (with_reducible refine bt ?_ (by assumption)))))).mono ?_; rintro e w1 ⟨rfl, hb1⟩; have hB1 : Below X.heap.size X w1 := bt (by (repeat (first | (with_reducible exact Below.refl _ _) | (with_reducible assumption) | (with_reducible apply bd) | (with_reducible apply ba) | (with_reducible refine bp ?_ (by first | omega | (simp [pad_size]; done) | (simp [pad_size]; omega)) _ _) | (with_reducible refine bs ?_ (by first | omega | (simp [pad_size]; done) | (simp [pad_size]; omega)) _) | (with_reducible refine bt ?_ (by assumption))))) hb1; obtain ⟨e1, f1⟩ := cells_of_block (hblk.out w1 hB1); have q1 := (hb1.block X.heap.size (by simp)).trans hA0; obtain ⟨g1, y1⟩ := cells_of_block q1)
    go_quiet (fail)
    have hdn : Below w1.heap.size w1 (w1.drewN nq) := bdn _ nq
    go_wp2_with (at_builtin; refine vx_copy (W := w1) (M := M) (own_below (hrow.out _ hB1) hdn) hdn (by omega) rfl _ _ rfl rfl rfl ?_; intro v2 w2 hr2 hg2; have hb2 : Below w1.heap.size w1 w2 := hdn.grown hg2 hdn.size (fun _ h => by cases h); obtain ⟨a2', k2', rfl⟩ := row_slice hr2; obtain ⟨g, cap, ev, hgl, hgb, hcell⟩ := row_at vxC_len hr2 hil; simp at ev; obtain ⟨rfl, rfl⟩ := ev; have q2 := (hb2.block X.heap.size (Array.getElem?_eq_some_iff.1 q1).1).trans q1; obtain ⟨g2, y2⟩ := cells_of_block q2; obtain ⟨e2, f2⟩ := cells_of_block (hblk.out w2 (bt hB1 hb2)); have fz := (fun j => hr2.frozenAt j); have d0 := hcell 0 (by decide); have d1 := hcell 1 (by decide); have d2 := hcell 2 (by decide); have d3 := hcell 3 (by decide); have d4 := hcell 4 (by decide); have d5 := hcell 5 (by decide); have d6 := hcell 6 (by decide); have d7 := hcell 7 (by decide); have d8 := hcell 8 (by decide); have d9 := hcell 9 (by decide); have d10 := hcell 10 (by decide); have d11 := hcell 11 (by decide); have d12 := hcell 12 (by decide); have d13 := hcell 13 (by decide); simp [vxC] at d0 d1 d2 d3 d4 d5 d6 d7 d8 d9 d10 d11 d12 d13; have zz := (Array.getElem?_eq_some_iff.1 q1).1; have hgm : ¬ g = m := (by omega); have hmg : ¬ m = g := (by omega); have hgX : ¬ g = X.heap.size := (by have := (Array.getElem?_eq_some_iff.1 q1).1; omega); have hXg : ¬ X.heap.size = g := (fun e => hgX e.symm); clear hcell)
    have hs0 := (hr2.stored (i * 14) (.int .u8 (i : Nat))).1
    have hs1 := (hs0.stored (i * 14 + 1) (.int .u8 ow)).1
    have hs2 := (hs1.stored (i * 14 + 2) (.int .u16 rt)).1
    have hs3 := (hs2.stored (i * 14 + 3) (.bool jl)).1
    have hs4 := (hs3.stored (i * 14 + 4) (.int .u64 t0)).1
    have hs5 := (hs4.stored (i * 14 + 5) (.int .u64 t1)).1
    have hs6 := (hs5.stored (i * 14 + 6) (.int .u64 t2)).1
    have hs7 := (hs6.stored (i * 14 + 7) (.int .u64 t3)).1
    have hs8 := (hs7.stored (i * 14 + 8) (.int .u64 s0)).1
    have hs9 := (hs8.stored (i * 14 + 9) (.int .u64 s1)).1
    have hs10 := (hs9.stored (i * 14 + 10) (.int .u64 s2)).1
    have hs11 := (hs10.stored (i * 14 + 11) (.int .u64 s3)).1
    have hs12 := (hs11.stored (i * 14 + 12) (.slice a1 ix.length k1)).1
    have hs13 := (hs12.stored (i * 14 + 13) (.slice a2 er.length k2)).1
    have hBw := bt hB1 hb2
    have hgl' : X.heap.size ≤ g := by omega
    have hr14 := row_base hs13 hB1.size
    obtain ⟨B', vv', p1, p2⟩ := hend.out hil _ _ (by repeat (first | (with_reducible exact hBw) | (with_reducible refine bs ?_ hgl' _))) hr14
    go_ret
    exact .inl ⟨hil, rfl, B', vv', p1, p2⟩
  · have hil' : (M.length : Int) ≤ (i : Int) := by omega
    go_enter Try.func25, Try.ntmps25
    go_upto_region 3 with (go_at_call 46; refine (hM.out _ (by (repeat (first | (with_reducible exact Below.refl _ _) | (with_reducible assumption) | (with_reducible apply bd) | (with_reducible apply ba) | (with_reducible refine bp ?_ (by first | omega | (simp [pad_size]; done) | (simp [pad_size]; omega)) _ _) | (with_reducible refine bs ?_ (by first | omega | (simp [pad_size]; done) | (simp [pad_size]; omega)) _) | (with_reducible refine bt ?_ (by assumption)))))).mono ?_; rintro e w1 ⟨rfl, hb1⟩; have hB1 : Below X.heap.size X w1 := bt (by (repeat (first | (with_reducible exact Below.refl _ _) | (with_reducible assumption) | (with_reducible apply bd) | (with_reducible apply ba) | (with_reducible refine bp ?_ (by first | omega | (simp [pad_size]; done) | (simp [pad_size]; omega)) _ _) | (with_reducible refine bs ?_ (by first | omega | (simp [pad_size]; done) | (simp [pad_size]; omega)) _) | (with_reducible refine bt ?_ (by assumption))))) hb1; obtain ⟨e1, f1⟩ := cells_of_block (hblk.out w1 hB1); have q1 := (hb1.block X.heap.size (by simp)).trans hA0; obtain ⟨g1, y1⟩ := cells_of_block q1)
    go_quiet (fail)
    have hdn : Below w1.heap.size w1 (w1.drewN nq) := bdn _ nq
    go_wp2
    go_ret
    exact .inr ⟨by omega, rfl, bt hB1 hdn⟩
end
end Go.Proofs.Ytafcianpajheiaa

/- The reference's Zero. -/
namespace Go.Proofs.Ytafcianpajheiaa
open Go.RowKit

set_option maxHeartbeats 1000000 in
theorem zero11_any (x0 x1 x2 x3 : Int) (w : World) :
    Calls Try.prog 21 #[.agg #[.int .u64 x0, .int .u64 x1, .int .u64 x2, .int .u64 x3]] w fun e w' => e = .returned (.bool (eq4 x0 x1 x2 x3 0 0 0 0)) ∧ Below w.heap.size w w' := by
  rcases Bool.eq_false_or_eq_true (x0 == 0) with e0 | e0
  · rcases Bool.eq_false_or_eq_true (x1 == 0) with e1 | e1
    · rcases Bool.eq_false_or_eq_true (x2 == 0) with e2 | e2
      · go_enter Try.func21, Try.ntmps21
        go_wp2
        go_ret
        exact ⟨ret_bool (by simp [eq4, e0, e1, e2]), by (repeat (first | (with_reducible exact Below.refl _ _) | (with_reducible assumption) | (with_reducible apply bd) | (with_reducible apply ba) | (with_reducible refine bp ?_ (by first | omega | (simp [pad_size]; done) | (simp [pad_size]; omega)) _ _) | (with_reducible refine bs ?_ (by first | omega | (simp [pad_size]; done) | (simp [pad_size]; omega)) _) | (with_reducible refine bt ?_ (by assumption))))⟩
      · go_enter Try.func21, Try.ntmps21
        go_wp2
        go_ret
        exact ⟨ret_bool (by simp [eq4, e0, e1, e2]), by (repeat (first | (with_reducible exact Below.refl _ _) | (with_reducible assumption) | (with_reducible apply bd) | (with_reducible apply ba) | (with_reducible refine bp ?_ (by first | omega | (simp [pad_size]; done) | (simp [pad_size]; omega)) _ _) | (with_reducible refine bs ?_ (by first | omega | (simp [pad_size]; done) | (simp [pad_size]; omega)) _) | (with_reducible refine bt ?_ (by assumption))))⟩
    · go_enter Try.func21, Try.ntmps21
      go_wp2
      go_ret
      exact ⟨ret_bool (by simp [eq4, e0, e1]), by (repeat (first | (with_reducible exact Below.refl _ _) | (with_reducible assumption) | (with_reducible apply bd) | (with_reducible apply ba) | (with_reducible refine bp ?_ (by first | omega | (simp [pad_size]; done) | (simp [pad_size]; omega)) _ _) | (with_reducible refine bs ?_ (by first | omega | (simp [pad_size]; done) | (simp [pad_size]; omega)) _) | (with_reducible refine bt ?_ (by assumption))))⟩
  · go_enter Try.func21, Try.ntmps21
    go_wp2
    go_ret
    exact ⟨ret_bool (by simp [eq4, e0]), by (repeat (first | (with_reducible exact Below.refl _ _) | (with_reducible assumption) | (with_reducible apply bd) | (with_reducible apply ba) | (with_reducible refine bp ?_ (by first | omega | (simp [pad_size]; done) | (simp [pad_size]; omega)) _ _) | (with_reducible refine bs ?_ (by first | omega | (simp [pad_size]; done) | (simp [pad_size]; omega)) _) | (with_reducible refine bt ?_ (by assumption))))⟩
end Go.Proofs.Ytafcianpajheiaa

/- pool: the reference's Set. -/
namespace Go.Proofs.Ytafcianpajheiaa
open Go.RowKit

section
variable {X : World} {m lo base : Nat} {B : Nat → Prop} {c0 c1 c2 c3 c6 c7 vv vd : Value} {M : List Vx} {N : List Dx}
set_option maxHeartbeats 4000000 in
theorem setD11_bad {x : Dg} {a1 : Option Addr} {k1 : Nat} (hx : DIn x) (hI : IsCL X (.slice a1 x.ix.length k1) x.ix) (p : Addr) (hm : 200 ≤ x.ow ∨ rightFrom 0 x.ix = false) :
    Calls Try.prog 26 #[.pointer (some p), .agg #[.int .u8 (x.ow : Nat), .int .u8 (x.va : Nat), .int .u64 x.s0, .int .u64 x.s1, .int .u64 x.s2, .int .u64 x.s3, .slice a1 x.ix.length k1]] X fun e w' => e = .returned (.int .i64 1) ∧ Below X.heap.size X w' := by
  have hM := fun Y (hX : Below X.heap.size X Y) => rightRCL_any Y (hI.below hX) hx.iw
  generalize rightFrom 0 x.ix = mb at *
  obtain ⟨ow, va, s0, s1, s2, s3, ix⟩ := x
  simp only at hM hm ⊢
  have hM : Hid _ := hM
  clear hx hI
  by_cases h2 : 200 ≤ ow
  · have h2' : (200 : Int) ≤ (ow : Int) := by omega
    clear hM hm
    go_enter Try.func26, Try.ntmps26
    go_wp2
    go_ret
    exact ⟨rfl, by (repeat (first | (with_reducible exact Below.refl _ _) | (with_reducible assumption) | (with_reducible apply bd) | (with_reducible apply ba) | (with_reducible refine bp ?_ (by first | omega | (simp [pad_size]; done) | (simp [pad_size]; omega)) _ _) | (with_reducible refine bs ?_ (by first | omega | (simp [pad_size]; done) | (simp [pad_size]; omega)) _) | (with_reducible refine bt ?_ (by assumption))))⟩
  · have h2' : ¬ (200 : Int) ≤ (ow : Int) := by omega
    obtain rfl : mb = false := by
      rcases hm with h | h
      · exact absurd h h2
      · exact h
    clear hm
    go_enter Try.func26, Try.ntmps26
    go_wp2_with (go_at_call 47; refine (hM.out _ (by (repeat (first | (with_reducible exact Below.refl _ _) | (with_reducible assumption) | (with_reducible apply bd) | (with_reducible apply ba) | (with_reducible refine bp ?_ (by first | omega | (simp [pad_size]; done) | (simp [pad_size]; omega)) _ _) | (with_reducible refine bs ?_ (by first | omega | (simp [pad_size]; done) | (simp [pad_size]; omega)) _) | (with_reducible refine bt ?_ (by assumption)))))).mono ?_; rintro e w1 ⟨rfl, hb1⟩)
    go_ret
    exact ⟨rfl, bt (by (repeat (first | (with_reducible exact Below.refl _ _) | (with_reducible assumption) | (with_reducible apply bd) | (with_reducible apply ba) | (with_reducible refine bp ?_ (by first | omega | (simp [pad_size]; done) | (simp [pad_size]; omega)) _ _) | (with_reducible refine bs ?_ (by first | omega | (simp [pad_size]; done) | (simp [pad_size]; omega)) _) | (with_reducible refine bt ?_ (by assumption))))) hb1⟩
set_option maxHeartbeats 4000000 in
theorem setD11_none (h : RSt X m lo base B c0 c1 c2 c3 c6 c7 vv vd M N) {x : Dg} {a1 : Option Addr} {k1 : Nat} (hl : M.length ≤ 16) (hx : DIn x) (hm : x.ow < 200) (hr : rightFrom 0 x.ix = true) (hI : IsCoins X (.slice a1 x.ix.length k1) x.ix) (hv : M.length ≤ x.va) :
    Calls Try.prog 26 #[.pointer (some ⟨m, 0, none⟩), .agg #[.int .u8 (x.ow : Nat), .int .u8 (x.va : Nat), .int .u64 x.s0, .int .u64 x.s1, .int .u64 x.s2, .int .u64 x.s3, .slice a1 x.ix.length k1]] X fun e w' => e = .returned (.int .i64 5) ∧ Below X.heap.size X w' := by
  have hM := fun Y (hX : Below X.heap.size X Y) => rightR_any Y (hI.below hX) hx.iw
  rw [hr] at hM
  have hva := hx.va
  obtain ⟨av, cv, rfl⟩ := row_slice h.rowV
  have hblk : Hid (∀ Y, Below X.heap.size X Y → Y.heap[m]? = some (.cells #[c0, c1, c2, c3, .slice av M.length cv, vd, c6, c7] 37 (0, 0))) := fun Y hY => (hY.block m h.lt).trans h.blk
  have hlt := h.lt
  obtain ⟨ow, va, s0, s1, s2, s3, ix⟩ := x
  simp only at hM hm hv hva ⊢
  have hM : Hid _ := hM
  clear hx hI h hr
  have h2' : ¬ (200 : Int) ≤ (ow : Int) := by omega
  have hv' : (M.length : Int) ≤ (va : Int) := by omega
  have hw8 : IntKind.i64.wrap (va : Int) = (va : Int) := by rw [IntKind.wrap_i64]; omega
  have hA0 : (X.alloc (.cells #[.int .u8 (ow : Nat), .int .u8 (va : Nat), .int .u64 s0, .int .u64 s1, .int .u64 s2, .int .u64 s3, .slice a1 ix.length k1] 45)).heap[X.heap.size]? = some (.cells #[.int .u8 (ow : Nat), .int .u8 (va : Nat), .int .u64 s0, .int .u64 s1, .int .u64 s2, .int .u64 s3, .slice a1 ix.length k1] 45 (0, 0)) := al_at rfl
  go_enter Try.func26, Try.ntmps26
  go_upto_region 3 with (go_at_call 47; refine (hM.out _ (by (repeat (first | (with_reducible exact Below.refl _ _) | (with_reducible assumption) | (with_reducible apply bd) | (with_reducible apply ba) | (with_reducible refine bp ?_ (by first | omega | (simp [pad_size]; done) | (simp [pad_size]; omega)) _ _) | (with_reducible refine bs ?_ (by first | omega | (simp [pad_size]; done) | (simp [pad_size]; omega)) _) | (with_reducible refine bt ?_ (by assumption)))))).mono ?_; rintro e w1 ⟨rfl, hb1⟩; have hB1 : Below X.heap.size X w1 := bt (by (repeat (first | (with_reducible exact Below.refl _ _) | (with_reducible assumption) | (with_reducible apply bd) | (with_reducible apply ba) | (with_reducible refine bp ?_ (by first | omega | (simp [pad_size]; done) | (simp [pad_size]; omega)) _ _) | (with_reducible refine bs ?_ (by first | omega | (simp [pad_size]; done) | (simp [pad_size]; omega)) _) | (with_reducible refine bt ?_ (by assumption))))) hb1; have q1 := (hb1.block X.heap.size (by simp)).trans hA0; obtain ⟨g1, y1⟩ := cells_of_block q1; obtain ⟨e1, f1⟩ := cells_of_block (hblk.out w1 hB1))
  go_quiet (fail)
  have hdn : Below w1.heap.size w1 (w1.drewN nq) := bdn _ nq
  go_wp2
  go_ret
  exact ⟨rfl, bt hB1 hdn⟩
set_option maxRecDepth 20000 in
set_option maxHeartbeats 16000000 in
theorem setD11_any (h : RSt X m lo base B c0 c1 c2 c3 c6 c7 vv vd M N) {x : Dg} {a1 : Option Addr} {k1 : Nat} (hl : M.length ≤ 16) (hn : N.length ≤ 900) (hx : DIn x) (hm : x.ow < 200) (hr : rightFrom 0 x.ix = true) (hI : DxLo X lo ⟨x, a1, k1⟩) (hv : x.va < M.length) :
    Calls Try.prog 26 #[.pointer (some ⟨m, 0, none⟩), .agg #[.int .u8 (x.ow : Nat), .int .u8 (x.va : Nat), .int .u64 x.s0, .int .u64 x.s1, .int .u64 x.s2, .int .u64 x.s3, .slice a1 x.ix.length k1]] X fun e w' => e = .returned (.int .i64 0) ∧ ∃ B' vd', RSt w' m lo base B' c0 c1 c2 c3 c6 c7 vv vd' M (setGo (fun y => y.d) ⟨x, a1, k1⟩ (eq4 x.s0 x.s1 x.s2 x.s3 0 0 0 0) N) ∧ Fr X w' B B' := by
  have hM := fun Y (hX : Below X.heap.size X Y) => rightR_any Y (hI.c1.below hX) hx.iw
  simp only at hM
  rw [hr] at hM
  have hva := hx.va
  have hend : Hid (∀ (Y : World) (v' : Value) (N' : List Dx), Below X.heap.size X Y → N' = setGo (fun y => y.d) ⟨x, a1, k1⟩ (eq4 x.s0 x.s1 x.s2 x.s3 0 0 0 0) N → Y.ownsRow X.heap.size 45 7 v' N'.length (N'.flatMap dxC) → ∃ B' vd', RSt (Y.setCell ⟨m, 5, none⟩ v') m lo base B' c0 c1 c2 c3 c6 c7 vv vd' M (setGo (fun y => y.d) ⟨x, a1, k1⟩ (eq4 x.s0 x.s1 x.s2 x.s3 0 0 0 0) N) ∧ Fr X (Y.setCell ⟨m, 5, none⟩ v') B B') := fun Y v' N' hY e hr => by
    subst e
    obtain ⟨B', q1, q2⟩ := h.setDl hY hr (fun y hy => by
      rcases setGo_mem hy with rfl | hy
      · exact hI
      · exact h.cd y hy)
    exact ⟨B', v', q1, q2⟩
  obtain ⟨av, cv, rfl⟩ := row_slice h.rowV
  obtain ⟨ad, cd, rfl⟩ := row_slice h.rowD
  have hrow : Hid (∀ Y, Below X.heap.size X Y → Y.ownsRow base 45 7 (.slice ad N.length cd) N.length (N.flatMap dxC)) := fun Y hY => own_below h.rowD hY
  have hblk : Hid (∀ Y, Below X.heap.size X Y → Y.heap[m]? = some (.cells #[c0, c1, c2, c3, .slice av M.length cv, .slice ad N.length cd, c6, c7] 37 (0, 0))) := fun Y hY => (hY.block m h.lt).trans h.blk
  have hlt := h.lt
  have hz0 := fun Y => zero11_any x.s0 x.s1 x.s2 x.s3 Y
  obtain ⟨D0, hD0⟩ : ∃ D0, eq4 x.s0 x.s1 x.s2 x.s3 0 0 0 0 = D0 := ⟨_, rfl⟩
  rw [hD0] at hz0 hend ⊢
  clear hD0
  obtain ⟨ow, va, s0, s1, s2, s3, ix⟩ := x
  simp only at hM hm hv hva hend hz0 ⊢
  have hM : Hid _ := hM
  have hz0 : Hid _ := hz0
  clear hx hI h hr
  have h2' : ¬ (200 : Int) ≤ (ow : Int) := by omega
  have hv' : ¬ (M.length : Int) ≤ (va : Int) := by omega
  have hw8 : IntKind.i64.wrap (va : Int) = (va : Int) := by rw [IntKind.wrap_i64]; omega
  have hA0 : (X.alloc (.cells #[.int .u8 (ow : Nat), .int .u8 (va : Nat), .int .u64 s0, .int .u64 s1, .int .u64 s2, .int .u64 s3, .slice a1 ix.length k1] 45)).heap[X.heap.size]? = some (.cells #[.int .u8 (ow : Nat), .int .u8 (va : Nat), .int .u64 s0, .int .u64 s1, .int .u64 s2, .int .u64 s3, .slice a1 ix.length k1] 45 (0, 0)) := al_at rfl
  have hne : ¬ X.heap.size = m := by omega
  have hne2 : ¬ m = X.heap.size := by omega
  go_enter Try.func26, Try.ntmps26
  go_upto_region 3 with (go_at_call 47; refine (hM.out _ (by (repeat (first | (with_reducible exact Below.refl _ _) | (with_reducible assumption) | (with_reducible apply bd) | (with_reducible apply ba) | (with_reducible refine bp ?_ (by first | omega | (simp [pad_size]; done) | (simp [pad_size]; omega)) _ _) | (with_reducible refine bs ?_ (by first | omega | (simp [pad_size]; done) | (simp [pad_size]; omega)) _) | (with_reducible refine bt ?_ (by assumption)))))).mono ?_; rintro e w1 ⟨rfl, hb1⟩; have hB1 : Below X.heap.size X w1 := bt (by (repeat (first | (with_reducible exact Below.refl _ _) | (with_reducible assumption) | (with_reducible apply bd) | (with_reducible apply ba) | (with_reducible refine bp ?_ (by first | omega | (simp [pad_size]; done) | (simp [pad_size]; omega)) _ _) | (with_reducible refine bs ?_ (by first | omega | (simp [pad_size]; done) | (simp [pad_size]; omega)) _) | (with_reducible refine bt ?_ (by assumption))))) hb1; have q1 := (hb1.block X.heap.size (by simp)).trans hA0; obtain ⟨g1, y1⟩ := cells_of_block q1; obtain ⟨e1, f1⟩ := cells_of_block (hblk.out w1 hB1))
  go_quiet (fail)
  have hdn : Below w1.heap.size w1 (w1.drewN nq) := bdn _ nq
  go_wp2_with (go_at_call 21; refine (hz0.out _).mono ?_; rintro e w2 ⟨rfl, hb2⟩; have hb12 : Below w1.heap.size w1 w2 := bt hdn hb2)
  have hB2 := bt hB1 hb12
  have hq : Hid (∀ Y, Below w2.heap.size w2 Y → Y.heap[X.heap.size]? = some (.cells #[.int .u8 (ow : Nat), .int .u8 (va : Nat), .int .u64 s0, .int .u64 s1, .int .u64 s2, .int .u64 s3, .slice a1 ix.length k1] 45 (0, 0))) := fun Y hY => ((bt hb12 hY).block X.heap.size (Array.getElem?_eq_some_iff.1 q1).1).trans q1
  have hmb : Hid (∀ Y, Below w2.heap.size w2 Y → Y.heap[m]? = some (.cells #[c0, c1, c2, c3, .slice av M.length cv, .slice ad N.length cd, c6, c7] 37 (0, 0))) := fun Y hY => hblk.out Y (bt hB2 hY)
  have hs2 : X.heap.size < w2.heap.size := Nat.lt_of_lt_of_le (Array.getElem?_eq_some_iff.1 q1).1 hb12.size
  clear q1 g1 y1 e1 f1 hb1 hdn hA0 hM hz0 hblk
  go_loopw [5, 6, 7, 8] (fun ov dv i xv8 Y => ∃ (j : Nat) (O : List Dx) (D : Bool), j ≤ N.length ∧ i = .int .i64 (j : Int) ∧ dv = .bool D ∧ Y.ownsRow w2.heap.size 45 7 ov O.length (O.flatMap dxC) ∧ O ++ setGo (fun y => y.d) ⟨⟨ow, va, s0, s1, s2, s3, ix⟩, a1, k1⟩ D (N.drop j) = setGo (fun y => y.d) ⟨⟨ow, va, s0, s1, s2, s3, ix⟩, a1, k1⟩ D0 N ∧ O.length ≤ j + 1 ∧ (D = D0 → O.length ≤ j) ∧ (D0 = true → D = true) ∧ Below w2.heap.size w2 Y) (fun _ _ i _ _ => N.length - (intOf i).toNat)
  case atStart => exact ⟨0, [], D0, by omega, rfl, rfl, World.ownsRow_nil _ _ _ _, by simp, by simp, by simp, fun e => e, Below.refl _ _⟩
  case round =>
    obtain ⟨j, O, D, hj, rfl, rfl, hrow5, hO, hOl, hOl2, hDD, hX⟩ := hrel
    obtain ⟨ao, co, rfl⟩ := row_slice hrow5
    obtain ⟨em, fm⟩ := cells_of_block (hmb.out wr hX)
    have qd := hq.out wr hX
    obtain ⟨ed, fd⟩ := cells_of_block qd
    have zw := hX.size
    have zd : X.heap.size < wr.heap.size := by omega
    have zd2 : ¬ X.heap.size = wr.heap.size := by omega
    have zm : m < wr.heap.size := by omega
    have hlo : Hid (∀ n, Value.ownBlock (.slice ao O.length co) = some n → n < wr.heap.size) := fun n hn => (hrow5.lt n hn).2
    have hO0 : Hid (O ++ _ = _) := hO
    clear hO
    have hol : O.length ≤ 901 := by omega
    by_cases hlt2 : j < N.length
    · have hlt' : (j : Int) < (N.length : Int) := by omega
      obtain ⟨g, cap, ev, hgl, hgb, hcell⟩ := row_at dxC_len (hrow.out wr (bt hB2 hX)) hlt2
      simp at ev
      obtain ⟨rfl, rfl⟩ := ev
      have d0 := hcell 0 (by decide)
      have d1 := hcell 1 (by decide)
      have d2 := hcell 2 (by decide)
      have d3 := hcell 3 (by decide)
      have d4 := hcell 4 (by decide)
      have d5 := hcell 5 (by decide)
      have d6 := hcell 6 (by decide)
      clear hcell
      have hO1 := hO0.out
      rw [List.drop_eq_getElem_cons hlt2, setGo] at hO1
      generalize N[j] = y at *
      obtain ⟨⟨xo, xv, y0, y1, y2, y3, jx⟩, b1, l1⟩ := y
      simp [dxC] at d0 d1 d2 d3 d4 d5 d6
      simp only at hO1
      have hO1 : Hid _ := hO1
      clear hO0
      rcases (show (D = false ∧ ow < xo) ∨ (D = false ∧ ow = xo ∧ va < xv) ∨ (ow = xo ∧ va = xv) ∨ (D = false ∧ ow = xo ∧ xv < va) ∨ (D = false ∧ xo < ow) ∨ (D = true ∧ ¬ ow = xo) ∨ (D = true ∧ ow = xo ∧ ¬ va = xv) by cases D <;> simp <;> omega) with ⟨rfl, h1⟩ | ⟨rfl, h1, h3⟩ | ⟨h1, h3⟩ | ⟨rfl, h1, h3⟩ | ⟨rfl, h1⟩ | ⟨rfl, h1⟩ | ⟨rfl, h1, h3⟩
      · have h1' : (ow : Int) < (xo : Int) := by omega
        have n1 : ¬ (xo : Int) = (ow : Int) := by omega
        have n2 : ¬ xo = ow := by omega
        go_wp2_with (first
          | (at_builtin; refine dx_app (W := w2) (M := O) ⟨⟨ow, va, s0, s1, s2, s3, ix⟩, a1, k1⟩ (own_below hrow5 (by (repeat (first | (with_reducible exact Below.refl _ _) | (with_reducible assumption) | (with_reducible apply bd) | (with_reducible apply ba) | (with_reducible refine bp ?_ (by first | omega | (simp [pad_size]; done) | (simp [pad_size]; omega)) _ _) | (with_reducible refine bs ?_ (by first | omega | (simp [pad_size]; done) | (simp [pad_size]; omega)) _) | (with_reducible refine bt ?_ (by assumption)))))) (bt hX (by (repeat (first | (with_reducible exact Below.refl _ _) | (with_reducible assumption) | (with_reducible apply bd) | (with_reducible apply ba) | (with_reducible refine bp ?_ (by first | omega | (simp [pad_size]; done) | (simp [pad_size]; omega)) _ _) | (with_reducible refine bs ?_ (by first | omega | (simp [pad_size]; done) | (simp [pad_size]; omega)) _) | (with_reducible refine bt ?_ (by assumption)))))) (by omega) rfl _ _ rfl rfl rfl (al_at (by simp)) ?_; intro v4 w4 hr4 hb4 hg4; obtain ⟨O4, hO4⟩ : ∃ O4, O ++ [⟨⟨ow, va, s0, s1, s2, s3, ix⟩, a1, k1⟩] = O4 := ⟨_, rfl⟩; rw [hO4] at hr4; have hl4 : O4.length ≤ 902 := (by rw [← hO4]; simp; omega); replace hO4 : Hid _ := hO4; have q4 := (hg4.block wr.heap.size (by simp; omega) (fun e => absurd (hlo.out _ e.symm) (by omega))).trans ((al_old (by simp)).trans (al_at rfl) : _ = some (.cells #[.int .u8 (xo : Nat), .int .u8 (xv : Nat), .int .u64 y0, .int .u64 y1, .int .u64 y2, .int .u64 y3, .slice b1 jx.length l1] 45 (0, 0))); obtain ⟨e4, f4⟩ := cells_of_block q4; obtain ⟨ed4, fd4⟩ := cells_of_block (hq.out w4 hb4); obtain ⟨a4, l4, rfl⟩ := row_slice hr4)
          | (at_builtin; refine dx_app (W := w2) (M := O4) ⟨⟨xo, xv, y0, y1, y2, y3, jx⟩, b1, l1⟩ (own_below hr4 (by (repeat (first | (with_reducible exact Below.refl _ _) | (with_reducible assumption) | (with_reducible apply bd) | (with_reducible apply ba) | (with_reducible refine bp ?_ (by first | omega | (simp [pad_size]; done) | (simp [pad_size]; omega)) _ _) | (with_reducible refine bs ?_ (by first | omega | (simp [pad_size]; done) | (simp [pad_size]; omega)) _) | (with_reducible refine bt ?_ (by assumption)))))) (bt hb4 (by (repeat (first | (with_reducible exact Below.refl _ _) | (with_reducible assumption) | (with_reducible apply bd) | (with_reducible apply ba) | (with_reducible refine bp ?_ (by first | omega | (simp [pad_size]; done) | (simp [pad_size]; omega)) _ _) | (with_reducible refine bs ?_ (by first | omega | (simp [pad_size]; done) | (simp [pad_size]; omega)) _) | (with_reducible refine bt ?_ (by assumption)))))) (by omega) rfl _ _ rfl rfl rfl (al_at (by simp)) ?_; intro v5 w5 hr5 hb5 hg5))
        all_goals go_roundw
        case rel => exact ⟨j + 1, _, true, by omega, by go_num, rfl, hr5, by rw [← hO4.out, ← hO1.out, if_pos ⟨rfl, ltK_iff.2 (.inl h1)⟩]; simp, by have h0 : D0 = false := (by cases D0; rfl; exact absurd (hDD rfl) (by simp)); have := hOl2 h0.symm; rw [← hO4.out]; simp; omega, fun e => (by have h0 : D0 = false := (by cases D0; rfl; exact absurd (hDD rfl) (by simp)); rw [h0] at e; cases e), fun _ => rfl, hb5⟩
        case measure => (simp [intOf] <;> omega)
      · subst h1
        have h3' : (va : Int) < (xv : Int) := by omega
        have n1 : ¬ (xv : Int) = (va : Int) := by omega
        have n2 : ¬ xv = va := by omega
        go_wp2_with (first
          | (at_builtin; refine dx_app (W := w2) (M := O) ⟨⟨ow, va, s0, s1, s2, s3, ix⟩, a1, k1⟩ (own_below hrow5 (by (repeat (first | (with_reducible exact Below.refl _ _) | (with_reducible assumption) | (with_reducible apply bd) | (with_reducible apply ba) | (with_reducible refine bp ?_ (by first | omega | (simp [pad_size]; done) | (simp [pad_size]; omega)) _ _) | (with_reducible refine bs ?_ (by first | omega | (simp [pad_size]; done) | (simp [pad_size]; omega)) _) | (with_reducible refine bt ?_ (by assumption)))))) (bt hX (by (repeat (first | (with_reducible exact Below.refl _ _) | (with_reducible assumption) | (with_reducible apply bd) | (with_reducible apply ba) | (with_reducible refine bp ?_ (by first | omega | (simp [pad_size]; done) | (simp [pad_size]; omega)) _ _) | (with_reducible refine bs ?_ (by first | omega | (simp [pad_size]; done) | (simp [pad_size]; omega)) _) | (with_reducible refine bt ?_ (by assumption)))))) (by omega) rfl _ _ rfl rfl rfl (al_at (by simp)) ?_; intro v4 w4 hr4 hb4 hg4; obtain ⟨O4, hO4⟩ : ∃ O4, O ++ [⟨⟨ow, va, s0, s1, s2, s3, ix⟩, a1, k1⟩] = O4 := ⟨_, rfl⟩; rw [hO4] at hr4; have hl4 : O4.length ≤ 902 := (by rw [← hO4]; simp; omega); replace hO4 : Hid _ := hO4; have q4 := (hg4.block wr.heap.size (by simp; omega) (fun e => absurd (hlo.out _ e.symm) (by omega))).trans ((al_old (by simp)).trans (al_at rfl) : _ = some (.cells #[.int .u8 (ow : Nat), .int .u8 (xv : Nat), .int .u64 y0, .int .u64 y1, .int .u64 y2, .int .u64 y3, .slice b1 jx.length l1] 45 (0, 0))); obtain ⟨e4, f4⟩ := cells_of_block q4; obtain ⟨ed4, fd4⟩ := cells_of_block (hq.out w4 hb4); obtain ⟨a4, l4, rfl⟩ := row_slice hr4)
          | (at_builtin; refine dx_app (W := w2) (M := O4) ⟨⟨ow, xv, y0, y1, y2, y3, jx⟩, b1, l1⟩ (own_below hr4 (by (repeat (first | (with_reducible exact Below.refl _ _) | (with_reducible assumption) | (with_reducible apply bd) | (with_reducible apply ba) | (with_reducible refine bp ?_ (by first | omega | (simp [pad_size]; done) | (simp [pad_size]; omega)) _ _) | (with_reducible refine bs ?_ (by first | omega | (simp [pad_size]; done) | (simp [pad_size]; omega)) _) | (with_reducible refine bt ?_ (by assumption)))))) (bt hb4 (by (repeat (first | (with_reducible exact Below.refl _ _) | (with_reducible assumption) | (with_reducible apply bd) | (with_reducible apply ba) | (with_reducible refine bp ?_ (by first | omega | (simp [pad_size]; done) | (simp [pad_size]; omega)) _ _) | (with_reducible refine bs ?_ (by first | omega | (simp [pad_size]; done) | (simp [pad_size]; omega)) _) | (with_reducible refine bt ?_ (by assumption)))))) (by omega) rfl _ _ rfl rfl rfl (al_at (by simp)) ?_; intro v5 w5 hr5 hb5 hg5))
        all_goals go_roundw
        case rel => exact ⟨j + 1, _, true, by omega, by go_num, rfl, hr5, by rw [← hO4.out, ← hO1.out, if_pos ⟨rfl, ltK_iff.2 (.inr ⟨rfl, h3⟩)⟩]; simp, by have h0 : D0 = false := (by cases D0; rfl; exact absurd (hDD rfl) (by simp)); have := hOl2 h0.symm; rw [← hO4.out]; simp; omega, fun e => (by have h0 : D0 = false := (by cases D0; rfl; exact absurd (hDD rfl) (by simp)); rw [h0] at e; cases e), fun _ => rfl, hb5⟩
        case measure => (simp [intOf] <;> omega)
      · subst h1
        subst h3
        have hlt0 : ltK ow va ow va = false := by simp [ltK]
        cases D
        · go_wp2
          all_goals go_roundw
          case rel => exact ⟨j + 1, O, false, by omega, by go_num, rfl, own_below hrow5 (by (repeat (first | (with_reducible exact Below.refl _ _) | (with_reducible assumption) | (with_reducible apply bd) | (with_reducible apply ba) | (with_reducible refine bp ?_ (by first | omega | (simp [pad_size]; done) | (simp [pad_size]; omega)) _ _) | (with_reducible refine bs ?_ (by first | omega | (simp [pad_size]; done) | (simp [pad_size]; omega)) _) | (with_reducible refine bt ?_ (by assumption))))), by rw [← hO1.out, if_neg (by simp [hlt0]), if_pos ⟨rfl, rfl⟩], by omega, fun e => by have := hOl2 e; omega, hDD, bt hX (by (repeat (first | (with_reducible exact Below.refl _ _) | (with_reducible assumption) | (with_reducible apply bd) | (with_reducible apply ba) | (with_reducible refine bp ?_ (by first | omega | (simp [pad_size]; done) | (simp [pad_size]; omega)) _ _) | (with_reducible refine bs ?_ (by first | omega | (simp [pad_size]; done) | (simp [pad_size]; omega)) _) | (with_reducible refine bt ?_ (by assumption)))))⟩
          case measure => (simp [intOf] <;> omega)
        · go_wp2
          all_goals go_roundw
          case rel => exact ⟨j + 1, O, true, by omega, by go_num, rfl, own_below hrow5 (by (repeat (first | (with_reducible exact Below.refl _ _) | (with_reducible assumption) | (with_reducible apply bd) | (with_reducible apply ba) | (with_reducible refine bp ?_ (by first | omega | (simp [pad_size]; done) | (simp [pad_size]; omega)) _ _) | (with_reducible refine bs ?_ (by first | omega | (simp [pad_size]; done) | (simp [pad_size]; omega)) _) | (with_reducible refine bt ?_ (by assumption))))), by rw [← hO1.out, if_neg (by simp), if_pos ⟨rfl, rfl⟩], by omega, fun e => by have := hOl2 e; omega, hDD, bt hX (by (repeat (first | (with_reducible exact Below.refl _ _) | (with_reducible assumption) | (with_reducible apply bd) | (with_reducible apply ba) | (with_reducible refine bp ?_ (by first | omega | (simp [pad_size]; done) | (simp [pad_size]; omega)) _ _) | (with_reducible refine bs ?_ (by first | omega | (simp [pad_size]; done) | (simp [pad_size]; omega)) _) | (with_reducible refine bt ?_ (by assumption)))))⟩
          case measure => (simp [intOf] <;> omega)
      · subst h1
        have h3' : ¬ (va : Int) < (xv : Int) := by omega
        have n1 : ¬ (xv : Int) = (va : Int) := by omega
        have n2 : ¬ xv = va := by omega
        have n3 : ¬ va < xv := by omega
        have hlt0 : ltK ow va ow xv = false := by simp [ltK]; omega
        go_wp2_with (at_builtin; refine dx_app (W := w2) (M := O) ⟨⟨ow, xv, y0, y1, y2, y3, jx⟩, b1, l1⟩ (own_below hrow5 (by (repeat (first | (with_reducible exact Below.refl _ _) | (with_reducible assumption) | (with_reducible apply bd) | (with_reducible apply ba) | (with_reducible refine bp ?_ (by first | omega | (simp [pad_size]; done) | (simp [pad_size]; omega)) _ _) | (with_reducible refine bs ?_ (by first | omega | (simp [pad_size]; done) | (simp [pad_size]; omega)) _) | (with_reducible refine bt ?_ (by assumption)))))) (bt hX (by (repeat (first | (with_reducible exact Below.refl _ _) | (with_reducible assumption) | (with_reducible apply bd) | (with_reducible apply ba) | (with_reducible refine bp ?_ (by first | omega | (simp [pad_size]; done) | (simp [pad_size]; omega)) _ _) | (with_reducible refine bs ?_ (by first | omega | (simp [pad_size]; done) | (simp [pad_size]; omega)) _) | (with_reducible refine bt ?_ (by assumption)))))) (by omega) rfl _ _ rfl rfl rfl (al_at (by simp)) ?_; intro v5 w5 hr5 hb5 hg5)
        all_goals go_roundw
        case rel => exact ⟨j + 1, _, false, by omega, by go_num, rfl, hr5, by rw [← hO1.out, if_neg (by simp [hlt0]), if_neg (by omega)]; simp, by simp; omega, fun e => by have := hOl2 e; simp; omega, hDD, hb5⟩
        case measure => (simp [intOf] <;> omega)
      · have h1' : ¬ (ow : Int) < (xo : Int) := by omega
        have h1'' : ¬ (ow : Int) = (xo : Int) := by omega
        have n1 : ¬ (xo : Int) = (ow : Int) := by omega
        have n2 : ¬ xo = ow := by omega
        have n3 : ¬ ow < xo := by omega
        have n4 : ¬ ow = xo := by omega
        have hlt0 : ltK ow va xo xv = false := by simp [ltK]; omega
        go_wp2_with (at_builtin; refine dx_app (W := w2) (M := O) ⟨⟨xo, xv, y0, y1, y2, y3, jx⟩, b1, l1⟩ (own_below hrow5 (by (repeat (first | (with_reducible exact Below.refl _ _) | (with_reducible assumption) | (with_reducible apply bd) | (with_reducible apply ba) | (with_reducible refine bp ?_ (by first | omega | (simp [pad_size]; done) | (simp [pad_size]; omega)) _ _) | (with_reducible refine bs ?_ (by first | omega | (simp [pad_size]; done) | (simp [pad_size]; omega)) _) | (with_reducible refine bt ?_ (by assumption)))))) (bt hX (by (repeat (first | (with_reducible exact Below.refl _ _) | (with_reducible assumption) | (with_reducible apply bd) | (with_reducible apply ba) | (with_reducible refine bp ?_ (by first | omega | (simp [pad_size]; done) | (simp [pad_size]; omega)) _ _) | (with_reducible refine bs ?_ (by first | omega | (simp [pad_size]; done) | (simp [pad_size]; omega)) _) | (with_reducible refine bt ?_ (by assumption)))))) (by omega) rfl _ _ rfl rfl rfl (al_at (by simp)) ?_; intro v5 w5 hr5 hb5 hg5)
        all_goals go_roundw
        case rel => exact ⟨j + 1, _, false, by omega, by go_num, rfl, hr5, by rw [← hO1.out, if_neg (by simp [hlt0]), if_neg (by omega)]; simp, by simp; omega, fun e => by have := hOl2 e; simp; omega, hDD, hb5⟩
        case measure => (simp [intOf] <;> omega)
      · have n1 : ¬ (xo : Int) = (ow : Int) := by omega
        have n2 : ¬ xo = ow := by omega
        go_wp2_with (at_builtin; refine dx_app (W := w2) (M := O) ⟨⟨xo, xv, y0, y1, y2, y3, jx⟩, b1, l1⟩ (own_below hrow5 (by (repeat (first | (with_reducible exact Below.refl _ _) | (with_reducible assumption) | (with_reducible apply bd) | (with_reducible apply ba) | (with_reducible refine bp ?_ (by first | omega | (simp [pad_size]; done) | (simp [pad_size]; omega)) _ _) | (with_reducible refine bs ?_ (by first | omega | (simp [pad_size]; done) | (simp [pad_size]; omega)) _) | (with_reducible refine bt ?_ (by assumption)))))) (bt hX (by (repeat (first | (with_reducible exact Below.refl _ _) | (with_reducible assumption) | (with_reducible apply bd) | (with_reducible apply ba) | (with_reducible refine bp ?_ (by first | omega | (simp [pad_size]; done) | (simp [pad_size]; omega)) _ _) | (with_reducible refine bs ?_ (by first | omega | (simp [pad_size]; done) | (simp [pad_size]; omega)) _) | (with_reducible refine bt ?_ (by assumption)))))) (by omega) rfl _ _ rfl rfl rfl (al_at (by simp)) ?_; intro v5 w5 hr5 hb5 hg5)
        all_goals go_roundw
        case rel => exact ⟨j + 1, _, true, by omega, by go_num, rfl, hr5, by rw [← hO1.out, if_neg (by simp), if_neg (by omega)]; simp, by simp; omega, fun e => by have := hOl2 e; simp; omega, fun _ => rfl, hb5⟩
        case measure => (simp [intOf] <;> omega)
      · subst h1
        have n1 : ¬ (xv : Int) = (va : Int) := by omega
        have n2 : ¬ xv = va := by omega
        go_wp2_with (at_builtin; refine dx_app (W := w2) (M := O) ⟨⟨ow, xv, y0, y1, y2, y3, jx⟩, b1, l1⟩ (own_below hrow5 (by (repeat (first | (with_reducible exact Below.refl _ _) | (with_reducible assumption) | (with_reducible apply bd) | (with_reducible apply ba) | (with_reducible refine bp ?_ (by first | omega | (simp [pad_size]; done) | (simp [pad_size]; omega)) _ _) | (with_reducible refine bs ?_ (by first | omega | (simp [pad_size]; done) | (simp [pad_size]; omega)) _) | (with_reducible refine bt ?_ (by assumption)))))) (bt hX (by (repeat (first | (with_reducible exact Below.refl _ _) | (with_reducible assumption) | (with_reducible apply bd) | (with_reducible apply ba) | (with_reducible refine bp ?_ (by first | omega | (simp [pad_size]; done) | (simp [pad_size]; omega)) _ _) | (with_reducible refine bs ?_ (by first | omega | (simp [pad_size]; done) | (simp [pad_size]; omega)) _) | (with_reducible refine bt ?_ (by assumption)))))) (by omega) rfl _ _ rfl rfl rfl (al_at (by simp)) ?_; intro v5 w5 hr5 hb5 hg5)
        all_goals go_roundw
        case rel => exact ⟨j + 1, _, true, by omega, by go_num, rfl, hr5, by rw [← hO1.out, if_neg (by simp), if_neg (by omega)]; simp, by simp; omega, fun e => by have := hOl2 e; simp; omega, fun _ => rfl, hb5⟩
        case measure => (simp [intOf] <;> omega)
    · obtain rfl : j = N.length := by omega
      rw [List.drop_length] at hO0
      have hO1 := hO0.out
      cases D
      · have hO2 : O ++ [⟨⟨ow, va, s0, s1, s2, s3, ix⟩, a1, k1⟩] = setGo (fun y => y.d) ⟨⟨ow, va, s0, s1, s2, s3, ix⟩, a1, k1⟩ D0 N := by rw [← hO1]; rfl
        replace hO2 : Hid (_ = _) := hO2
        clear hO0 hO1
        go_wp2_with (at_builtin; refine dx_app (W := w2) (M := O) ⟨⟨ow, va, s0, s1, s2, s3, ix⟩, a1, k1⟩ (own_below hrow5 (by (repeat (first | (with_reducible exact Below.refl _ _) | (with_reducible assumption) | (with_reducible apply bd) | (with_reducible apply ba) | (with_reducible refine bp ?_ (by first | omega | (simp [pad_size]; done) | (simp [pad_size]; omega)) _ _) | (with_reducible refine bs ?_ (by first | omega | (simp [pad_size]; done) | (simp [pad_size]; omega)) _) | (with_reducible refine bt ?_ (by assumption)))))) (bt hX (by (repeat (first | (with_reducible exact Below.refl _ _) | (with_reducible assumption) | (with_reducible apply bd) | (with_reducible apply ba) | (with_reducible refine bp ?_ (by first | omega | (simp [pad_size]; done) | (simp [pad_size]; omega)) _ _) | (with_reducible refine bs ?_ (by first | omega | (simp [pad_size]; done) | (simp [pad_size]; omega)) _) | (with_reducible refine bt ?_ (by assumption)))))) (by omega) rfl _ _ rfl rfl rfl (al_at (by simp)) ?_; intro v4 w4 hr4 hb4 hg4; obtain ⟨em4, fm4⟩ := cells_of_block (hmb.out w4 hb4); obtain ⟨a4, l4, rfl⟩ := row_slice hr4)
        go_ret
        obtain ⟨B', vd', p1, p2⟩ := hend.out w4 _ _ (bt hB2 hb4) hO2.out (row_base hr4 (Nat.le_of_lt hs2))
        rw [List.length_append] at p1 p2
        exact ⟨rfl, B', vd', p1, p2⟩
      · have hO2 : O = setGo (fun y => y.d) ⟨⟨ow, va, s0, s1, s2, s3, ix⟩, a1, k1⟩ D0 N := by rw [← hO1]; simp [setGo]
        replace hO2 : Hid (_ = _) := hO2
        clear hO0 hO1
        go_wp2
        go_ret
        obtain ⟨B', vd', p1, p2⟩ := hend.out wr _ _ (bt hB2 hX) hO2.out (row_base hrow5 (Nat.le_of_lt hs2))
        first | exact ⟨rfl, B', vd', p1, p2⟩ | exact ⟨rfl, B', ⟨vd', p1⟩, p2⟩
end
end Go.Proofs.Ytafcianpajheiaa

/- pool: validators, and delegations, of the same are alike. -/
namespace Go.Proofs.Ytafcianpajheiaa
open Go.RowKit

theorem eq4_own (a b c d : Int) : eq4 a b c d a b c d = true := eq4_true.2 ⟨rfl, rfl, rfl, rfl⟩
section
variable {W : World} {id ow rt va t0 t1 t2 t3 s0 s1 s2 s3 : Int} {jl : Bool} {a1 a2 b1 b2 : Option Addr} {n1 n2 c1 c2 d1 d2 : Nat} {ix er : List Cn}
set_option maxHeartbeats 8000000 in
theorem same11_any (h1 : IsCoins W (.slice a1 n1 c1) ix) (h2 : IsCoins W (.slice a2 n2 c2) er) (k1 : IsCoins W (.slice b1 n1 d1) ix) (k2 : IsCoins W (.slice b2 n2 d2) er) :
    Calls Try.prog 20 #[.agg #[.int .u8 id, .int .u8 ow, .int .u16 rt, .bool jl, .int .u64 t0, .int .u64 t1, .int .u64 t2, .int .u64 t3, .int .u64 s0, .int .u64 s1, .int .u64 s2, .int .u64 s3, .slice a1 n1 c1, .slice a2 n2 c2], .agg #[.int .u8 id, .int .u8 ow, .int .u16 rt, .bool jl, .int .u64 t0, .int .u64 t1, .int .u64 t2, .int .u64 t3, .int .u64 s0, .int .u64 s1, .int .u64 s2, .int .u64 s3, .slice b1 n1 d1, .slice b2 n2 d2]] W fun e w' => e = .returned (.bool true) ∧ Below W.heap.size W w' := by
  have heq := eq_num
  have ht := eq4_own t0 t1 t2 t3
  have hs := eq4_own s0 s1 s2 s3
  have hb : Below W.heap.size W ((W.alloc (.cells #[.int .u8 id, .int .u8 ow, .int .u16 rt, .bool jl, .int .u64 t0, .int .u64 t1, .int .u64 t2, .int .u64 t3, .int .u64 s0, .int .u64 s1, .int .u64 s2, .int .u64 s3, .slice a1 n1 c1, .slice a2 n2 c2] 43)).alloc (.cells #[.int .u8 id, .int .u8 ow, .int .u16 rt, .bool jl, .int .u64 t0, .int .u64 t1, .int .u64 t2, .int .u64 t3, .int .u64 s0, .int .u64 s1, .int .u64 s2, .int .u64 s3, .slice b1 n1 d1, .slice b2 n2 d2] 43)) := by (repeat (first | (with_reducible exact Below.refl _ _) | (with_reducible assumption) | (with_reducible apply bd) | (with_reducible apply ba) | (with_reducible refine bp ?_ (by first | omega | (simp [pad_size]; done) | (simp [pad_size]; omega)) _ _) | (with_reducible refine bs ?_ (by first | omega | (simp [pad_size]; done) | (simp [pad_size]; omega)) _) | (with_reducible refine bt ?_ (by assumption))))
  have hS1 := sameC_any _ (h1.below hb) (k1.below hb)
  have hS2 : Hid (∀ X, Below W.heap.size W X → Calls Try.prog 29 #[.slice a2 n2 c2, .slice b2 n2 d2] X fun e w' => e = .returned (.bool true) ∧ Below X.heap.size X w') := fun X hX => sameC_any X (h2.below hX) (k2.below hX)
  have hA : ((W.alloc (.cells #[.int .u8 id, .int .u8 ow, .int .u16 rt, .bool jl, .int .u64 t0, .int .u64 t1, .int .u64 t2, .int .u64 t3, .int .u64 s0, .int .u64 s1, .int .u64 s2, .int .u64 s3, .slice a1 n1 c1, .slice a2 n2 c2] 43)).alloc (.cells #[.int .u8 id, .int .u8 ow, .int .u16 rt, .bool jl, .int .u64 t0, .int .u64 t1, .int .u64 t2, .int .u64 t3, .int .u64 s0, .int .u64 s1, .int .u64 s2, .int .u64 s3, .slice b1 n1 d1, .slice b2 n2 d2] 43)).heap[W.heap.size]? = some (.cells #[.int .u8 id, .int .u8 ow, .int .u16 rt, .bool jl, .int .u64 t0, .int .u64 t1, .int .u64 t2, .int .u64 t3, .int .u64 s0, .int .u64 s1, .int .u64 s2, .int .u64 s3, .slice a1 n1 c1, .slice a2 n2 c2] 43 (0, 0)) := (al_old (by simp)).trans (al_at rfl)
  have hB : ((W.alloc (.cells #[.int .u8 id, .int .u8 ow, .int .u16 rt, .bool jl, .int .u64 t0, .int .u64 t1, .int .u64 t2, .int .u64 t3, .int .u64 s0, .int .u64 s1, .int .u64 s2, .int .u64 s3, .slice a1 n1 c1, .slice a2 n2 c2] 43)).alloc (.cells #[.int .u8 id, .int .u8 ow, .int .u16 rt, .bool jl, .int .u64 t0, .int .u64 t1, .int .u64 t2, .int .u64 t3, .int .u64 s0, .int .u64 s1, .int .u64 s2, .int .u64 s3, .slice b1 n1 d1, .slice b2 n2 d2] 43)).heap[W.heap.size + 1]? = some (.cells #[.int .u8 id, .int .u8 ow, .int .u16 rt, .bool jl, .int .u64 t0, .int .u64 t1, .int .u64 t2, .int .u64 t3, .int .u64 s0, .int .u64 s1, .int .u64 s2, .int .u64 s3, .slice b1 n1 d1, .slice b2 n2 d2] 43 (0, 0)) := al_at (by simp)
  have hz : ((W.alloc (.cells #[.int .u8 id, .int .u8 ow, .int .u16 rt, .bool jl, .int .u64 t0, .int .u64 t1, .int .u64 t2, .int .u64 t3, .int .u64 s0, .int .u64 s1, .int .u64 s2, .int .u64 s3, .slice a1 n1 c1, .slice a2 n2 c2] 43)).alloc (.cells #[.int .u8 id, .int .u8 ow, .int .u16 rt, .bool jl, .int .u64 t0, .int .u64 t1, .int .u64 t2, .int .u64 t3, .int .u64 s0, .int .u64 s1, .int .u64 s2, .int .u64 s3, .slice b1 n1 d1, .slice b2 n2 d2] 43)).heap.size = W.heap.size + 1 + 1 := by simp
  clear h1 h2 k1 k2
  go_enter Try.func20, Try.ntmps20
  go_wp2_with (first
    | (go_at_call 29; with_reducible refine hS1.mono ?_; rintro e w1 ⟨rfl, hb1⟩; have q1 := (hb1.block W.heap.size (by omega)).trans hA; have q2 := (hb1.block (W.heap.size + 1) (by omega)).trans hB; obtain ⟨e1, f1⟩ := cells_of_block q1; obtain ⟨e2, f2⟩ := cells_of_block q2; have hB1 := bt hb hb1)
    | (go_at_call 29; refine (hS2.out _ hB1).mono ?_; rintro e w2 ⟨rfl, hb2⟩))
  go_ret
  exact ⟨rfl, bt hB1 hb2⟩
set_option maxHeartbeats 8000000 in
theorem alike11_any (h1 : IsCoins W (.slice a1 n1 c1) ix) (k1 : IsCoins W (.slice b1 n1 d1) ix) :
    Calls Try.prog 14 #[.agg #[.int .u8 ow, .int .u8 va, .int .u64 s0, .int .u64 s1, .int .u64 s2, .int .u64 s3, .slice a1 n1 c1], .agg #[.int .u8 ow, .int .u8 va, .int .u64 s0, .int .u64 s1, .int .u64 s2, .int .u64 s3, .slice b1 n1 d1]] W fun e w' => e = .returned (.bool true) ∧ Below W.heap.size W w' := by
  have heq := eq_num
  have hs := eq4_own s0 s1 s2 s3
  have hb : Below W.heap.size W ((W.alloc (.cells #[.int .u8 ow, .int .u8 va, .int .u64 s0, .int .u64 s1, .int .u64 s2, .int .u64 s3, .slice a1 n1 c1] 45)).alloc (.cells #[.int .u8 ow, .int .u8 va, .int .u64 s0, .int .u64 s1, .int .u64 s2, .int .u64 s3, .slice b1 n1 d1] 45)) := by (repeat (first | (with_reducible exact Below.refl _ _) | (with_reducible assumption) | (with_reducible apply bd) | (with_reducible apply ba) | (with_reducible refine bp ?_ (by first | omega | (simp [pad_size]; done) | (simp [pad_size]; omega)) _ _) | (with_reducible refine bs ?_ (by first | omega | (simp [pad_size]; done) | (simp [pad_size]; omega)) _) | (with_reducible refine bt ?_ (by assumption))))
  have hS1 := sameC_any _ (h1.below hb) (k1.below hb)
  clear h1 k1
  go_enter Try.func14, Try.ntmps14
  go_wp2_with (go_at_call 29; with_reducible refine hS1.mono ?_; rintro e w1 ⟨rfl, hb1⟩)
  go_ret
  exact ⟨rfl, bt hb hb1⟩
end
end Go.Proofs.Ytafcianpajheiaa

/- pool: validators, delegations and the law's deeds as they come in; few. -/
namespace Go.Proofs.Ytafcianpajheiaa
open Go.ChangeShapes Go.WideShapes Go.ChangeAt Go.RowKit

/-- A validator that came in: its number, what it is, where its coins lie (what they are, if there are not many). -/
structure Pva where
  i : Nat
  x : Vd
  a1 : Option Addr
  n1 : Nat
  c1 : Nat
  a2 : Option Addr
  n2 : Nat
  c2 : Nat
structure Pda where
  d : Dg
  a1 : Option Addr
  n1 : Nat
  c1 : Nat
def vaC (y : Pva) : List Value := [.int .u8 (y.i : Nat), .int .u8 y.x.ow, .int .u16 y.x.rt, .bool y.x.jl, .int .u64 y.x.t0, .int .u64 y.x.t1, .int .u64 y.x.t2, .int .u64 y.x.t3, .int .u64 y.x.s0, .int .u64 y.x.s1, .int .u64 y.x.s2, .int .u64 y.x.s3, .slice y.a1 y.n1 y.c1, .slice y.a2 y.n2 y.c2]
def daC (y : Pda) : List Value := [.int .u8 (y.d.ow : Nat), .int .u8 (y.d.va : Nat), .int .u64 y.d.s0, .int .u64 y.d.s1, .int .u64 y.d.s2, .int .u64 y.d.s3, .slice y.a1 y.n1 y.c1]
def CoIn (w : World) (a : Option Addr) (n c : Nat) (l : List Cn) : Prop := IsCL w (.slice a n c) l ∧ l.length = n
structure PvaIn (w : World) (y : Pva) : Prop where
  i : y.i ≤ 255
  x : VIn y.x
  n1 : y.n1 ≤ 9223372036854775807
  n2 : y.n2 ≤ 9223372036854775807
  l1 : CoIn w y.a1 y.n1 y.c1 y.x.ix
  l2 : CoIn w y.a2 y.n2 y.c2 y.x.er
structure PdaIn (w : World) (y : Pda) : Prop where
  x : DIn y.d
  n1 : y.n1 ≤ 9223372036854775807
  l1 : CoIn w y.a1 y.n1 y.c1 y.d.ix
section
variable {H : Type} {enc : TypeId × Value → H} {w : World} {base : Nat} {spare : Nat → Bool} {held : Bool} {fuel : Nat} {cs : List Value} {x : DataW H × List MemPlace}
theorem Try.cellsVal11 : Try.prog.cellsOf 43 = 14 := by kernel_rfl
theorem Try.cellsDel11 : Try.prog.cellsOf 45 = 7 := by kernel_rfl
theorem Try.cellsCo11 : Try.prog.cellsOf 29 = 1 := by kernel_rfl
theorem Try.cellsBool11 : Try.prog.cellsOf 4 = 1 := by kernel_rfl
theorem Try.cellsU16b : Try.prog.cellsOf 39 = 1 := by kernel_rfl
def cnV11 (y : Cn) : List Value := [.int .u8 y.d, .int .u64 y.a, .int .u64 y.b, .int .u64 y.c, .int .u64 y.e]
theorem co_in {a : Option Addr} {len cap : Nat} (h : DataW.trod enc Try.prog w base spare held fuel 29 [.slice a len cap] = some x) (hlen : len ≤ 9223372036854775807) : ∃ L, CoIn w a len cap L ∧ ∀ y ∈ L, CnWf y := by
  obtain ⟨l, h1, h2, h3⟩ := @open_list H enc w base spare held fuel x Cn ⟨⟨0, 0, 0, 0, 0⟩⟩ 29 103 5 (by omega) Try.underlying29 Try.cellsCoin cnV11 CnWf (fun m cs x h => by obtain ⟨y, e, hy⟩ := coin_of_cells h; exact ⟨y, e, rfl, hy⟩) a len cap h
  refine ⟨l, ⟨?_, h1⟩, h2⟩
  rcases h3 with h3 | ⟨blk, off, rfl, hb, hc⟩
  · subst h3
    exact .inl ⟨List.eq_nil_of_length_eq_zero h1, a, cap, rfl⟩
  · by_cases hl : l = []
    · subst hl; simp at h1; subst h1; exact .inl ⟨rfl, _, _, rfl⟩
    · exact .inr ⟨blk, off, cap, by rw [h1], hl, by omega, hb, fun i y hi => ⟨hc i y hi 0 _ rfl, hc i y hi 1 _ rfl, hc i y hi 2 _ rfl, hc i y hi 3 _ rfl, hc i y hi 4 _ rfl⟩⟩
theorem wf_u16b {n : Int} (h : (Lit.int .u16 n).wf = true) : 0 ≤ n ∧ n < 65536 := by
  have := bounds_u16 h; omega
theorem va_of_cells (h : DataW.trod enc Try.prog w base spare held fuel 43 cs = some x) : ∃ y : Pva, cs = vaC y ∧ PvaIn w y := by
  obtain ⟨xs, m, -, -, hl, hx, hi⟩ := DataW.trod_struct Try.underlying43 h
  rw [Try.cellsVal11] at hl
  have f0 : DataW.trod enc Try.prog w base spare held m 5 ((cs.drop 0).take (Try.prog.cellsOf 5)) = xs[0]? := hi 0 _ rfl
  have f1 : DataW.trod enc Try.prog w base spare held m 5 ((cs.drop 1).take (Try.prog.cellsOf 5)) = xs[1]? := hi 1 _ rfl
  have f2 : DataW.trod enc Try.prog w base spare held m 39 ((cs.drop 2).take (Try.prog.cellsOf 39)) = xs[2]? := hi 2 _ rfl
  have f3 : DataW.trod enc Try.prog w base spare held m 4 ((cs.drop 3).take (Try.prog.cellsOf 4)) = xs[3]? := hi 3 _ rfl
  have f4 : DataW.trod enc Try.prog w base spare held m 41 ((cs.drop 4).take (Try.prog.cellsOf 41)) = xs[4]? := hi 4 _ rfl
  have f5 : DataW.trod enc Try.prog w base spare held m 41 ((cs.drop 8).take (Try.prog.cellsOf 41)) = xs[5]? := hi 5 _ rfl
  have f6 : DataW.trod enc Try.prog w base spare held m 29 ((cs.drop 12).take (Try.prog.cellsOf 29)) = xs[6]? := hi 6 _ rfl
  have f7 : DataW.trod enc Try.prog w base spare held m 29 ((cs.drop 13).take (Try.prog.cellsOf 29)) = xs[7]? := hi 7 _ rfl
  rw [Try.cellsU8] at f0 f1
  rw [Try.cellsU16b] at f2
  rw [Try.cellsBool11] at f3
  rw [Try.cellsNum] at f4 f5
  rw [Try.cellsCo11] at f6 f7
  match cs, hl with
  | [c0, c1, c2, c3, c4, c5, c6, c7, c8, c9, c10, c11, c12, c13], _ =>
    have hx2 : xs.length = 8 := hx
    obtain ⟨i, ei, -, wi⟩ := DataW.trod_int Try.underlying5 (f0.trans (List.getElem?_eq_getElem (by omega)))
    obtain ⟨o, eo, -, wo⟩ := DataW.trod_int Try.underlying5 (f1.trans (List.getElem?_eq_getElem (by omega)))
    obtain ⟨r, er, -, wr⟩ := DataW.trod_int Try.underlying39 (f2.trans (List.getElem?_eq_getElem (by omega)))
    obtain ⟨j, ej, -⟩ := DataW.trod_bool Try.underlying4 (f3.trans (List.getElem?_eq_getElem (by omega)))
    obtain ⟨t0, t1, t2, t3, et, ht⟩ := num_of_cells (f4.trans (List.getElem?_eq_getElem (by omega)))
    obtain ⟨s0, s1, s2, s3, es, hs⟩ := num_of_cells (f5.trans (List.getElem?_eq_getElem (by omega)))
    have g6 := f6.trans (List.getElem?_eq_getElem (by omega))
    have g7 := f7.trans (List.getElem?_eq_getElem (by omega))
    obtain ⟨a1, n1, k1, e6, hn1⟩ := slice_form Try.underlying29 g6
    obtain ⟨a2, n2, k2, e7, hn2⟩ := slice_form Try.underlying29 g7
    simp at ei eo er ej et es e6 e7
    obtain ⟨rfl, rfl, rfl, rfl⟩ := et
    obtain ⟨rfl, rfl, rfl, rfl⟩ := es
    subst ei eo er ej e6 e7
    obtain ⟨L1, p1, p2⟩ := co_in g6 hn1
    obtain ⟨L2, p3, p4⟩ := co_in g7 hn2
    have wi := wf_u8 wi
    obtain ⟨i, rfl⟩ := Int.eq_ofNat_of_zero_le wi.1
    exact ⟨⟨i, ⟨o, r, j, t0, t1, t2, t3, s0, s1, s2, s3, L1, L2⟩, a1, n1, k1, a2, n2, k2⟩, rfl, by show i ≤ 255; omega, ⟨wf_u8 wo, wf_u16b wr, ht, hs, p2, p4⟩, hn1, hn2, p1, p3⟩
theorem da_of_cells (h : DataW.trod enc Try.prog w base spare held fuel 45 cs = some x) : ∃ y : Pda, cs = daC y ∧ PdaIn w y := by
  obtain ⟨xs, m, -, -, hl, hx, hi⟩ := DataW.trod_struct Try.underlying45 h
  rw [Try.cellsDel11] at hl
  have f0 : DataW.trod enc Try.prog w base spare held m 5 ((cs.drop 0).take (Try.prog.cellsOf 5)) = xs[0]? := hi 0 _ rfl
  have f1 : DataW.trod enc Try.prog w base spare held m 5 ((cs.drop 1).take (Try.prog.cellsOf 5)) = xs[1]? := hi 1 _ rfl
  have f2 : DataW.trod enc Try.prog w base spare held m 41 ((cs.drop 2).take (Try.prog.cellsOf 41)) = xs[2]? := hi 2 _ rfl
  have f3 : DataW.trod enc Try.prog w base spare held m 29 ((cs.drop 6).take (Try.prog.cellsOf 29)) = xs[3]? := hi 3 _ rfl
  rw [Try.cellsU8] at f0 f1
  rw [Try.cellsNum] at f2
  rw [Try.cellsCo11] at f3
  match cs, hl with
  | [c0, c1, c2, c3, c4, c5, c6], _ =>
    have hx2 : xs.length = 4 := hx
    obtain ⟨o, eo, -, wo⟩ := DataW.trod_int Try.underlying5 (f0.trans (List.getElem?_eq_getElem (by omega)))
    obtain ⟨v, ev, -, wv⟩ := DataW.trod_int Try.underlying5 (f1.trans (List.getElem?_eq_getElem (by omega)))
    obtain ⟨s0, s1, s2, s3, es, hs⟩ := num_of_cells (f2.trans (List.getElem?_eq_getElem (by omega)))
    have g6 := f3.trans (List.getElem?_eq_getElem (by omega))
    obtain ⟨a1, n1, k1, e6, hn1⟩ := slice_form Try.underlying29 g6
    simp at eo ev es e6
    obtain ⟨rfl, rfl, rfl, rfl⟩ := es
    subst eo ev e6
    obtain ⟨L1, p1, p2⟩ := co_in g6 hn1
    have wo := wf_u8 wo
    have wv := wf_u8 wv
    obtain ⟨o, rfl⟩ := Int.eq_ofNat_of_zero_le wo.1
    obtain ⟨v, rfl⟩ := Int.eq_ofNat_of_zero_le wv.1
    exact ⟨⟨⟨o, v, s0, s1, s2, s3, L1⟩, a1, n1, k1⟩, rfl, ⟨by show o ≤ 255; omega, by show v ≤ 255; omega, hs, p2⟩, hn1, p1⟩
/-- A deed: its number, a validator, a delegation. -/
structure Pact where
  k : Int
  v : Pva
  d : Pda
def paC (y : Pact) : List Value := .int .u8 y.k :: (vaC y.v ++ daC y.d)
structure PactIn (w : World) (y : Pact) : Prop where
  k : 0 ≤ y.k ∧ y.k ≤ 255
  v : PvaIn w y.v
  d : PdaIn w y.d
theorem Try.cellsAct11 : Try.prog.cellsOf 47 = 22 := by kernel_rfl
theorem pa_of_cells (h : DataW.trod enc Try.prog w base spare held fuel 47 cs = some x) : ∃ y : Pact, cs = paC y ∧ (paC y).length = 22 ∧ PactIn w y := by
  obtain ⟨xs, m, -, -, hl, hx, hi⟩ := DataW.trod_struct Try.underlying47 h
  rw [Try.cellsAct11] at hl
  have f0 : DataW.trod enc Try.prog w base spare held m 5 ((cs.drop 0).take (Try.prog.cellsOf 5)) = xs[0]? := hi 0 _ rfl
  have f1 : DataW.trod enc Try.prog w base spare held m 43 ((cs.drop 1).take (Try.prog.cellsOf 43)) = xs[1]? := hi 1 _ rfl
  have f2 : DataW.trod enc Try.prog w base spare held m 45 ((cs.drop 15).take (Try.prog.cellsOf 45)) = xs[2]? := hi 2 _ rfl
  rw [Try.cellsU8] at f0
  rw [Try.cellsVal11] at f1
  rw [Try.cellsDel11] at f2
  match cs, hl with
  | [c0, c1, c2, c3, c4, c5, c6, c7, c8, c9, c10, c11, c12, c13, c14, c15, c16, c17, c18, c19, c20, c21], _ =>
    have hx2 : xs.length = 3 := hx
    obtain ⟨k, ek, -, wk⟩ := DataW.trod_int Try.underlying5 (f0.trans (List.getElem?_eq_getElem (by omega)))
    obtain ⟨v, ev, hv⟩ := va_of_cells (f1.trans (List.getElem?_eq_getElem (by omega)))
    obtain ⟨d, ed, hd⟩ := da_of_cells (f2.trans (List.getElem?_eq_getElem (by omega)))
    simp at ek ev ed
    subst ek
    refine ⟨⟨k, v, d⟩, ?_, rfl, wf_u8 wk, hv, hd⟩
    show _ = Value.int .u8 k :: (vaC v ++ daC d)
    rw [← ev, ← ed]; rfl
/-- A list of deeds that came in. -/
structure PasIn (w : World) (a : Option Addr) (len : Nat) (l : List Pact) : Prop where
  num : l.length = len
  ok : ∀ y ∈ l, PactIn w y
  cell : len = 0 ∨ ∃ blk off, a = some ⟨blk, off, none⟩ ∧ blk < w.heap.size ∧ ∀ i y, l[i]? = some y → ∀ j v, (paC y)[j]? = some v → w.cell? ⟨blk, off + i * 22 + j, none⟩ = some v
theorem acts11_open {a : Option Addr} {len cap : Nat} (h : DataW.trod enc Try.prog w base spare held fuel 22 [.slice a len cap] = some x) : ∃ l, PasIn w a len l := by
  obtain ⟨l, h1, h2, h3⟩ := @open_list H enc w base spare held fuel x Pact ⟨⟨0, ⟨0, ⟨0, 0, false, 0, 0, 0, 0, 0, 0, 0, 0, [], []⟩, none, 0, 0, none, 0, 0⟩, ⟨⟨0, 0, 0, 0, 0, 0, []⟩, none, 0, 0⟩⟩⟩ 22 47 22 (by omega) Try.underlying22 Try.cellsAct11 paC (PactIn w) (fun m cs x h => pa_of_cells h) a len cap h
  exact ⟨l, h1, h2, h3⟩
theorem okWide_val11 {W : World} {b : Nat} {r : Reach} {v : Value} (h : Value.okWide Try.prog W r b 43 v) : ∃ cs, v = .agg cs := by
  unfold Value.okWide at h
  simp only [Try.underlying43] at h
  obtain ⟨cs, e, -⟩ := h
  exact ⟨cs, e⟩
theorem okWide_del11 {W : World} {b : Nat} {r : Reach} {v : Value} (h : Value.okWide Try.prog W r b 45 v) : ∃ cs, v = .agg cs := by
  unfold Value.okWide at h
  simp only [Try.underlying45] at h
  obtain ⟨cs, e, -⟩ := h
  exact ⟨cs, e⟩
theorem val11_in {W : World} {b : Nat} {r : Reach} {v : Value} (hv : Value.okWide Try.prog W r b 43 v) (h : ∃ fuel, DataW.trod enc Try.prog w base spare held fuel 43 v.cells.toList = some x) :
    ∃ y : Pva, v = .agg (vaC y).toArray ∧ PvaIn w y := by
  obtain ⟨cs, rfl⟩ := okWide_val11 hv
  obtain ⟨fuel, h⟩ := h
  obtain ⟨y, e, hl⟩ := va_of_cells h
  refine ⟨y, ?_, hl⟩
  cases cs
  simp [Value.cells] at e
  rw [e]
theorem del11_in {W : World} {b : Nat} {r : Reach} {v : Value} (hv : Value.okWide Try.prog W r b 45 v) (h : ∃ fuel, DataW.trod enc Try.prog w base spare held fuel 45 v.cells.toList = some x) :
    ∃ y : Pda, v = .agg (daC y).toArray ∧ PdaIn w y := by
  obtain ⟨cs, rfl⟩ := okWide_del11 hv
  obtain ⟨fuel, h⟩ := h
  obtain ⟨y, e, hl⟩ := da_of_cells h
  refine ⟨y, ?_, hl⟩
  cases cs
  simp [Value.cells] at e
  rw [e]
end
end Go.Proofs.Ytafcianpajheiaa

/- pool: the document's example; few; both pools, side by side. -/
namespace Go.Proofs.Ytafcianpajheiaa
open Go.RowKit

/-- What was made since the two stood so stays as it is. -/
def Kp (X0 X Y : World) : Prop := ∀ k, X0.heap.size ≤ k → k < X.heap.size → Y.heap[k]? = X.heap[k]?
theorem Kp.below {X0 X Y : World} (h : Below X.heap.size X Y) : Kp X0 X Y := fun k _ hk => h.block k hk
theorem Kp.fr {X0 X Y : World} {A A' : Nat → Prop} (f : Fr X Y A A') (hA : ∀ k, A k → k < X0.heap.size) : Kp X0 X Y := fun k h1 h2 => f.block k h2 (fun h => by have := hA k h; omega)
theorem Kp.trans {X0 X Y Z : World} (h : Kp X0 X Y) (k : Kp X0 Y Z) (hs : X.heap.size ≤ Y.heap.size) : Kp X0 X Z := fun i h1 h2 => (k i h1 (by omega)).trans (h i h1 h2)
/-- The program's pool alone. -/
def Pl (W X : World) (s : Nat) (V : List Vd) (D : List Dg) (n : Nat) : Prop := ∃ (A : Nat → Prop) (L : List (List Int × List Int)) (base : Nat), StD X s base A L [] n ∧ PoL L V D ∧ W.heap.size ≤ base ∧ Below W.heap.size W X
section
variable {W X : World} {s n : Nat} {V : List Vd} {D : List Dg}
theorem Pl.below {Y : World} (h : Pl W X s V D n) (hb : Below X.heap.size X Y) : Pl W Y s V D n := by
  obtain ⟨A, L, base, h1, h2, h3, h4⟩ := h
  exact ⟨A, L, base, h1.below hb, h2, h3, bt h4 hb⟩
theorem Pl.out (h : Pl W X s V D n) : Below W.heap.size W X := by obtain ⟨A, L, base, h1, h2, h3, h4⟩ := h; exact h4
theorem Pl.add {ow rt : Int} (h : Pl W X s V D n) (hn : n ≤ 900) (ho : 0 ≤ ow) (hr : 0 ≤ rt) (hm : mayB ow rt [] [] = true) (hl : V.length < 16) :
    Calls Try.prog 15 #[.pointer (some ⟨s, 0, none⟩), .int .u8 ow, .int .u16 rt] X fun e w' => e = .returned (.tuple #[.int .u8 (V.length : Nat), .int .i64 0]) ∧ Pl W w' s (V ++ [newV ow rt]) D (n + 1) := by
  obtain ⟨A, L, base, h1, h2, h3, h4⟩ := h
  refine (add_any h1 h2 hn ho hr hm).mono ?_
  rintro e w' (⟨-, rfl, A', L', q1, q2, -, q4⟩ | ⟨e1, -⟩)
  · exact ⟨rfl, A', L', base, q1, q2, h3, Fr.out h4 q4 (fun k hk => Nat.le_trans h3 (h1.foot k hk).1)⟩
  · omega
theorem Pl.full {ow rt : Int} (h : Pl W X s V D n) (hn : n ≤ 900) (ho : 0 ≤ ow) (hr : 0 ≤ rt) (hm : mayB ow rt [] [] = true) (hl : V.length = 16) :
    Calls Try.prog 15 #[.pointer (some ⟨s, 0, none⟩), .int .u8 ow, .int .u16 rt] X fun e w' => e = .returned (.tuple #[.int .u8 0, .int .i64 7]) ∧ Pl W w' s V D n := by
  have h0 := h
  obtain ⟨A, L, base, h1, h2, h3, h4⟩ := h
  refine (add_any h1 h2 hn ho hr hm).mono ?_
  rintro e w' (⟨e1, -⟩ | ⟨-, rfl, q⟩)
  · omega
  · exact ⟨rfl, h0.below q⟩
theorem Pl.set {X0 : World} {x : Dg} {a1 : Option Addr} {c1 : Nat} (h0 : Pl W X0 s V D n) (hX0 : Below X0.heap.size X0 X) (hn : n ≤ 900) (hx : DIn x) (hm : x.ow < 200) (hr : rightFrom 0 x.ix = true) (hI : IsCoins X (.slice a1 x.ix.length c1) x.ix) (hl : x.va < V.length) :
    Calls Try.prog 17 #[.pointer (some ⟨s, 0, none⟩), .agg #[.int .u8 (x.ow : Nat), .int .u8 (x.va : Nat), .int .u64 x.s0, .int .u64 x.s1, .int .u64 x.s2, .int .u64 x.s3, .slice a1 x.ix.length c1]] X fun e w' => e = .returned (.int .i64 0) ∧ Pl W w' s V (setD D x) (n + 1) ∧ Kp X0 X w' := by
  obtain ⟨A, L, base, h1, h2, h3, h4⟩ := h0
  refine (setDg_any (h1.below hX0) h2 hn hx hm hr hI).mono ?_
  rintro e w' (⟨-, rfl, A', L', q1, q2, -, q4⟩ | ⟨e1, -⟩)
  · exact ⟨rfl, ⟨A', L', base, q1, q2, h3, Fr.out (bt h4 hX0) q4 (fun k hk => Nat.le_trans h3 (h1.foot k hk).1)⟩, Kp.fr q4 (fun k hk => (h1.foot k hk).2)⟩
  · omega
theorem Pl.get {x : Dg} (h : Pl W X s V D n) (hn : n ≤ 1000) (hx : x ∈ D) :
    Calls Try.prog 19 #[.pointer (some ⟨s, 0, none⟩), .int .u8 (x.ow : Nat), .int .u8 (x.va : Nat)] X fun e w' => ∃ a1 c1, e = .returned (.tuple #[.agg #[.int .u8 (x.ow : Nat), .int .u8 (x.va : Nat), .int .u64 x.s0, .int .u64 x.s1, .int .u64 x.s2, .int .u64 x.s3, .slice a1 x.ix.length c1], .bool true]) ∧ IsCoins w' (.slice a1 x.ix.length c1) x.ix ∧ Below X.heap.size X w' := by
  have h0 := h
  obtain ⟨A, L, base, h1, h2, h3, h4⟩ := h
  have hl := right_len (h2.dok x hx).ir
  refine (getD_any h1 h2 hn hx).mono ?_
  rintro e w' ⟨a1, c1, rfl, u1, hb⟩
  exact ⟨a1, c1, rfl, own_coins u1 (by omega), hb⟩
theorem Pl.gone {a b : Nat} (h : Pl W X s V D n) (hn : n ≤ 1000) (ha : a ≤ 255) (hb : b ≤ 255) (hx : ∀ d ∈ D, ¬ (d.ow = a ∧ d.va = b)) :
    Calls Try.prog 19 #[.pointer (some ⟨s, 0, none⟩), .int .u8 a, .int .u8 b] X fun e w' => e = .returned (.tuple #[.agg #[.int .u8 0, .int .u8 0, .int .u64 0, .int .u64 0, .int .u64 0, .int .u64 0, .slice none 0 0], .bool false]) ∧ Below X.heap.size X w' := by
  have h0 := h
  obtain ⟨A, L, base, h1, h2, h3, h4⟩ := h
  refine (getD_not h1 h2 hn ha hb hx).mono ?_
  rintro e w' ⟨rfl, q⟩
  exact ⟨rfl, q⟩
end
theorem pl_new (W : World) : Calls Try.prog 10 #[] W fun e w' => e = .returned (.pointer (some ⟨W.heap.size, 0, none⟩)) ∧ Pl W w' W.heap.size [] [] 0 := by
  refine (stdNew W).mono ?_
  rintro e w' ⟨rfl, h, hb⟩
  exact ⟨rfl, _, [], _, h, PoL.new, Nat.le_refl _, hb⟩
def dgA : Dg := ⟨7, 1, 5, 0, 0, 0, []⟩
def dgB : Dg := ⟨7, 1, 0, 0, 0, 0, []⟩
theorem dgA_in : DIn dgA := ⟨by decide, by decide, by unfold dgA Lim; simp, by simp [dgA]⟩
theorem dgB_in : DIn dgB := ⟨by decide, by decide, by unfold dgB Lim; simp, by simp [dgB]⟩
theorem setA : setD [] dgA = [dgA] := rfl
theorem setAB : setD [dgA] dgB = [] := rfl
set_option maxHeartbeats 8000000 in
theorem adds_any (W : World) : Calls Try.prog 8 #[] W fun e w' => e = .returned (.bool true) ∧ Below W.heap.size W w' := by
  have heq := eq_num
  have h5 : eq4 5 0 0 0 5 0 0 0 = true := by decide
  go_enter Try.func8, Try.ntmps8
  go_wp2_with (first
    | (go_at_call 10; refine (pl_new _).mono ?_; rintro e w1 ⟨rfl, h1⟩)
    | (go_at_call 15; with_reducible refine (h1.add (ow := 1) (rt := 0) (by omega) (by omega) (by omega) (by decide) (by simp)).mono ?_; rintro e w2 ⟨rfl, h2⟩)
    | (go_at_call 15; with_reducible refine (h2.add (ow := 2) (rt := 10000) (by omega) (by omega) (by omega) (by decide) (by simp)).mono ?_; rintro e w3 ⟨rfl, h3⟩; have hS := h3.set (x := dgA) (a1 := none) (c1 := 0) (Below.refl _ _) (by omega) dgA_in (by decide) rfl (isC_nil _ _) (by decide); rw [setA] at hS)
    | (go_at_call 17; refine (Calls.mono hS ?_); clear hS; rintro e w4 ⟨rfl, h4, -⟩; have hG := h4.get (x := dgA) (by omega) (by simp))
    | (go_at_call 19; refine (Calls.mono hG ?_); clear hG; rintro e w5 ⟨a1, c1, rfl, -, hb5⟩; have h5' := h4.below hb5; have hS2 := fun X hX => h5'.set (X := X) (x := dgB) (a1 := none) (c1 := 0) hX (by omega) dgB_in (by decide) rfl (isC_nil _ _) (by decide); rw [setAB] at hS2; replace hS2 : Hid _ := hS2)
    | (go_at_call 17; refine (Calls.mono (hS2.out _ (by (repeat (first | (with_reducible exact Below.refl _ _) | (with_reducible assumption) | (with_reducible apply bd) | (with_reducible apply ba) | (with_reducible refine bp ?_ (by first | omega | (simp [pad_size]; done) | (simp [pad_size]; omega)) _ _) | (with_reducible refine bs ?_ (by first | omega | (simp [pad_size]; done) | (simp [pad_size]; omega)) _) | (with_reducible refine bt ?_ (by assumption)))))) ?_); clear hS2; rintro e w6 ⟨rfl, h6, k6⟩; have q6 := (k6 w5.heap.size (Nat.le_refl _) (by simp)).trans (al_at rfl); have hN := h6.gone (a := 7) (b := 1) (by omega) (by omega) (by omega) (by simp))
    | (go_at_call 19; refine (Calls.mono hN ?_); clear hN; rintro e w7 ⟨rfl, hb7⟩; have q7 := (hb7.block w5.heap.size (Array.getElem?_eq_some_iff.1 q6).1).trans q6; obtain ⟨e7, f7⟩ := cells_of_block q7; have z7 := (Array.getElem?_eq_some_iff.1 q7).1; have hO := (h6.below hb7).out))
  go_ret
  exact ⟨rfl, by (repeat (first | (with_reducible exact Below.refl _ _) | (with_reducible assumption) | (with_reducible apply bd) | (with_reducible apply ba) | (with_reducible refine bp ?_ (by first | omega | (simp [pad_size]; done) | (simp [pad_size]; omega)) _ _) | (with_reducible refine bs ?_ (by first | omega | (simp [pad_size]; done) | (simp [pad_size]; omega)) _) | (with_reducible refine bt ?_ (by assumption))))⟩
end Go.Proofs.Ytafcianpajheiaa

/- pool: both pools, side by side: each deed. -/
namespace Go.Proofs.Ytafcianpajheiaa
open Go.RowKit

/-- The program's pool and the document's, of the same validators and delegations. -/
def PP (w X : World) (s m : Nat) (V : List Vd) (D : List Dg) (n : Nat) : Prop :=
  ∃ (A : Nat → Prop) (L : List (List Int × List Int)) (base : Nat) (B : Nat → Prop) (base' : Nat) (vv vd : Value) (M : List Vx) (N : List Dx), StD X s base A L [] n ∧ PoL L V D ∧ RSt X m w.heap.size base' B (.int .u64 0) (.slice none 0 0) (.slice none 0 0) (.slice none 0 0) (.slice none 0 0) (.slice none 0 0) vv vd M N ∧ M.map (·.x) = V ∧ N.map (·.d) = D ∧ (∀ k, A k → ¬ B k) ∧ Below w.heap.size w X ∧ w.heap.size ≤ base
theorem StD.llen {X : World} {s base n : Nat} {A : Nat → Prop} {L : List (List Int × List Int)} {ds : List (List (List Int × List Int))} (h : StD X s base A L ds n) : L.length ≤ n := by
  obtain ⟨vp, vj, vb, r, j, b, h1, h2, h3, h4, h5, h6⟩ := h; exact h5
section
variable {w X Y Z : World} {s m n k : Nat} {V V' : List Vd} {D D' : List Dg}
theorem PP.below (h : PP w X s m V D n) (hb : Below X.heap.size X Y) : PP w Y s m V D n := by
  obtain ⟨A, L, base, B, base', vv, vd, M, N, h1, h2, h3, h4, h5, h6, h7, h8⟩ := h
  exact ⟨A, L, base, B, base', vv, vd, M, N, h1.below hb, h2, h3.below hb, h4, h5, h6, bt h7 hb, h8⟩
theorem PP.up (h : PP w X s m V D n) (hk : n ≤ k) : PP w X s m V D k := by
  obtain ⟨A, L, base, B, base', vv, vd, M, N, h1, h2⟩ := h
  exact ⟨A, L, base, B, base', vv, vd, M, N, h1.up hk, h2⟩
theorem PP.out (h : PP w X s m V D n) : Below w.heap.size w X := by
  obtain ⟨A, L, base, B, base', vv, vd, M, N, h1, h2, h3, h4, h5, h6, h7, h8⟩ := h; exact h7
section
variable {base base' lo : Nat} {A A' B B' : Nat → Prop} {L' : List (List Int × List Int)} {c0 c1 c2 c3 c6 c7 vv vd vv' vd' : Value} {M M' : List Vx} {N N' : List Dx}
theorem rst_over (h4 : RSt X m lo base' B c0 c1 c2 c3 c6 c7 vv vd M N) (h5 : ∀ k, A k → ¬ B k) (hlo : ∀ k, A k → lo ≤ k) (f : Fr X Y A A') : RSt Y m lo base' B c0 c1 c2 c3 c6 c7 vv vd M N :=
  h4.kept (fun k hk => f.block k (h4.foot k hk).2 (fun hA => h5 k hA hk)) (fun k hk => f.block k (by have := h4.los; omega) (fun hA => by have := hlo k hA; omega)) f.size
theorem pp_step (h4 : RSt X m w.heap.size base' B (.int .u64 0) (.slice none 0 0) (.slice none 0 0) (.slice none 0 0) (.slice none 0 0) (.slice none 0 0) vv vd M N) (h5 : ∀ k, A k → ¬ B k) (h6 : Below w.heap.size w X) (h7 : w.heap.size ≤ base) (hA : ∀ k, A k → base ≤ k ∧ k < X.heap.size)
    (q1 : StD Y s base A' L' [] k) (q2 : PoL L' V' D') (f : Fr X Y A A') (r1 : RSt Z m w.heap.size base' B' (.int .u64 0) (.slice none 0 0) (.slice none 0 0) (.slice none 0 0) (.slice none 0 0) (.slice none 0 0) vv' vd' M' N') (g : Fr Y Z B B') (e1 : M'.map (·.x) = V') (e2 : N'.map (·.d) = D') : PP w Z s m V' D' k := by
  have hd : ∀ k, A' k → ¬ B k := fun k hk hB => by
    rcases f.sub k hk with h | h
    · exact h5 k h hB
    · have := (h4.foot k hB).2; omega
  have e : ∀ k, A' k → Z.heap[k]? = Y.heap[k]? := fun k hk => g.block k (q1.foot k hk).2 (hd k hk)
  refine ⟨A', L', base, B', base', vv', vd', M', N', q1.kept e g.size, q2, r1, e1, e2, fun k hk hB => ?_, ?_, h7⟩
  · rcases g.sub k hB with h | h
    · exact hd k hk h
    · have := (q1.foot k hk).2; omega
  · have hw : Below w.heap.size w Y := Fr.out h6 f (fun k hk => Nat.le_trans h7 (hA k hk).1)
    exact Fr.out hw g (fun k hk => Nat.le_trans h4.le (h4.foot k hk).1)
end
theorem two_add {X0 : World} (h0 : PP w X0 s m V D n) (hn : n ≤ 800) (hX0 : Below X0.heap.size X0 X) {ow rt : Int} (ho : 0 ≤ ow) (hr : 0 ≤ rt) :
    ∃ (a c : Int) (P : World → Prop), Calls Try.prog 15 #[.pointer (some ⟨s, 0, none⟩), .int .u8 ow, .int .u16 rt] X (fun e w' => e = .returned (.tuple #[.int .u8 a, .int .i64 c]) ∧ P w') ∧ ∀ Y, P Y → Kp X0 X Y ∧ Calls Try.prog 24 #[.pointer (some ⟨m, 0, none⟩), .int .u8 ow, .int .u16 rt] Y fun e w' => e = .returned (.tuple #[.int .u8 a, .int .i64 c]) ∧ Kp X0 X w' ∧ ∃ V' D', PP w w' s m V' D' (n + 1) := by
  have hPX := h0.below hX0
  obtain ⟨A, L, base, B, base', vv, vd, M, N, h1, h2, h3, h4, h5, h6, h7, h8⟩ := h0
  have hfA := fun k hk => (h1.foot k hk).2
  have hfB := fun k hk => (h3.foot k hk).2
  have hD := h1.below hX0
  have hS := h3.below hX0
  have hw := bt h7 hX0
  have hMl : M.length = V.length := by rw [← h4, List.length_map]
  have hvl := h2.vlen
  cases hm : mayB ow rt [] []
  · refine ⟨0, 1, fun Y => Below X.heap.size X Y, add_bad hm _, fun Y hY => ⟨Kp.below hY, ?_⟩⟩
    refine (add11_bad (hS.below hY) (by omega) hm).mono ?_
    rintro e w' ⟨rfl, hb⟩
    exact ⟨rfl, Kp.below (bt hY hb), V, D, (hPX.below (bt hY hb)).up (by omega)⟩
  · by_cases h16 : V.length < 16
    · refine ⟨V.length, 0, fun Y => ∃ A' L', StD Y s base A' L' [] (n + 1) ∧ PoL L' (V ++ [newV ow rt]) D ∧ Fr X Y A A', (add_any hD h2 (by omega) ho hr hm).mono ?_, ?_⟩
      · rintro e w' (⟨-, rfl, A', L', q1, q2, -, q4⟩ | ⟨e1, -⟩)
        · exact ⟨rfl, A', L', q1, q2, q4⟩
        · omega
      · rintro Y ⟨A', L', q1, q2, f1⟩
        refine ⟨Kp.fr f1 hfA, (add11_any (rst_over hS h6 (fun k hk => Nat.le_trans h8 (h1.foot k hk).1) f1) (by omega) hm).mono ?_⟩
        rintro e w' (⟨-, rfl, B', vv', r1, g1⟩ | ⟨e1, -⟩)
        · exact ⟨by rw [hMl], (Kp.fr f1 hfA).trans (Kp.fr g1 hfB) f1.size, _, _, pp_step hS h6 hw h8 (fun k hk => hD.foot k hk) q1 q2 f1 r1 g1 (by rw [List.map_append, h4]; rfl) h5⟩
        · omega
    · have hv16 : V.length = 16 := by omega
      refine ⟨0, 7, fun Y => Below X.heap.size X Y, (add_any hD h2 (by omega) ho hr hm).mono ?_, fun Y hY => ⟨Kp.below hY, ?_⟩⟩
      · rintro e w' (⟨e1, -⟩ | ⟨-, rfl, q⟩)
        · omega
        · exact ⟨rfl, q⟩
      · refine (add11_any (hS.below hY) (by omega) hm).mono ?_
        rintro e w' (⟨e1, -⟩ | ⟨-, rfl, hb⟩)
        · omega
        · exact ⟨rfl, Kp.below (bt hY hb), V, D, (hPX.below (bt hY hb)).up (by omega)⟩
theorem co_small {w X : World} {a : Option Addr} {n' c : Nat} {l : List Cn} (h : CoIn w a n' c l) (hb : Below w.heap.size w X) (hr : rightFrom 0 l = true) : n' = l.length ∧ IsCoins X (.slice a l.length c) l ∧ Lo w.heap.size (.slice a l.length c) l := by
  obtain ⟨h1, rfl⟩ := h
  refine ⟨rfl, (h1.below hb).toC (by have := right_len hr; omega), ?_⟩
  rcases h1 with ⟨h2, -⟩ | ⟨blk, off, cap, e, -, -, hlt, -⟩
  · exact .inl h2
  · refine .inr (fun g hg => ?_)
    rw [e] at hg
    simp [Value.ownBlock] at hg
    omega
theorem two_setV {X0 : World} (h0 : PP w X0 s m V D n) (hn : n ≤ 800) (hX0 : Below X0.heap.size X0 X) {y : Pva} (hy : PvaIn w y) :
    ∃ (c : Int) (P : World → Prop), Calls Try.prog 16 #[.pointer (some ⟨s, 0, none⟩), .agg #[.int .u8 (y.i : Nat), .int .u8 y.x.ow, .int .u16 y.x.rt, .bool y.x.jl, .int .u64 y.x.t0, .int .u64 y.x.t1, .int .u64 y.x.t2, .int .u64 y.x.t3, .int .u64 y.x.s0, .int .u64 y.x.s1, .int .u64 y.x.s2, .int .u64 y.x.s3, .slice y.a1 y.n1 y.c1, .slice y.a2 y.n2 y.c2]] X (fun e w' => e = .returned (.int .i64 c) ∧ P w') ∧ ∀ Y, P Y → Kp X0 X Y ∧ Calls Try.prog 25 #[.pointer (some ⟨m, 0, none⟩), .agg #[.int .u8 (y.i : Nat), .int .u8 y.x.ow, .int .u16 y.x.rt, .bool y.x.jl, .int .u64 y.x.t0, .int .u64 y.x.t1, .int .u64 y.x.t2, .int .u64 y.x.t3, .int .u64 y.x.s0, .int .u64 y.x.s1, .int .u64 y.x.s2, .int .u64 y.x.s3, .slice y.a1 y.n1 y.c1, .slice y.a2 y.n2 y.c2]] Y fun e w' => e = .returned (.int .i64 c) ∧ Kp X0 X w' ∧ ∃ V' D', PP w w' s m V' D' (n + 1) := by
  have hPX := h0.below hX0
  obtain ⟨A, L, base, B, base', vv, vd, M, N, h1, h2, h3, h4, h5, h6, h7, h8⟩ := h0
  have hfA := fun k hk => (h1.foot k hk).2
  have hfB := fun k hk => (h3.foot k hk).2
  have hD := h1.below hX0
  have hS := h3.below hX0
  have hw := bt h7 hX0
  have hMl : M.length = V.length := by rw [← h4, List.length_map]
  have hvl := h2.vlen
  obtain ⟨hi, hx, -, -, l1, l2⟩ := hy
  obtain ⟨i, x, a1, n1, c1, a2, n2, c2⟩ := y
  simp only at hi hx l1 l2 ⊢
  cases hm : mayB x.ow x.rt x.ix x.er
  · obtain ⟨i1, rfl⟩ := l1
    obtain ⟨i2, rfl⟩ := l2
    refine ⟨1, fun Y => Below X.heap.size X Y, setVal_bad hx (i1.below hw) (i2.below hw) _ (.inr hm), fun Y hY => ⟨Kp.below hY, ?_⟩⟩
    refine (setV11_bad hx (i1.below (bt hw hY)) (i2.below (bt hw hY)) _ hm).mono ?_
    rintro e w' ⟨rfl, hb⟩
    exact ⟨rfl, Kp.below (bt hY hb), V, D, (hPX.below (bt hY hb)).up (by omega)⟩
  · have hok := hx.ok hm
    obtain ⟨rfl, i1, o1⟩ := co_small l1 hw hok.ir
    obtain ⟨rfl, i2, o2⟩ := co_small l2 hw hok.er
    by_cases hlt : i < V.length
    · refine ⟨0, fun Y => ∃ A' L', StD Y s base A' L' [] (n + 1) ∧ PoL L' (V.set i x) D ∧ Fr X Y A A', (setVal_any hD h2 (by omega) hi hx hm i1 i2).mono ?_, ?_⟩
      · rintro e w' (⟨-, rfl, A', L', q1, q2, -, q4⟩ | ⟨e1, -⟩)
        · exact ⟨rfl, A', L', q1, q2, q4⟩
        · omega
      · rintro Y ⟨A', L', q1, q2, f1⟩
        have hY : ∀ k, k < w.heap.size → Y.heap[k]? = X.heap[k]? := fun k hk => f1.block k (by have := hS.los; omega) (fun hA => by have := (h1.foot k hA).1; omega)
        refine ⟨Kp.fr f1 hfA, (setV11_any (rst_over hS h6 (fun k hk => Nat.le_trans h8 (h1.foot k hk).1) f1) (by omega) hi hx hm ⟨lo_keep i1 o1 hY f1.size, lo_keep i2 o2 hY f1.size, o1, o2⟩).mono ?_⟩
        rintro e w' (⟨-, rfl, B', vv', r1, g1⟩ | ⟨e1, -⟩)
        · exact ⟨rfl, (Kp.fr f1 hfA).trans (Kp.fr g1 hfB) f1.size, _, _, pp_step hS h6 hw h8 (fun k hk => hD.foot k hk) q1 q2 f1 r1 g1 (by rw [List.map_set, h4]) h5⟩
        · omega
    · refine ⟨5, fun Y => Below X.heap.size X Y, (setVal_any hD h2 (by omega) hi hx hm i1 i2).mono ?_, fun Y hY => ⟨Kp.below hY, ?_⟩⟩
      · rintro e w' (⟨e1, -⟩ | ⟨-, rfl, q⟩)
        · omega
        · exact ⟨rfl, q⟩
      · refine (setV11_any (hS.below hY) (by omega) hi hx hm ⟨i1.below hY, i2.below hY, o1, o2⟩).mono ?_
        rintro e w' (⟨e1, -⟩ | ⟨-, rfl, hb⟩)
        · omega
        · exact ⟨rfl, Kp.below (bt hY hb), V, D, (hPX.below (bt hY hb)).up (by omega)⟩
theorem two_setD {X0 : World} (h0 : PP w X0 s m V D n) (hn : n ≤ 800) (hX0 : Below X0.heap.size X0 X) {y : Pda} (hy : PdaIn w y) :
    ∃ (c : Int) (P : World → Prop), Calls Try.prog 17 #[.pointer (some ⟨s, 0, none⟩), .agg #[.int .u8 (y.d.ow : Nat), .int .u8 (y.d.va : Nat), .int .u64 y.d.s0, .int .u64 y.d.s1, .int .u64 y.d.s2, .int .u64 y.d.s3, .slice y.a1 y.n1 y.c1]] X (fun e w' => e = .returned (.int .i64 c) ∧ P w') ∧ ∀ Y, P Y → Kp X0 X Y ∧ Calls Try.prog 26 #[.pointer (some ⟨m, 0, none⟩), .agg #[.int .u8 (y.d.ow : Nat), .int .u8 (y.d.va : Nat), .int .u64 y.d.s0, .int .u64 y.d.s1, .int .u64 y.d.s2, .int .u64 y.d.s3, .slice y.a1 y.n1 y.c1]] Y fun e w' => e = .returned (.int .i64 c) ∧ Kp X0 X w' ∧ ∃ V' D', PP w w' s m V' D' (n + 1) := by
  have hPX := h0.below hX0
  obtain ⟨A, L, base, B, base', vv, vd, M, N, h1, h2, h3, h4, h5, h6, h7, h8⟩ := h0
  have hfA := fun k hk => (h1.foot k hk).2
  have hfB := fun k hk => (h3.foot k hk).2
  have hD := h1.below hX0
  have hS := h3.below hX0
  have hw := bt h7 hX0
  have hMl : M.length = V.length := by rw [← h4, List.length_map]
  have hNl : N.length = D.length := by rw [← h5, List.length_map]
  have hdl := h2.dlen
  have hll := h1.llen
  have hvl := h2.vlen
  obtain ⟨hx, -, l1⟩ := hy
  obtain ⟨x, a1, n1, c1⟩ := y
  simp only at hx l1 ⊢
  by_cases hm : x.ow < 200 ∧ rightFrom 0 x.ix = true
  · obtain ⟨hm, hr⟩ := hm
    obtain ⟨rfl, i1, o1⟩ := co_small l1 hw hr
    by_cases hlt : x.va < V.length
    · refine ⟨0, fun Y => ∃ A' L', StD Y s base A' L' [] (n + 1) ∧ PoL L' V (setD D x) ∧ Fr X Y A A', (setDg_any hD h2 (by omega) hx hm hr i1).mono ?_, ?_⟩
      · rintro e w' (⟨-, rfl, A', L', q1, q2, -, q4⟩ | ⟨e1, -⟩)
        · exact ⟨rfl, A', L', q1, q2, q4⟩
        · omega
      · rintro Y ⟨A', L', q1, q2, f1⟩
        have hY : ∀ k, k < w.heap.size → Y.heap[k]? = X.heap[k]? := fun k hk => f1.block k (by have := hS.los; omega) (fun hA => by have := (h1.foot k hA).1; omega)
        refine ⟨Kp.fr f1 hfA, (setD11_any (rst_over hS h6 (fun k hk => Nat.le_trans h8 (h1.foot k hk).1) f1) (by omega) (by omega) hx hm hr ⟨lo_keep i1 o1 hY f1.size, o1⟩ (by omega)).mono ?_⟩
        rintro e w' ⟨rfl, B', vd', r1, g1⟩
        refine ⟨rfl, (Kp.fr f1 hfA).trans (Kp.fr g1 hfB) f1.size, _, _, pp_step hS h6 hw h8 (fun k hk => hD.foot k hk) q1 q2 f1 r1 g1 h4 ?_⟩
        unfold setD
        cases hz : eq4 x.s0 x.s1 x.s2 x.s3 0 0 0 0
        · rw [setGo_false (fun y : Dx => y.d) _ N (by rw [h5]; exact h2.dsrt), h5]; rfl
        · rw [setGo_true (fun y : Dx => y.d), h5]; rfl
    · refine ⟨5, fun Y => Below X.heap.size X Y, (setDg_any hD h2 (by omega) hx hm hr i1).mono ?_, fun Y hY => ⟨Kp.below hY, ?_⟩⟩
      · rintro e w' (⟨e1, -⟩ | ⟨-, rfl, q⟩)
        · omega
        · exact ⟨rfl, q⟩
      · refine (setD11_none (hS.below hY) (by omega) hx hm hr (i1.below hY) (by omega)).mono ?_
        rintro e w' ⟨rfl, hb⟩
        exact ⟨rfl, Kp.below (bt hY hb), V, D, (hPX.below (bt hY hb)).up (by omega)⟩
  · have hm' : 200 ≤ x.ow ∨ rightFrom 0 x.ix = false := by
      by_cases h1 : x.ow < 200
      · right; cases hr : rightFrom 0 x.ix; rfl; exact absurd ⟨h1, hr⟩ hm
      · left; omega
    obtain ⟨i1, rfl⟩ := l1
    refine ⟨1, fun Y => Below X.heap.size X Y, setDg_bad hx (i1.below hw) _ (.inr hm'), fun Y hY => ⟨Kp.below hY, ?_⟩⟩
    refine (setD11_bad hx (i1.below (bt hw hY)) _ hm').mono ?_
    rintro e w' ⟨rfl, hb⟩
    exact ⟨rfl, Kp.below (bt hY hb), V, D, (hPX.below (bt hY hb)).up (by omega)⟩
/-- An empty state in memory. -/
theorem rst_new (W : World) (lo : Nat) (hlo : lo ≤ W.heap.size) : RSt (W.alloc (.cells #[.int .u64 0, .slice none 0 0, .slice none 0 0, .slice none 0 0, .slice none 0 0, .slice none 0 0, .slice none 0 0, .slice none 0 0] 37)) W.heap.size lo W.heap.size (fun k => k = W.heap.size) (.int .u64 0) (.slice none 0 0) (.slice none 0 0) (.slice none 0 0) (.slice none 0 0) (.slice none 0 0) (.slice none 0 0) (.slice none 0 0) [] [] := by
  refine ⟨al_at rfl, rfl, World.ownsRow_nil _ _ _ _, World.ownsRow_nil _ _ _ _, rfl, by simp [Value.ownBlock], by simp [Value.ownBlock], by simp, by simp, fun k hk => ?_, hlo⟩
  have e : k = W.heap.size := hk
  subst e
  exact ⟨Nat.le_refl _, by simp⟩
theorem pp_new (hX : Below w.heap.size w X) (h : StD Y X.heap.size X.heap.size (fun k => k = X.heap.size) [] [] 0) (hb : Below X.heap.size X Y) : PP w (Y.alloc (.cells #[.int .u64 0, .slice none 0 0, .slice none 0 0, .slice none 0 0, .slice none 0 0, .slice none 0 0, .slice none 0 0, .slice none 0 0] 37)) X.heap.size Y.heap.size [] [] 0 := by
  have hlt := (h.foot X.heap.size rfl).2
  refine ⟨_, _, _, _, _, _, _, [], [], h.below (ba (Below.refl _ _) _), PoL.new, rst_new Y w.heap.size (Nat.le_trans hX.size hb.size), rfl, rfl, fun k hk hk2 => ?_, bt hX (bt hb (ba (Below.refl _ _) _)), hX.size⟩
  have e1 : k = X.heap.size := hk
  have e2 : k = Y.heap.size := hk2
  omega
end
end Go.Proofs.Ytafcianpajheiaa

/- pool: of no store. -/
namespace Go.Proofs.Ytafcianpajheiaa
open Go.RowKit

section
variable {W : World}
set_option maxHeartbeats 4000000 in
theorem add_nil11 (ow rt : Int) (W : World) : Calls Try.prog 15 #[.pointer none, .int .u8 ow, .int .u16 rt] W fun e w' => e = .returned (.tuple #[.int .u8 0, .int .i64 1]) ∧ Below W.heap.size W w' := by
  go_enter Try.func15, Try.ntmps15
  go_wp2
  go_ret2
  exact ⟨rfl, by (repeat (first | (with_reducible exact Below.refl _ _) | (with_reducible assumption) | (with_reducible apply bd) | (with_reducible apply ba) | (with_reducible refine bp ?_ (by first | omega | (simp [pad_size]; done) | (simp [pad_size]; omega)) _ _) | (with_reducible refine bs ?_ (by first | omega | (simp [pad_size]; done) | (simp [pad_size]; omega)) _) | (with_reducible refine bt ?_ (by assumption))))⟩
set_option maxHeartbeats 4000000 in
theorem val_nil11 {i : Nat} (hi : i ≤ 255) (W : World) : Calls Try.prog 18 #[.pointer none, .int .u8 i] W fun e w' => e = .returned (.tuple #[.agg #[.int .u8 0, .int .u8 0, .int .u16 0, .bool false, .int .u64 0, .int .u64 0, .int .u64 0, .int .u64 0, .int .u64 0, .int .u64 0, .int .u64 0, .int .u64 0, .slice none 0 0, .slice none 0 0], .bool false]) ∧ Below W.heap.size W w' := by
  have hA0 : (W.alloc (.cells #[.int .u8 0, .int .u8 0, .int .u16 0, .bool false, .int .u64 0, .int .u64 0, .int .u64 0, .int .u64 0, .int .u64 0, .int .u64 0, .int .u64 0, .int .u64 0, .slice none 0 0, .slice none 0 0] 43)).heap[W.heap.size]? = some (.cells #[.int .u8 0, .int .u8 0, .int .u16 0, .bool false, .int .u64 0, .int .u64 0, .int .u64 0, .int .u64 0, .int .u64 0, .int .u64 0, .int .u64 0, .int .u64 0, .slice none 0 0, .slice none 0 0] 43 (0, 0)) := al_at rfl
  go_enter Try.func18, Try.ntmps18
  go_wp2_with (first
    | (go_at_call 40; refine (ofVal_any i _).mono ?_; rintro e w1 ⟨cap, g, rfl, hsrc, hg1, hg2, hb1⟩; have hB1 : Below W.heap.size W w1 := bt (by (repeat (first | (with_reducible exact Below.refl _ _) | (with_reducible assumption) | (with_reducible apply bd) | (with_reducible apply ba) | (with_reducible refine bp ?_ (by first | omega | (simp [pad_size]; done) | (simp [pad_size]; omega)) _ _) | (with_reducible refine bs ?_ (by first | omega | (simp [pad_size]; done) | (simp [pad_size]; omega)) _) | (with_reducible refine bt ?_ (by assumption))))) hb1; have q1 := (hb1.block W.heap.size (by simp)).trans hA0)
    | (go_at_call 39; refine (get_nil hsrc (byte_kv hi)).mono ?_; rintro e w2 ⟨rfl, hb2⟩; have hB2 := bt hB1 hb2; have q2 := (hb2.block W.heap.size (Array.getElem?_eq_some_iff.1 q1).1).trans q1; have z2 := (Array.getElem?_eq_some_iff.1 q2).1; obtain ⟨e2, f2⟩ := cells_of_block q2))
  refine bodyPost_ret (v := .tuple #[.agg #[.int .u8 0, .int .u8 0, .int .u16 0, .bool false, .int .u64 0, .int .u64 0, .int .u64 0, .int .u64 0, .int .u64 0, .int .u64 0, .int .u64 0, .int .u64 0, .slice none 0 0, .slice none 0 0], .bool false]) (by simp only [results, Try.results18]; go_simp) rfl ⟨rfl, ?_⟩
  refine below_grown hB2 ?_ (Nat.le_refl _)
  repeat (first | (with_reducible exact grown_ref _ _) | (with_reducible apply grown_se))
set_option maxHeartbeats 4000000 in
theorem get_nil11 {a b : Nat} (ha : a ≤ 255) (hb : b ≤ 255) (W : World) : Calls Try.prog 19 #[.pointer none, .int .u8 a, .int .u8 b] W fun e w' => e = .returned (.tuple #[.agg #[.int .u8 0, .int .u8 0, .int .u64 0, .int .u64 0, .int .u64 0, .int .u64 0, .slice none 0 0], .bool false]) ∧ Below W.heap.size W w' := by
  have hA0 : (W.alloc (.cells #[.int .u8 0, .int .u8 0, .int .u64 0, .int .u64 0, .int .u64 0, .int .u64 0, .slice none 0 0] 45)).heap[W.heap.size]? = some (.cells #[.int .u8 0, .int .u8 0, .int .u64 0, .int .u64 0, .int .u64 0, .int .u64 0, .slice none 0 0] 45 (0, 0)) := al_at rfl
  go_enter Try.func19, Try.ntmps19
  go_wp2_with (first
    | (go_at_call 28; refine (of2 (a := a) (b := b) (al_at (by simp))).mono ?_; rintro e w1 ⟨cap, g, rfl, hsrc, hg1, hg2, hb1⟩; have hB1 : Below W.heap.size W w1 := bt (by (repeat (first | (with_reducible exact Below.refl _ _) | (with_reducible assumption) | (with_reducible apply bd) | (with_reducible apply ba) | (with_reducible refine bp ?_ (by first | omega | (simp [pad_size]; done) | (simp [pad_size]; omega)) _ _) | (with_reducible refine bs ?_ (by first | omega | (simp [pad_size]; done) | (simp [pad_size]; omega)) _) | (with_reducible refine bt ?_ (by assumption))))) hb1; have q1 := (hb1.block W.heap.size (by simp; omega)).trans ((al_old (by simp)).trans hA0))
    | (go_at_call 39; refine (get_nil hsrc (byte_kd ha hb)).mono ?_; rintro e w2 ⟨rfl, hb2⟩; have hB2 := bt hB1 hb2; have q2 := (hb2.block W.heap.size (Array.getElem?_eq_some_iff.1 q1).1).trans q1; have z2 := (Array.getElem?_eq_some_iff.1 q2).1; obtain ⟨e2, f2⟩ := cells_of_block q2))
  refine bodyPost_ret (v := .tuple #[.agg #[.int .u8 0, .int .u8 0, .int .u64 0, .int .u64 0, .int .u64 0, .int .u64 0, .slice none 0 0], .bool false]) (by simp only [results, Try.results19]; go_simp) rfl ⟨rfl, ?_⟩
  refine below_grown hB2 ?_ (Nat.le_refl _)
  repeat (first | (with_reducible exact grown_ref _ _) | (with_reducible apply grown_se))
set_option maxHeartbeats 4000000 in
theorem vals_nil11 (W : World) : Calls Try.prog 22 #[.pointer none] W fun e w' => e = .returned (.slice none 0 0) ∧ Below W.heap.size W w' := by
  go_enter Try.func22, Try.ntmps22
  go_wp2
  go_loopw [3, 7] (fun v3 v7 X => ∃ j : Nat, j ≤ 16 ∧ v7 = .int .u8 (j : Int) ∧ v3 = .slice none 0 0 ∧ Below W.heap.size W X) (fun _ v7 _ => 16 - (intOf v7).toNat)
  case atStart => exact ⟨0, by omega, rfl, rfl, Below.refl _ _⟩
  case round =>
    obtain ⟨j, hj, rfl, rfl, hX⟩ := hrel
    by_cases hj16 : j < 16
    · have hj' : (j : Int) < 16 := by omega
      have hwr : IntKind.u8.wrap ((j : Int) + 1) = ((j + 1 : Nat) : Int) := by rw [IntKind.wrap_u8]; omega
      go_wp2_with (go_at_call 18; refine (val_nil11 (i := j) (by omega) _).mono ?_; rintro e w1 ⟨rfl, hb1⟩)
      all_goals go_roundw
      case rel => exact ⟨j + 1, by omega, by go_num, rfl, bt hX (by (repeat (first | (with_reducible exact Below.refl _ _) | (with_reducible assumption) | (with_reducible apply bd) | (with_reducible apply ba) | (with_reducible refine bp ?_ (by first | omega | (simp [pad_size]; done) | (simp [pad_size]; omega)) _ _) | (with_reducible refine bs ?_ (by first | omega | (simp [pad_size]; done) | (simp [pad_size]; omega)) _) | (with_reducible refine bt ?_ (by assumption)))))⟩
      case measure => (simp [intOf] <;> omega)
    · obtain rfl : j = 16 := by omega
      go_wp2
      go_ret
      exact ⟨rfl, hX⟩
set_option maxHeartbeats 4000000 in
theorem told_nil11 {u : Value} {p : List Int} (hu : Src W u p) (hp : Byte p) : Calls Try.prog 27 #[.pointer none, u] W fun e w' => e = .returned (.slice none 0 0) ∧ Below W.heap.size W w' := by
  have hK := keys_nil hu hp
  obtain ⟨su, cu, rfl, -⟩ := hu.parts
  go_enter Try.func27, Try.ntmps27
  go_wp2_with (go_at_call 48; refine hK.mono ?_; rintro e w1 ⟨rfl, hb1⟩)
  apply wp_loop_rounds 1
  simp only [Code.rounds]
  go_wp2
  go_ret
  exact ⟨rfl, hb1⟩
set_option maxHeartbeats 4000000 in
theorem all_nil11 (W : World) : Calls Try.prog 23 #[.pointer none] W fun e w' => e = .returned (.slice none 0 0) ∧ Below W.heap.size W w' := by
  go_enter Try.func23, Try.ntmps23
  go_wp2_with (first
    | (go_at_call 28; refine (of_none _).mono ?_; rintro e w1 ⟨cap, g, rfl, hsrc, hg1, hg2, hb1⟩)
    | (go_at_call 27; refine (told_nil11 hsrc byte_hasP).mono ?_; rintro e w2 ⟨rfl, hb2⟩))
  go_ret
  exact ⟨rfl, bt hb1 hb2⟩
set_option maxHeartbeats 4000000 in
theorem of_nil11 {o : Nat} (ho : o ≤ 255) (W : World) : Calls Try.prog 13 #[.pointer none, .int .u8 o] W fun e w' => e = .returned (.slice none 0 0) ∧ Below W.heap.size W w' := by
  go_enter Try.func13, Try.ntmps13
  go_wp2_with (first
    | (go_at_call 28; refine (of1 (a := o) (al_at rfl)).mono ?_; rintro e w1 ⟨cap, g, rfl, hsrc, hg1, hg2, hb1⟩; have hB1 : Below W.heap.size W w1 := bt (by (repeat (first | (with_reducible exact Below.refl _ _) | (with_reducible assumption) | (with_reducible apply bd) | (with_reducible apply ba) | (with_reducible refine bp ?_ (by first | omega | (simp [pad_size]; done) | (simp [pad_size]; omega)) _ _) | (with_reducible refine bs ?_ (by first | omega | (simp [pad_size]; done) | (simp [pad_size]; omega)) _) | (with_reducible refine bt ?_ (by assumption))))) hb1)
    | (go_at_call 27; refine (told_nil11 hsrc (byte_app byte_hasP (byte_one (by omega)))).mono ?_; rintro e w2 ⟨rfl, hb2⟩))
  go_ret
  exact ⟨rfl, bt hB1 hb2⟩
end
end Go.Proofs.Ytafcianpajheiaa

/- pool: the law's few and does. -/
namespace Go.Proofs.Ytafcianpajheiaa
open Go.ChangeShapes Go.WideShapes Go.ChangeAt Go.RowKit

/-- How many coins a deed has, as the law reckons it. -/
def sum3 (a b c : Nat) : Int := wrap64 (wrap64 ((a : Int) + (b : Int)) + (c : Int))
def fewP (l : List Pact) : Bool := decide (l.length ≤ 30) && l.all (fun y => decide (¬ 30 < sum3 y.v.n1 y.v.n2 y.d.n1))
theorem pac_at {w X : World} {a : Option Addr} {len : Nat} {l : List Pact} (h : PasIn w a len l) (hX : Below w.heap.size w X) {i : Nat} (hi : i < l.length) : ∃ blk off, a = some ⟨blk, off, none⟩ ∧ blk < w.heap.size ∧ ∀ j v, (paC l[i])[j]? = some v → X.cell? ⟨blk, off + i * 22 + j, none⟩ = some v := by
  obtain ⟨h1, h2, h3⟩ := h
  obtain ⟨blk, off, rfl, hb, hcell⟩ := h3.resolve_left (by omega)
  exact ⟨blk, off, rfl, hb, fun j v hj => (hX.cell (p := ⟨blk, off + i * 22 + j, none⟩) hb).trans (hcell i l[i] (List.getElem?_eq_getElem hi) j v hj)⟩
set_option maxHeartbeats 4000000 in
theorem few11_any {w : World} {a : Option Addr} {len cap : Nat} {l : List Pact} (hm : len ≤ 9223372036854775807) (h : PasIn w a len l) (W : World) (hB : Below w.heap.size w W) :
    Calls Try.prog 9 #[.slice a len cap] W fun e w' => e = .returned (.bool (fewP l)) ∧ Below W.heap.size W w' := by
  have hl := h.num
  by_cases h40 : 30 < len
  · have h' : (30 : Int) < (len : Int) := by omega
    have e : fewP l = false := by simp [fewP]; omega
    rw [e]
    go_enter Try.func9, Try.ntmps9
    go_wp2
    go_ret
    exact ⟨rfl, Below.refl _ _⟩
  · have h' : ¬ (30 : Int) < (len : Int) := by omega
    go_enter Try.func9, Try.ntmps9
    go_wp2
    go_loopw [3] (fun i X => ∃ (k : Nat), k ≤ len ∧ i = .int .i64 (k : Int) ∧ (∀ y ∈ l.take k, ¬ 30 < sum3 y.v.n1 y.v.n2 y.d.n1) ∧ Below W.heap.size W X) (fun i _ => len - (intOf i).toNat)
    case atStart => exact ⟨0, by omega, rfl, by simp, Below.refl _ _⟩
    case round =>
      obtain ⟨k, hk, rfl, hall, hX⟩ := hrel
      by_cases hlt : k < len
      · have hkl : k < l.length := by omega
        obtain ⟨blk, off, rfl, hb, hc⟩ := pac_at h (bt hB hX) hkl
        have c13 := hc 13 _ rfl
        have c14 := hc 14 _ rfl
        have c21 := hc 21 _ rfl
        have htk : Hid (∀ z, sum3 l[k].v.n1 l[k].v.n2 l[k].d.n1 = z → ¬ 30 < z → ∀ y ∈ l.take (k + 1), ¬ 30 < sum3 y.v.n1 y.v.n2 y.d.n1) := by
          intro z hn hn2 y hy
          rw [List.take_succ_eq_append_getElem hkl] at hy
          rcases List.mem_append.1 hy with hy | hy
          · exact hall y hy
          · rw [List.mem_singleton] at hy; rw [hy, hn]; exact hn2
        have hno : Hid (∀ z, sum3 l[k].v.n1 l[k].v.n2 l[k].d.n1 = z → 30 < z → fewP l = false) := by
          intro z hn hn2
          simp only [fewP, Bool.and_eq_false_iff]
          right
          rw [List.all_eq_false]
          refine ⟨l[k], List.getElem_mem hkl, ?_⟩
          rw [hn]; simp; omega
        generalize l[k] = y at *
        obtain ⟨yk, ⟨i, x, a1, n1, c1, a2, n2, c2⟩, ⟨d, a3, n3, c3⟩⟩ := y
        simp only at c13 c14 c21 htk hno
        have hlt' : (k : Int) < (len : Int) := by omega
        clear hall hc
        by_cases hn2 : 30 < sum3 n1 n2 n3
        · have e : Hid (fewP l = false) := hno.out _ rfl hn2
          unfold sum3 at hn2
          clear hno htk
          go_wp2
          go_quiet (fail)
          go_wp2
          go_ret
          exact ⟨congrArg (fun b => Ending.returned (.bool b)) e.out.symm, bt hX (bdn _ _)⟩
        · have htk' : Hid _ := htk.out _ rfl hn2
          unfold sum3 at hn2
          clear htk hno
          go_wp2
          go_quiet (fail)
          go_wp2
          all_goals go_roundw
          case rel => exact ⟨k + 1, by omega, by go_num, fun y hy => (by have := htk'.out y hy; omega), bt hX (bdn _ _)⟩
          case measure => (simp [intOf]; omega)
      · obtain rfl : k = len := by omega
        rw [List.take_of_length_le (by omega)] at hall
        have e : Hid (fewP l = true) := by
          unfold Hid
          simp only [fewP, Bool.and_eq_true, decide_eq_true_eq, List.all_eq_true]
          exact ⟨by omega, hall⟩
        go_wp2
        go_ret
        exact ⟨congrArg (fun b => Ending.returned (.bool b)) e.out.symm, hX⟩
set_option maxRecDepth 20000 in
set_option maxHeartbeats 8000000 in
theorem does11_any {w X : World} {s m n : Nat} {V : List Vd} {D : List Dg} (h : PP w X s m V D n) (hn : n ≤ 800) {y : Pact} (hy : PactIn w y) :
    Calls Try.prog 11 #[.pointer (some ⟨s, 0, none⟩), .pointer (some ⟨m, 0, none⟩), .agg #[.int .u8 y.k, .int .u8 (y.v.i : Nat), .int .u8 y.v.x.ow, .int .u16 y.v.x.rt, .bool y.v.x.jl, .int .u64 y.v.x.t0, .int .u64 y.v.x.t1, .int .u64 y.v.x.t2, .int .u64 y.v.x.t3, .int .u64 y.v.x.s0, .int .u64 y.v.x.s1, .int .u64 y.v.x.s2, .int .u64 y.v.x.s3, .slice y.v.a1 y.v.n1 y.v.c1, .slice y.v.a2 y.v.n2 y.v.c2, .int .u8 (y.d.d.ow : Nat), .int .u8 (y.d.d.va : Nat), .int .u64 y.d.d.s0, .int .u64 y.d.d.s1, .int .u64 y.d.d.s2, .int .u64 y.d.d.s3, .slice y.d.a1 y.d.n1 y.d.c1]] X fun e w' => e = .returned (.bool true) ∧ ∃ V' D', PP w w' s m V' D' (n + 1) := by
  obtain ⟨⟨hk0, hk1⟩, hv, hd⟩ := hy
  have hTA := fun (Z : World) (hZ : Below X.heap.size X Z) => two_add h hn hZ hv.x.ow.1 hv.x.rt.1
  have hTV := fun (Z : World) (hZ : Below X.heap.size X Z) => two_setV h hn hZ hv
  have hTD := fun (Z : World) (hZ : Below X.heap.size X Z) => two_setD h hn hZ hd
  clear h hv hd
  obtain ⟨k, ⟨i, ⟨ow, rt, jl, t0, t1, t2, t3, s0, s1, s2, s3, ix, er⟩, a1, n1, c1, a2, n2, c2⟩, ⟨⟨o, v, r0, r1, r2, r3, jx⟩, a3, n3, c3⟩⟩ := y
  simp only at hTA hTV hTD hk0 hk1 ⊢
  generalize (i : Int) = i at *
  generalize (o : Int) = o at *
  generalize (v : Int) = v at *
  replace hTA : Hid _ := hTA
  replace hTV : Hid _ := hTV
  replace hTD : Hid _ := hTD
  obtain ⟨j, hj⟩ : ∃ j : Nat, k % 4 = (j : Int) := ⟨(k % 4).toNat, by omega⟩
  have hj4 : j < 4 := by omega
  have hjm : k.tmod 4 = (j : Int) := by rw [Int.tmod_eq_emod_of_nonneg hk0, hj]
  have hA0 : (X.alloc (.cells #[.int .u8 k, .int .u8 i, .int .u8 ow, .int .u16 rt, .bool jl, .int .u64 t0, .int .u64 t1, .int .u64 t2, .int .u64 t3, .int .u64 s0, .int .u64 s1, .int .u64 s2, .int .u64 s3, .slice a1 n1 c1, .slice a2 n2 c2, .int .u8 o, .int .u8 v, .int .u64 r0, .int .u64 r1, .int .u64 r2, .int .u64 r3, .slice a3 n3 c3] 47)).heap[X.heap.size]? = some (.cells #[.int .u8 k, .int .u8 i, .int .u8 ow, .int .u16 rt, .bool jl, .int .u64 t0, .int .u64 t1, .int .u64 t2, .int .u64 t3, .int .u64 s0, .int .u64 s1, .int .u64 s2, .int .u64 s3, .slice a1 n1 c1, .slice a2 n2 c2, .int .u8 o, .int .u8 v, .int .u64 r0, .int .u64 r1, .int .u64 r2, .int .u64 r3, .slice a3 n3 c3] 47 (0, 0)) := al_at rfl
  clear hj hk0 hk1
  have walk : ∀ j : Nat, k.tmod 4 = (j : Int) → j < 4 → Calls Try.prog 11 #[.pointer (some ⟨s, 0, none⟩), .pointer (some ⟨m, 0, none⟩), .agg #[.int .u8 k, .int .u8 i, .int .u8 ow, .int .u16 rt, .bool jl, .int .u64 t0, .int .u64 t1, .int .u64 t2, .int .u64 t3, .int .u64 s0, .int .u64 s1, .int .u64 s2, .int .u64 s3, .slice a1 n1 c1, .slice a2 n2 c2, .int .u8 o, .int .u8 v, .int .u64 r0, .int .u64 r1, .int .u64 r2, .int .u64 r3, .slice a3 n3 c3]] X fun e w' => e = .returned (.bool true) ∧ ∃ V' D', PP w w' s m V' D' (n + 1) := by
    clear hjm hj4 j
    intro j hjm hj4
    rcases (show j = 0 ∨ j = 1 ∨ j = 2 ∨ j = 3 by omega) with rfl | rfl | rfl | rfl
    · clear hTV hTD
      obtain ⟨a, c, P, hS, hR⟩ := hTA.out _ (ba (Below.refl _ _) (.cells #[.int .u8 k, .int .u8 i, .int .u8 ow, .int .u16 rt, .bool jl, .int .u64 t0, .int .u64 t1, .int .u64 t2, .int .u64 t3, .int .u64 s0, .int .u64 s1, .int .u64 s2, .int .u64 s3, .slice a1 n1 c1, .slice a2 n2 c2, .int .u8 o, .int .u8 v, .int .u64 r0, .int .u64 r1, .int .u64 r2, .int .u64 r3, .slice a3 n3 c3] 47))
      go_enter Try.func11, Try.ntmps11
      go_wp2_with (first
        | (go_at_call 15; refine hS.mono ?_; clear hS; rintro e w5 ⟨rfl, hP5⟩; obtain ⟨k5, hR5⟩ := hR _ hP5; clear hR; have q5 := (k5 X.heap.size (Nat.le_refl _) (by simp)).trans hA0; obtain ⟨e5, f5⟩ := cells_of_block q5)
        | (go_at_call 24; refine hR5.mono ?_; clear hR5; rintro e w6 ⟨rfl, k6, hQ⟩))
      go_ret
      exact ⟨rfl, hQ⟩
    · clear hTA hTD
      obtain ⟨c, P, hS, hR⟩ := hTV.out _ (bd (ba (Below.refl _ _) (.cells #[.int .u8 k, .int .u8 i, .int .u8 ow, .int .u16 rt, .bool jl, .int .u64 t0, .int .u64 t1, .int .u64 t2, .int .u64 t3, .int .u64 s0, .int .u64 s1, .int .u64 s2, .int .u64 s3, .slice a1 n1 c1, .slice a2 n2 c2, .int .u8 o, .int .u8 v, .int .u64 r0, .int .u64 r1, .int .u64 r2, .int .u64 r3, .slice a3 n3 c3] 47)))
      go_enter Try.func11, Try.ntmps11
      go_upto_region 7 with fail
      go_region_held2 (fun Z => Z.cell? ⟨X.heap.size, 1, none⟩ = some (.int .u8 i) ∧ Z.cell? ⟨X.heap.size, 2, none⟩ = some (.int .u8 ow) ∧ Z.cell? ⟨X.heap.size, 3, none⟩ = some (.int .u16 rt) ∧ Z.cell? ⟨X.heap.size, 4, none⟩ = some (.bool jl) ∧ Z.cell? ⟨X.heap.size, 5, none⟩ = some (.int .u64 t0) ∧ Z.cell? ⟨X.heap.size, 6, none⟩ = some (.int .u64 t1) ∧ Z.cell? ⟨X.heap.size, 7, none⟩ = some (.int .u64 t2) ∧ Z.cell? ⟨X.heap.size, 8, none⟩ = some (.int .u64 t3) ∧ Z.cell? ⟨X.heap.size, 9, none⟩ = some (.int .u64 s0) ∧ Z.cell? ⟨X.heap.size, 10, none⟩ = some (.int .u64 s1) ∧ Z.cell? ⟨X.heap.size, 11, none⟩ = some (.int .u64 s2) ∧ Z.cell? ⟨X.heap.size, 12, none⟩ = some (.int .u64 s3) ∧ Z.cell? ⟨X.heap.size, 13, none⟩ = some (.slice a1 n1 c1) ∧ Z.cell? ⟨X.heap.size, 14, none⟩ = some (.slice a2 n2 c2)) (first | (with_reducible assumption) | (go_simp)) (first
        | (go_at_call 16; refine hS.mono ?_; clear hS; rintro e w5 ⟨rfl, hP5⟩; obtain ⟨k5, hR5⟩ := hR _ hP5; clear hR; have q5 := (k5 X.heap.size (Nat.le_refl _) (by simp)).trans hA0; obtain ⟨e5, f5⟩ := cells_of_block q5)
        | (go_at_call 25; refine hR5.mono ?_; clear hR5; rintro e w6 ⟨rfl, k6, hQ⟩; have q6 := (k6 X.heap.size (Nat.le_refl _) (by simp)).trans hA0; obtain ⟨e6, f6⟩ := cells_of_block q6))
      all_goals go_wp2
      all_goals go_ret
      all_goals exact ⟨rfl, hQ⟩
    · clear hTA hTV
      obtain ⟨c, P, hS, hR⟩ := hTD.out _ (bd (ba (Below.refl _ _) (.cells #[.int .u8 k, .int .u8 i, .int .u8 ow, .int .u16 rt, .bool jl, .int .u64 t0, .int .u64 t1, .int .u64 t2, .int .u64 t3, .int .u64 s0, .int .u64 s1, .int .u64 s2, .int .u64 s3, .slice a1 n1 c1, .slice a2 n2 c2, .int .u8 o, .int .u8 v, .int .u64 r0, .int .u64 r1, .int .u64 r2, .int .u64 r3, .slice a3 n3 c3] 47)))
      go_enter Try.func11, Try.ntmps11
      go_upto_region 8 with fail
      go_region_held2 (fun Z => Z.cell? ⟨X.heap.size, 15, none⟩ = some (.int .u8 o) ∧ Z.cell? ⟨X.heap.size, 16, none⟩ = some (.int .u8 v) ∧ Z.cell? ⟨X.heap.size, 17, none⟩ = some (.int .u64 r0) ∧ Z.cell? ⟨X.heap.size, 18, none⟩ = some (.int .u64 r1) ∧ Z.cell? ⟨X.heap.size, 19, none⟩ = some (.int .u64 r2) ∧ Z.cell? ⟨X.heap.size, 20, none⟩ = some (.int .u64 r3) ∧ Z.cell? ⟨X.heap.size, 21, none⟩ = some (.slice a3 n3 c3)) (first | (with_reducible assumption) | (go_simp)) (first
        | (go_at_call 17; refine hS.mono ?_; clear hS; rintro e w5 ⟨rfl, hP5⟩; obtain ⟨k5, hR5⟩ := hR _ hP5; clear hR; have q5 := (k5 X.heap.size (Nat.le_refl _) (by simp)).trans hA0; obtain ⟨e5, f5⟩ := cells_of_block q5)
        | (go_at_call 26; refine hR5.mono ?_; clear hR5; rintro e w6 ⟨rfl, k6, hQ⟩; have q6 := (k6 X.heap.size (Nat.le_refl _) (by simp)).trans hA0; obtain ⟨e6, f6⟩ := cells_of_block q6))
      all_goals go_wp2
      all_goals go_ret
      all_goals exact ⟨rfl, hQ⟩
    · clear hTA hTV
      obtain ⟨c, P, hS, hR⟩ := hTD.out _ (bd (ba (Below.refl _ _) (.cells #[.int .u8 k, .int .u8 i, .int .u8 ow, .int .u16 rt, .bool jl, .int .u64 t0, .int .u64 t1, .int .u64 t2, .int .u64 t3, .int .u64 s0, .int .u64 s1, .int .u64 s2, .int .u64 s3, .slice a1 n1 c1, .slice a2 n2 c2, .int .u8 o, .int .u8 v, .int .u64 r0, .int .u64 r1, .int .u64 r2, .int .u64 r3, .slice a3 n3 c3] 47)))
      go_enter Try.func11, Try.ntmps11
      go_upto_region 8 with fail
      go_region_held2 (fun Z => Z.cell? ⟨X.heap.size, 15, none⟩ = some (.int .u8 o) ∧ Z.cell? ⟨X.heap.size, 16, none⟩ = some (.int .u8 v) ∧ Z.cell? ⟨X.heap.size, 17, none⟩ = some (.int .u64 r0) ∧ Z.cell? ⟨X.heap.size, 18, none⟩ = some (.int .u64 r1) ∧ Z.cell? ⟨X.heap.size, 19, none⟩ = some (.int .u64 r2) ∧ Z.cell? ⟨X.heap.size, 20, none⟩ = some (.int .u64 r3) ∧ Z.cell? ⟨X.heap.size, 21, none⟩ = some (.slice a3 n3 c3)) (first | (with_reducible assumption) | (go_simp)) (first
        | (go_at_call 17; refine hS.mono ?_; clear hS; rintro e w5 ⟨rfl, hP5⟩; obtain ⟨k5, hR5⟩ := hR _ hP5; clear hR; have q5 := (k5 X.heap.size (Nat.le_refl _) (by simp)).trans hA0; obtain ⟨e5, f5⟩ := cells_of_block q5)
        | (go_at_call 26; refine hR5.mono ?_; clear hR5; rintro e w6 ⟨rfl, k6, hQ⟩; have q6 := (k6 X.heap.size (Nat.le_refl _) (by simp)).trans hA0; obtain ⟨e6, f6⟩ := cells_of_block q6))
      all_goals go_wp2
      all_goals go_ret
      all_goals exact ⟨rfl, hQ⟩
  exact walk j hjm hj4
end Go.Proofs.Ytafcianpajheiaa
