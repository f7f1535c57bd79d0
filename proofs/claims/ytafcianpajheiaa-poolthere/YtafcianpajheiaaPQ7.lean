
/- Several texts, one behind the other: PO20, U16. -/
import Derived.Test.YtafcianpajheiaaPQ6
import Derived.Test.YtafcianpajheiaaV0
/- pool: the law's same. -/
set_option linter.unusedSimpArgs false
set_option linter.unusedVariables false
set_option maxRecDepth 20000
namespace Go.Proofs.Ytafcianpajheiaa
open Go.RowKit

section
variable {w X : World} {s m n : Nat} {V : List Vd} {D : List Dg}
/-- One validator of both, where it lies. -/
theorem vrow_two {Y X : World} {base base' lo m : Nat} {B : Nat → Prop} {c0 c1 c2 c3 c6 c7 v vv vd : Value} {V : List Vd} {K M : List Vx} {N : List Dx} (h : VRow Y base v V K) (hR : RSt X m lo base' B c0 c1 c2 c3 c6 c7 vv vd M N) (hM : M.map (·.x) = V) {j : Nat} (hj : j < V.length) (hjK : j < K.length) (hjM : j < M.length) : K[j].i = j ∧ M[j].i = j ∧ K[j].x = V[j] ∧ M[j].x = V[j] := by
  have e1 : (K.map (·.i))[j]? = some K[j].i := by rw [List.getElem?_map, List.getElem?_eq_getElem hjK]; rfl
  have e2 : (M.map (·.i))[j]? = some M[j].i := by rw [List.getElem?_map, List.getElem?_eq_getElem hjM]; rfl
  have e3 : (K.map (·.x))[j]? = some K[j].x := by rw [List.getElem?_map, List.getElem?_eq_getElem hjK]; rfl
  have e4 : (M.map (·.x))[j]? = some M[j].x := by rw [List.getElem?_map, List.getElem?_eq_getElem hjM]; rfl
  rw [h.ids] at e1
  rw [hR.ids] at e2
  rw [h.mp, List.getElem?_eq_getElem hj] at e3
  rw [hM, List.getElem?_eq_getElem hj] at e4
  simp [hjK] at e1
  simp [hjM] at e2
  simp at e3 e4
  exact ⟨e1.symm, e2.symm, e3.symm, e4.symm⟩
set_option maxRecDepth 100000 in
set_option maxHeartbeats 16000000 in
theorem same11p_any (h : PP w X s m V D n) (hn : n ≤ 800) :
    Calls Try.prog 12 #[.pointer (some ⟨s, 0, none⟩), .pointer (some ⟨m, 0, none⟩)] X fun e w' => e = .returned (.bool true) ∧ Below X.heap.size X w' := by
  obtain ⟨A, L, base, B, base', vv, vd, M, N, hD, hP, hS, hMV, hND, hdis, -, -⟩ := h
  have hLl := hD.llen
  have hVl := hP.vlen
  have hDl := hP.dlen
  have hMl : M.length = V.length := by rw [← hMV, List.length_map]
  have hNl : N.length = D.length := by rw [← hND, List.length_map]
  obtain ⟨avv, cm, rfl⟩ := row_slice hS.rowV
  obtain ⟨avd, cn, rfl⟩ := row_slice hS.rowD
  have hml := hS.lt
  have hMl' : Hid (M.length = V.length) := hMl
  have hNl' : Hid (N.length = D.length) := hNl
  have hblk : Hid (∀ Y, Below X.heap.size X Y → Y.heap[m]? = some (.cells #[.int .u64 0, .slice none 0 0, .slice none 0 0, .slice none 0 0, .slice avv V.length cm, .slice avd D.length cn, .slice none 0 0, .slice none 0 0] 37 (0, 0))) := fun Y hY => by rw [← hMl, ← hNl]; exact (hY.block m hml).trans hS.blk
  have hS : Hid (RSt _ _ _ _ _ _ _ _ _ _ _ _ _ _ _) := hS
  clear hMl hNl
  have hVals := vals_any hD hP (by omega)
  have hAll : Hid (∀ Y, Below X.heap.size X Y → Calls Try.prog 23 #[.pointer (some ⟨s, 0, none⟩)] Y fun e w' => ∃ v M, e = .returned v ∧ DRow w' Y.heap.size v D M ∧ Below Y.heap.size Y w') := fun Y hY => all11_any (hD.below hY) hP (by omega) (by omega)
  go_enter Try.func12, Try.ntmps12
  go_upto_region 2 with (first
    | (go_at_call 22; refine hVals.mono ?_; clear hVals; rintro e w1 ⟨v1, K, rfl, hK, hb1⟩; obtain ⟨gvs, cvs, rfl⟩ := row_slice hK.row; rw [hK.len]; replace hK : Hid (VRow _ _ _ _ _) := hK)
    | (go_at_call 23; refine (hAll.out _ (by (repeat (first | (with_reducible exact Below.refl _ _) | (with_reducible assumption) | (with_reducible apply bd) | (with_reducible apply ba) | (with_reducible refine bp ?_ (by first | omega | (simp [pad_size]; done) | (simp [pad_size]; omega)) _ _) | (with_reducible refine bs ?_ (by first | omega | (simp [pad_size]; done) | (simp [pad_size]; omega)) _) | (with_reducible refine bt ?_ (by assumption)))))).mono ?_; clear hAll; rintro e w2 ⟨v2, J, rfl, hJ, hb2⟩; obtain ⟨gds, cds, rfl⟩ := row_slice hJ.row; rw [hJ.len]; replace hJ : Hid (DRow _ _ _ _ _) := hJ; have hb12 : Below w1.heap.size w1 w2 := bt (by (repeat (first | (with_reducible exact Below.refl _ _) | (with_reducible assumption) | (with_reducible apply bd) | (with_reducible apply ba) | (with_reducible refine bp ?_ (by first | omega | (simp [pad_size]; done) | (simp [pad_size]; omega)) _ _) | (with_reducible refine bs ?_ (by first | omega | (simp [pad_size]; done) | (simp [pad_size]; omega)) _) | (with_reducible refine bt ?_ (by assumption))))) hb2; have hB2 := bt hb1 hb12; obtain ⟨e2, f2⟩ := cells_of_block (hblk.out w2 hB2)))
  have hKl : Hid (K.length = V.length) := hK.out.len
  have hJl : Hid (J.length = D.length) := hJ.out.len
  have hlen : Hid (∀ x ∈ V, x.ix.length ≤ 8 ∧ x.er.length ≤ 8) := fun x hx => ⟨right_len (hP.vok x hx).ir, right_len (hP.vok x hx).er⟩
  have hlenD : Hid (∀ x ∈ D, x.ix.length ≤ 8) := fun x hx => right_len (hP.dok x hx).ir
  have hVal : Hid (∀ (Y : World) (i : Nat) (x : Vd), Below X.heap.size X Y → V[i]? = some x → Calls Try.prog 18 #[.pointer (some ⟨s, 0, none⟩), .int .u8 i] Y fun e w' => ∃ a1 c1 a2 c2, e = .returned (.tuple #[.agg #[.int .u8 i, .int .u8 x.ow, .int .u16 x.rt, .bool x.jl, .int .u64 x.t0, .int .u64 x.t1, .int .u64 x.t2, .int .u64 x.t3, .int .u64 x.s0, .int .u64 x.s1, .int .u64 x.s2, .int .u64 x.s3, .slice a1 x.ix.length c1, .slice a2 x.er.length c2], .bool true]) ∧
      w'.ownsRow Y.heap.size 103 5 (.slice a1 x.ix.length c1) x.ix.length (cellsL x.ix) ∧ w'.ownsRow Y.heap.size 103 5 (.slice a2 x.er.length c2) x.er.length (cellsL x.er) ∧ Below Y.heap.size Y w') := fun Y i x hY hi => val_yes (hD.below hY) hP (by omega) hi
  have hGet : Hid (∀ (Y : World) (x : Dg), Below X.heap.size X Y → x ∈ D → Calls Try.prog 19 #[.pointer (some ⟨s, 0, none⟩), .int .u8 (x.ow : Nat), .int .u8 (x.va : Nat)] Y fun e w' => ∃ a1 c1, e = .returned (.tuple #[.agg #[.int .u8 (x.ow : Nat), .int .u8 (x.va : Nat), .int .u64 x.s0, .int .u64 x.s1, .int .u64 x.s2, .int .u64 x.s3, .slice a1 x.ix.length c1], .bool true]) ∧ w'.ownsRow Y.heap.size 103 5 (.slice a1 x.ix.length c1) x.ix.length (cellsL x.ix) ∧ Below Y.heap.size Y w') := fun Y x hY hx => getD_any (hD.below hY) hP (by omega) hx
  have hD8 : D.length ≤ 800 := by omega
  clear hD hP hdis hLl hDl hb2
  go_wp2
  go_loopw [7] (fun i Y => ∃ j : Nat, j ≤ V.length ∧ i = .int .i64 (j : Int) ∧ Below w2.heap.size w2 Y) (fun i _ => V.length - (intOf i).toNat)
  case atStart => exact ⟨0, by omega, rfl, Below.refl _ _⟩
  case round =>
    obtain ⟨j, hj, rfl, hY⟩ := hrel
    have hXr : Below X.heap.size X wr := bt hB2 hY
    have h1r : Below w1.heap.size w1 wr := bt hb12 hY
    by_cases hltV : j < V.length
    · have hlt : j < M.length := by rw [hMl'.out]; exact hltV
      have hltK : j < K.length := by rw [hKl.out]; exact hltV
      obtain ⟨gv, kv', ev, hgv, -, hcv⟩ := row_at vxC_len hK.out.row hltK
      obtain ⟨gm, km', em, hgm, -, hcm⟩ := row_at vxC_len hS.out.rowV hlt
      rw [hKl.out] at ev
      rw [hMl'.out] at em
      simp at ev em
      obtain ⟨rfl, rfl⟩ := ev
      obtain ⟨rfl, rfl⟩ := em
      obtain ⟨i1, i2, x1, x2⟩ := vrow_two hK.out hS.out hMV hltV hltK hlt
      have hco := hK.out.co K[j] (List.getElem_mem hltK)
      have hcs := hS.out.cv M[j] (List.getElem_mem hlt)
      have hln := hlen.out V[j] (List.getElem_mem hltV)
      have hVc := hVal.out wr j V[j] hXr (List.getElem?_eq_getElem hltV)
      obtain ⟨y1, i1', x1', hcv', hco'⟩ : ∃ y1 : Vx, y1.i = j ∧ y1.x = V[j] ∧ (∀ t, t < 14 → w1.cell? ⟨gv, j * 14 + t, none⟩ = (vxC y1)[t]?) ∧ VxOw w1 X.heap.size y1 := ⟨_, i1, x1, hcv, hco⟩
      obtain ⟨y2, i2', x2', hcm', hcs'⟩ : ∃ y2 : Vx, y2.i = j ∧ y2.x = V[j] ∧ (∀ t, t < 14 → X.cell? ⟨gm, j * 14 + t, none⟩ = (vxC y2)[t]?) ∧ VxLo X w.heap.size y2 := ⟨_, i2, x2, hcm, hcs⟩
      clear i1 x1 hcv hco i2 x2 hcm hcs
      generalize V[j] = x at *
      obtain ⟨yi, yx, p1, k1, p2, k2⟩ := y1
      obtain ⟨zi, zx, q1, l1, q2, l2⟩ := y2
      simp only at i1' i2' x1' x2'
      subst i2' i1'
      obtain ⟨ow, rt, jl, t0, t1, t2, t3, s0, s1, s2, s3, ix, er⟩ := x
      subst x1' x2'
      simp only at hln hVc
      have hc1 := hco'.co (by show ix.length ≤ _; omega) (by show er.length ≤ _; omega)
      have e1 : Hid (IsCoins wr (.slice p1 ix.length k1) ix) := hc1.1.below h1r
      have e2' : Hid (IsCoins wr (.slice p2 er.length k2) er) := hc1.2.below h1r
      have e3 : Hid (IsCoins wr (.slice q1 ix.length l1) ix) := hcs'.c1.below hXr
      have e4 : Hid (IsCoins wr (.slice q2 er.length l2) er) := hcs'.c2.below hXr
      have hcells : Hid (∀ Z, Below wr.heap.size wr Z → Z.cell? ⟨gv, yi * 14, none⟩ = some (.int .u8 (yi : Nat)) ∧ Z.cell? ⟨gv, yi * 14 + 1, none⟩ = some (.int .u8 ow) ∧ Z.cell? ⟨gv, yi * 14 + 2, none⟩ = some (.int .u16 rt) ∧ Z.cell? ⟨gv, yi * 14 + 3, none⟩ = some (.bool jl) ∧ Z.cell? ⟨gv, yi * 14 + 4, none⟩ = some (.int .u64 t0) ∧ Z.cell? ⟨gv, yi * 14 + 5, none⟩ = some (.int .u64 t1) ∧ Z.cell? ⟨gv, yi * 14 + 6, none⟩ = some (.int .u64 t2) ∧ Z.cell? ⟨gv, yi * 14 + 7, none⟩ = some (.int .u64 t3) ∧ Z.cell? ⟨gv, yi * 14 + 8, none⟩ = some (.int .u64 s0) ∧ Z.cell? ⟨gv, yi * 14 + 9, none⟩ = some (.int .u64 s1) ∧ Z.cell? ⟨gv, yi * 14 + 10, none⟩ = some (.int .u64 s2) ∧ Z.cell? ⟨gv, yi * 14 + 11, none⟩ = some (.int .u64 s3) ∧ Z.cell? ⟨gv, yi * 14 + 12, none⟩ = some (.slice p1 ix.length k1) ∧ Z.cell? ⟨gv, yi * 14 + 13, none⟩ = some (.slice p2 er.length k2) ∧ Z.cell? ⟨gm, yi * 14, none⟩ = some (.int .u8 (yi : Nat)) ∧ Z.cell? ⟨gm, yi * 14 + 1, none⟩ = some (.int .u8 ow) ∧ Z.cell? ⟨gm, yi * 14 + 2, none⟩ = some (.int .u16 rt) ∧ Z.cell? ⟨gm, yi * 14 + 3, none⟩ = some (.bool jl) ∧ Z.cell? ⟨gm, yi * 14 + 4, none⟩ = some (.int .u64 t0) ∧ Z.cell? ⟨gm, yi * 14 + 5, none⟩ = some (.int .u64 t1) ∧ Z.cell? ⟨gm, yi * 14 + 6, none⟩ = some (.int .u64 t2) ∧ Z.cell? ⟨gm, yi * 14 + 7, none⟩ = some (.int .u64 t3) ∧ Z.cell? ⟨gm, yi * 14 + 8, none⟩ = some (.int .u64 s0) ∧ Z.cell? ⟨gm, yi * 14 + 9, none⟩ = some (.int .u64 s1) ∧ Z.cell? ⟨gm, yi * 14 + 10, none⟩ = some (.int .u64 s2) ∧ Z.cell? ⟨gm, yi * 14 + 11, none⟩ = some (.int .u64 s3) ∧ Z.cell? ⟨gm, yi * 14 + 12, none⟩ = some (.slice q1 ix.length l1) ∧ Z.cell? ⟨gm, yi * 14 + 13, none⟩ = some (.slice q2 er.length l2) ∧ Z.cell? ⟨m, 4, none⟩ = some (.slice (some ⟨gm, 0, none⟩) V.length cm)) := fun Z hZ => by
        have g1 : ∀ (t : Nat) (u : Value), (vxC ⟨yi, ⟨ow, rt, jl, t0, t1, t2, t3, s0, s1, s2, s3, ix, er⟩, p1, k1, p2, k2⟩)[t]? = some u → Z.cell? ⟨gv, yi * 14 + t, none⟩ = some u := fun t u ht => (((bt h1r hZ).cell (p := ⟨gv, yi * 14 + t, none⟩) hgv).trans (hcv' t (List.getElem?_eq_some_iff.1 ht).1)).trans ht
        have g2 : ∀ (t : Nat) (u : Value), (vxC ⟨yi, ⟨ow, rt, jl, t0, t1, t2, t3, s0, s1, s2, s3, ix, er⟩, q1, l1, q2, l2⟩)[t]? = some u → Z.cell? ⟨gm, yi * 14 + t, none⟩ = some u := fun t u ht => (((bt hXr hZ).cell (p := ⟨gm, yi * 14 + t, none⟩) hgm).trans (hcm' t (List.getElem?_eq_some_iff.1 ht).1)).trans ht
        refine ⟨g1 0 _ rfl, g1 1 _ rfl, g1 2 _ rfl, g1 3 _ rfl, g1 4 _ rfl, g1 5 _ rfl, g1 6 _ rfl, g1 7 _ rfl, g1 8 _ rfl, g1 9 _ rfl, g1 10 _ rfl, g1 11 _ rfl, g1 12 _ rfl, g1 13 _ rfl, g2 0 _ rfl, g2 1 _ rfl, g2 2 _ rfl, g2 3 _ rfl, g2 4 _ rfl, g2 5 _ rfl, g2 6 _ rfl, g2 7 _ rfl, g2 8 _ rfl, g2 9 _ rfl, g2 10 _ rfl, g2 11 _ rfl, g2 12 _ rfl, g2 13 _ rfl, ?_⟩
        exact (cells_of_block (hblk.out Z (bt hXr hZ))).1 4
      clear hcv' hcm' hco' hcs' hc1
      have hlt' : (yi : Int) < (V.length : Int) := by omega
      have hw8 : IntKind.u8.wrap (yi : Int) = (yi : Int) := by rw [IntKind.wrap_u8]; omega
      have hgvr : gv < wr.heap.size := Nat.lt_of_lt_of_le hgv h1r.size
      have hgmr : gm < wr.heap.size := Nat.lt_of_lt_of_le hgm hXr.size
      go_upto_region 8 with (go_at_call 18; refine hVc.mono ?_; clear hVc; rintro e w3 ⟨b1, d1, b2, d2, rfl, u1, u2, hb3⟩; have v1 : Hid (IsCoins w3 (.slice b1 ix.length d1) ix) := own_coins u1 (by omega); have v2 : Hid (IsCoins w3 (.slice b2 er.length d2) er) := own_coins u2 (by omega))
      have hBx : Below wr.heap.size wr (w3.alloc (.cells #[.int .u8 (yi : Nat), .int .u8 ow, .int .u16 rt, .bool jl, .int .u64 t0, .int .u64 t1, .int .u64 t2, .int .u64 t3, .int .u64 s0, .int .u64 s1, .int .u64 s2, .int .u64 s3, .slice b1 ix.length d1, .slice b2 er.length d2] 43)) := bt hb3 (ba (Below.refl _ _) _)
      have hKp : Hid (∀ Z, Below (w3.alloc (.cells #[.int .u8 (yi : Nat), .int .u8 ow, .int .u16 rt, .bool jl, .int .u64 t0, .int .u64 t1, .int .u64 t2, .int .u64 t3, .int .u64 s0, .int .u64 s1, .int .u64 s2, .int .u64 s3, .slice b1 ix.length d1, .slice b2 er.length d2] 43)).heap.size (w3.alloc (.cells #[.int .u8 (yi : Nat), .int .u8 ow, .int .u16 rt, .bool jl, .int .u64 t0, .int .u64 t1, .int .u64 t2, .int .u64 t3, .int .u64 s0, .int .u64 s1, .int .u64 s2, .int .u64 s3, .slice b1 ix.length d1, .slice b2 er.length d2] 43)) Z → Z.cell? ⟨gv, yi * 14, none⟩ = some (.int .u8 (yi : Nat)) ∧ Z.cell? ⟨gv, yi * 14 + 1, none⟩ = some (.int .u8 ow) ∧ Z.cell? ⟨gv, yi * 14 + 2, none⟩ = some (.int .u16 rt) ∧ Z.cell? ⟨gv, yi * 14 + 3, none⟩ = some (.bool jl) ∧ Z.cell? ⟨gv, yi * 14 + 4, none⟩ = some (.int .u64 t0) ∧ Z.cell? ⟨gv, yi * 14 + 5, none⟩ = some (.int .u64 t1) ∧ Z.cell? ⟨gv, yi * 14 + 6, none⟩ = some (.int .u64 t2) ∧ Z.cell? ⟨gv, yi * 14 + 7, none⟩ = some (.int .u64 t3) ∧ Z.cell? ⟨gv, yi * 14 + 8, none⟩ = some (.int .u64 s0) ∧ Z.cell? ⟨gv, yi * 14 + 9, none⟩ = some (.int .u64 s1) ∧ Z.cell? ⟨gv, yi * 14 + 10, none⟩ = some (.int .u64 s2) ∧ Z.cell? ⟨gv, yi * 14 + 11, none⟩ = some (.int .u64 s3) ∧ Z.cell? ⟨gv, yi * 14 + 12, none⟩ = some (.slice p1 ix.length k1) ∧ Z.cell? ⟨gv, yi * 14 + 13, none⟩ = some (.slice p2 er.length k2) ∧ Z.cell? ⟨gm, yi * 14, none⟩ = some (.int .u8 (yi : Nat)) ∧ Z.cell? ⟨gm, yi * 14 + 1, none⟩ = some (.int .u8 ow) ∧ Z.cell? ⟨gm, yi * 14 + 2, none⟩ = some (.int .u16 rt) ∧ Z.cell? ⟨gm, yi * 14 + 3, none⟩ = some (.bool jl) ∧ Z.cell? ⟨gm, yi * 14 + 4, none⟩ = some (.int .u64 t0) ∧ Z.cell? ⟨gm, yi * 14 + 5, none⟩ = some (.int .u64 t1) ∧ Z.cell? ⟨gm, yi * 14 + 6, none⟩ = some (.int .u64 t2) ∧ Z.cell? ⟨gm, yi * 14 + 7, none⟩ = some (.int .u64 t3) ∧ Z.cell? ⟨gm, yi * 14 + 8, none⟩ = some (.int .u64 s0) ∧ Z.cell? ⟨gm, yi * 14 + 9, none⟩ = some (.int .u64 s1) ∧ Z.cell? ⟨gm, yi * 14 + 10, none⟩ = some (.int .u64 s2) ∧ Z.cell? ⟨gm, yi * 14 + 11, none⟩ = some (.int .u64 s3) ∧ Z.cell? ⟨gm, yi * 14 + 12, none⟩ = some (.slice q1 ix.length l1) ∧ Z.cell? ⟨gm, yi * 14 + 13, none⟩ = some (.slice q2 er.length l2) ∧ Z.cell? ⟨m, 4, none⟩ = some (.slice (some ⟨gm, 0, none⟩) V.length cm) ∧ Z.cell? ⟨w3.heap.size, 0, none⟩ = some (.int .u8 (yi : Nat)) ∧ Z.cell? ⟨w3.heap.size, 1, none⟩ = some (.int .u8 ow) ∧ Z.cell? ⟨w3.heap.size, 2, none⟩ = some (.int .u16 rt) ∧ Z.cell? ⟨w3.heap.size, 3, none⟩ = some (.bool jl) ∧ Z.cell? ⟨w3.heap.size, 4, none⟩ = some (.int .u64 t0) ∧ Z.cell? ⟨w3.heap.size, 5, none⟩ = some (.int .u64 t1) ∧ Z.cell? ⟨w3.heap.size, 6, none⟩ = some (.int .u64 t2) ∧ Z.cell? ⟨w3.heap.size, 7, none⟩ = some (.int .u64 t3) ∧ Z.cell? ⟨w3.heap.size, 8, none⟩ = some (.int .u64 s0) ∧ Z.cell? ⟨w3.heap.size, 9, none⟩ = some (.int .u64 s1) ∧ Z.cell? ⟨w3.heap.size, 10, none⟩ = some (.int .u64 s2) ∧ Z.cell? ⟨w3.heap.size, 11, none⟩ = some (.int .u64 s3) ∧ Z.cell? ⟨w3.heap.size, 12, none⟩ = some (.slice b1 ix.length d1) ∧ Z.cell? ⟨w3.heap.size, 13, none⟩ = some (.slice b2 er.length d2)) := fun Z hZ => by
        have hc := hcells.out Z (bt hBx hZ)
        have q1 := (cells_of_block ((hZ.block w3.heap.size (by simp)).trans (al_at rfl))).1
        exact ⟨hc.1, hc.2.1, hc.2.2.1, hc.2.2.2.1, hc.2.2.2.2.1, hc.2.2.2.2.2.1, hc.2.2.2.2.2.2.1, hc.2.2.2.2.2.2.2.1, hc.2.2.2.2.2.2.2.2.1, hc.2.2.2.2.2.2.2.2.2.1, hc.2.2.2.2.2.2.2.2.2.2.1, hc.2.2.2.2.2.2.2.2.2.2.2.1, hc.2.2.2.2.2.2.2.2.2.2.2.2.1, hc.2.2.2.2.2.2.2.2.2.2.2.2.2.1, hc.2.2.2.2.2.2.2.2.2.2.2.2.2.2.1, hc.2.2.2.2.2.2.2.2.2.2.2.2.2.2.2.1, hc.2.2.2.2.2.2.2.2.2.2.2.2.2.2.2.2.1, hc.2.2.2.2.2.2.2.2.2.2.2.2.2.2.2.2.2.1, hc.2.2.2.2.2.2.2.2.2.2.2.2.2.2.2.2.2.2.1, hc.2.2.2.2.2.2.2.2.2.2.2.2.2.2.2.2.2.2.2.1, hc.2.2.2.2.2.2.2.2.2.2.2.2.2.2.2.2.2.2.2.2.1, hc.2.2.2.2.2.2.2.2.2.2.2.2.2.2.2.2.2.2.2.2.2.1, hc.2.2.2.2.2.2.2.2.2.2.2.2.2.2.2.2.2.2.2.2.2.2.1, hc.2.2.2.2.2.2.2.2.2.2.2.2.2.2.2.2.2.2.2.2.2.2.2.1, hc.2.2.2.2.2.2.2.2.2.2.2.2.2.2.2.2.2.2.2.2.2.2.2.2.1, hc.2.2.2.2.2.2.2.2.2.2.2.2.2.2.2.2.2.2.2.2.2.2.2.2.2.1, hc.2.2.2.2.2.2.2.2.2.2.2.2.2.2.2.2.2.2.2.2.2.2.2.2.2.2.1, hc.2.2.2.2.2.2.2.2.2.2.2.2.2.2.2.2.2.2.2.2.2.2.2.2.2.2.2.1, hc.2.2.2.2.2.2.2.2.2.2.2.2.2.2.2.2.2.2.2.2.2.2.2.2.2.2.2.2, q1 0, q1 1, q1 2, q1 3, q1 4, q1 5, q1 6, q1 7, q1 8, q1 9, q1 10, q1 11, q1 12, q1 13⟩
      go_region_held2 (fun Z => Z.cell? ⟨gv, yi * 14, none⟩ = some (.int .u8 (yi : Nat)) ∧ Z.cell? ⟨gv, yi * 14 + 1, none⟩ = some (.int .u8 ow) ∧ Z.cell? ⟨gv, yi * 14 + 2, none⟩ = some (.int .u16 rt) ∧ Z.cell? ⟨gv, yi * 14 + 3, none⟩ = some (.bool jl) ∧ Z.cell? ⟨gv, yi * 14 + 4, none⟩ = some (.int .u64 t0) ∧ Z.cell? ⟨gv, yi * 14 + 5, none⟩ = some (.int .u64 t1) ∧ Z.cell? ⟨gv, yi * 14 + 6, none⟩ = some (.int .u64 t2) ∧ Z.cell? ⟨gv, yi * 14 + 7, none⟩ = some (.int .u64 t3) ∧ Z.cell? ⟨gv, yi * 14 + 8, none⟩ = some (.int .u64 s0) ∧ Z.cell? ⟨gv, yi * 14 + 9, none⟩ = some (.int .u64 s1) ∧ Z.cell? ⟨gv, yi * 14 + 10, none⟩ = some (.int .u64 s2) ∧ Z.cell? ⟨gv, yi * 14 + 11, none⟩ = some (.int .u64 s3) ∧ Z.cell? ⟨gv, yi * 14 + 12, none⟩ = some (.slice p1 ix.length k1) ∧ Z.cell? ⟨gv, yi * 14 + 13, none⟩ = some (.slice p2 er.length k2) ∧ Z.cell? ⟨gm, yi * 14, none⟩ = some (.int .u8 (yi : Nat)) ∧ Z.cell? ⟨gm, yi * 14 + 1, none⟩ = some (.int .u8 ow) ∧ Z.cell? ⟨gm, yi * 14 + 2, none⟩ = some (.int .u16 rt) ∧ Z.cell? ⟨gm, yi * 14 + 3, none⟩ = some (.bool jl) ∧ Z.cell? ⟨gm, yi * 14 + 4, none⟩ = some (.int .u64 t0) ∧ Z.cell? ⟨gm, yi * 14 + 5, none⟩ = some (.int .u64 t1) ∧ Z.cell? ⟨gm, yi * 14 + 6, none⟩ = some (.int .u64 t2) ∧ Z.cell? ⟨gm, yi * 14 + 7, none⟩ = some (.int .u64 t3) ∧ Z.cell? ⟨gm, yi * 14 + 8, none⟩ = some (.int .u64 s0) ∧ Z.cell? ⟨gm, yi * 14 + 9, none⟩ = some (.int .u64 s1) ∧ Z.cell? ⟨gm, yi * 14 + 10, none⟩ = some (.int .u64 s2) ∧ Z.cell? ⟨gm, yi * 14 + 11, none⟩ = some (.int .u64 s3) ∧ Z.cell? ⟨gm, yi * 14 + 12, none⟩ = some (.slice q1 ix.length l1) ∧ Z.cell? ⟨gm, yi * 14 + 13, none⟩ = some (.slice q2 er.length l2) ∧ Z.cell? ⟨m, 4, none⟩ = some (.slice (some ⟨gm, 0, none⟩) V.length cm) ∧ Z.cell? ⟨w3.heap.size, 0, none⟩ = some (.int .u8 (yi : Nat)) ∧ Z.cell? ⟨w3.heap.size, 1, none⟩ = some (.int .u8 ow) ∧ Z.cell? ⟨w3.heap.size, 2, none⟩ = some (.int .u16 rt) ∧ Z.cell? ⟨w3.heap.size, 3, none⟩ = some (.bool jl) ∧ Z.cell? ⟨w3.heap.size, 4, none⟩ = some (.int .u64 t0) ∧ Z.cell? ⟨w3.heap.size, 5, none⟩ = some (.int .u64 t1) ∧ Z.cell? ⟨w3.heap.size, 6, none⟩ = some (.int .u64 t2) ∧ Z.cell? ⟨w3.heap.size, 7, none⟩ = some (.int .u64 t3) ∧ Z.cell? ⟨w3.heap.size, 8, none⟩ = some (.int .u64 s0) ∧ Z.cell? ⟨w3.heap.size, 9, none⟩ = some (.int .u64 s1) ∧ Z.cell? ⟨w3.heap.size, 10, none⟩ = some (.int .u64 s2) ∧ Z.cell? ⟨w3.heap.size, 11, none⟩ = some (.int .u64 s3) ∧ Z.cell? ⟨w3.heap.size, 12, none⟩ = some (.slice b1 ix.length d1) ∧ Z.cell? ⟨w3.heap.size, 13, none⟩ = some (.slice b2 er.length d2)) (first | (with_reducible assumption) | exact hKp.out _ (by (repeat (first | (with_reducible exact Below.refl _ _) | (with_reducible assumption) | (with_reducible apply bd) | (with_reducible apply ba) | (with_reducible refine bp ?_ (by first | omega | (simp [pad_size]; done) | (simp [pad_size]; omega)) _ _) | (with_reducible refine bs ?_ (by first | omega | (simp [pad_size]; done) | (simp [pad_size]; omega)) _) | (with_reducible refine bt ?_ (by assumption)))))) (first
        | (go_at_call 20; with_reducible refine (same11_any (IsCoins.below e1.out (by first | exact bt hBx (by (repeat (first | (with_reducible exact Below.refl _ _) | (with_reducible assumption) | (with_reducible apply bd) | (with_reducible apply ba) | (with_reducible refine bp ?_ (by first | omega | (simp [pad_size]; done) | (simp [pad_size]; omega)) _ _) | (with_reducible refine bs ?_ (by first | omega | (simp [pad_size]; done) | (simp [pad_size]; omega)) _) | (with_reducible refine bt ?_ (by assumption))))))) (IsCoins.below e2'.out (bt hBx (by (repeat (first | (with_reducible exact Below.refl _ _) | (with_reducible assumption) | (with_reducible apply bd) | (with_reducible apply ba) | (with_reducible refine bp ?_ (by first | omega | (simp [pad_size]; done) | (simp [pad_size]; omega)) _ _) | (with_reducible refine bs ?_ (by first | omega | (simp [pad_size]; done) | (simp [pad_size]; omega)) _) | (with_reducible refine bt ?_ (by assumption))))))) (IsCoins.below e3.out (bt hBx (by (repeat (first | (with_reducible exact Below.refl _ _) | (with_reducible assumption) | (with_reducible apply bd) | (with_reducible apply ba) | (with_reducible refine bp ?_ (by first | omega | (simp [pad_size]; done) | (simp [pad_size]; omega)) _ _) | (with_reducible refine bs ?_ (by first | omega | (simp [pad_size]; done) | (simp [pad_size]; omega)) _) | (with_reducible refine bt ?_ (by assumption))))))) (IsCoins.below e4.out (bt hBx (by (repeat (first | (with_reducible exact Below.refl _ _) | (with_reducible assumption) | (with_reducible apply bd) | (with_reducible apply ba) | (with_reducible refine bp ?_ (by first | omega | (simp [pad_size]; done) | (simp [pad_size]; omega)) _ _) | (with_reducible refine bs ?_ (by first | omega | (simp [pad_size]; done) | (simp [pad_size]; omega)) _) | (with_reducible refine bt ?_ (by assumption)))))))).mono ?_; rintro e w4 ⟨rfl, hb4⟩)
        | (go_at_call 20; with_reducible refine (same11_any (IsCoins.below v1.out (bt (ba (Below.refl _ _) _) (by (repeat (first | (with_reducible exact Below.refl _ _) | (with_reducible assumption) | (with_reducible apply bd) | (with_reducible apply ba) | (with_reducible refine bp ?_ (by first | omega | (simp [pad_size]; done) | (simp [pad_size]; omega)) _ _) | (with_reducible refine bs ?_ (by first | omega | (simp [pad_size]; done) | (simp [pad_size]; omega)) _) | (with_reducible refine bt ?_ (by assumption))))))) (IsCoins.below v2.out (bt (ba (Below.refl _ _) _) (by (repeat (first | (with_reducible exact Below.refl _ _) | (with_reducible assumption) | (with_reducible apply bd) | (with_reducible apply ba) | (with_reducible refine bp ?_ (by first | omega | (simp [pad_size]; done) | (simp [pad_size]; omega)) _ _) | (with_reducible refine bs ?_ (by first | omega | (simp [pad_size]; done) | (simp [pad_size]; omega)) _) | (with_reducible refine bt ?_ (by assumption))))))) (IsCoins.below e3.out (bt hBx (by (repeat (first | (with_reducible exact Below.refl _ _) | (with_reducible assumption) | (with_reducible apply bd) | (with_reducible apply ba) | (with_reducible refine bp ?_ (by first | omega | (simp [pad_size]; done) | (simp [pad_size]; omega)) _ _) | (with_reducible refine bs ?_ (by first | omega | (simp [pad_size]; done) | (simp [pad_size]; omega)) _) | (with_reducible refine bt ?_ (by assumption))))))) (IsCoins.below e4.out (bt hBx (by (repeat (first | (with_reducible exact Below.refl _ _) | (with_reducible assumption) | (with_reducible apply bd) | (with_reducible apply ba) | (with_reducible refine bp ?_ (by first | omega | (simp [pad_size]; done) | (simp [pad_size]; omega)) _ _) | (with_reducible refine bs ?_ (by first | omega | (simp [pad_size]; done) | (simp [pad_size]; omega)) _) | (with_reducible refine bt ?_ (by assumption)))))))).mono ?_; rintro e w5 ⟨rfl, hb5⟩))
      have hB6 : Below wr.heap.size wr w5 := (by first | exact bt (bt hBx hb4) hb5 | exact bt hBx (bt (bt (bd (Below.refl _ _)) hb4) hb5))
      all_goals go_wp2
      all_goals go_roundw
      case rel => exact ⟨yi + 1, by omega, by go_num, bt hY hB6⟩
      case measure => (simp [intOf] <;> omega)
    · obtain rfl : j = V.length := by omega
      go_wp2
      go_loopw [10] (fun i Y => ∃ j : Nat, j ≤ D.length ∧ i = .int .i64 (j : Int) ∧ Below w2.heap.size w2 Y) (fun i _ => D.length - (intOf i).toNat)
      case atStart => exact ⟨0, by omega, rfl, hY⟩
      case round =>
        clear hY hXr h1r hVal hlen
        obtain ⟨j, hj, rfl, hY⟩ := hrel
        have hXr : Below X.heap.size X wr := bt hB2 hY
        have h2r : Below w2.heap.size w2 wr := hY
        by_cases hltD : j < D.length
        · have hlt : j < N.length := by rw [hNl'.out]; exact hltD
          have hltJ : j < J.length := by rw [hJl.out]; exact hltD
          obtain ⟨gv, kv', ev, hgv, -, hcv⟩ := row_at dxC_len hJ.out.row hltJ
          obtain ⟨gm, km', em, hgm, -, hcm⟩ := row_at dxC_len hS.out.rowD hlt
          rw [hJl.out] at ev
          rw [hNl'.out] at em
          simp at ev em
          obtain ⟨rfl, rfl⟩ := ev
          obtain ⟨rfl, rfl⟩ := em
          have x1 : J[j].d = D[j] := by
            have e : (J.map (·.d))[j]? = some J[j].d := by rw [List.getElem?_map, List.getElem?_eq_getElem hltJ]; rfl
            rw [hJ.out.mp, List.getElem?_eq_getElem hltD] at e
            simp at e
            exact e.symm
          have x2 : N[j].d = D[j] := by
            have e : (N.map (·.d))[j]? = some N[j].d := by rw [List.getElem?_map, List.getElem?_eq_getElem hlt]; rfl
            rw [hND, List.getElem?_eq_getElem hltD] at e
            simp at e
            exact e.symm
          have hco := hJ.out.co J[j] (List.getElem_mem hltJ)
          have hcs := hS.out.cd N[j] (List.getElem_mem hlt)
          have hln := hlenD.out D[j] (List.getElem_mem hltD)
          have hVc : Hid (∀ Y, Below wr.heap.size wr Y → _) := fun Y hYY => hGet.out Y D[j] (bt hXr hYY) (List.getElem_mem hltD)
          obtain ⟨y1, x1', hcv', b0, hco'⟩ : ∃ y1 : Dx, y1.d = D[j] ∧ (∀ t, t < 7 → w2.cell? ⟨gv, j * 7 + t, none⟩ = (dxC y1)[t]?) ∧ ∃ b0, DxOw w2 b0 y1 := ⟨_, x1, hcv, _, hco⟩
          obtain ⟨y2, x2', hcm', hcs'⟩ : ∃ y2 : Dx, y2.d = D[j] ∧ (∀ t, t < 7 → X.cell? ⟨gm, j * 7 + t, none⟩ = (dxC y2)[t]?) ∧ DxLo X w.heap.size y2 := ⟨_, x2, hcm, hcs⟩
          clear x1 hcv hco x2 hcm hcs
          generalize D[j] = x at *
          obtain ⟨yx, p1, k1⟩ := y1
          obtain ⟨zx, q1, l1⟩ := y2
          simp only at x1' x2'
          obtain ⟨ow, va, s0, s1, s2, s3, ix⟩ := x
          subst x1' x2'
          simp only at hln hVc
          have hc1 := hco'.co (by show ix.length ≤ _; omega)
          have e1 : Hid (IsCoins wr (.slice p1 ix.length k1) ix) := IsCoins.below hc1 h2r
          have e3 : Hid (IsCoins wr (.slice q1 ix.length l1) ix) := hcs'.c1.below hXr
          have hcells : Hid (∀ Z, Below wr.heap.size wr Z → Z.cell? ⟨gv, j * 7, none⟩ = some (.int .u8 (ow : Nat)) ∧ Z.cell? ⟨gv, j * 7 + 1, none⟩ = some (.int .u8 (va : Nat)) ∧ Z.cell? ⟨gv, j * 7 + 2, none⟩ = some (.int .u64 s0) ∧ Z.cell? ⟨gv, j * 7 + 3, none⟩ = some (.int .u64 s1) ∧ Z.cell? ⟨gv, j * 7 + 4, none⟩ = some (.int .u64 s2) ∧ Z.cell? ⟨gv, j * 7 + 5, none⟩ = some (.int .u64 s3) ∧ Z.cell? ⟨gv, j * 7 + 6, none⟩ = some (.slice p1 ix.length k1) ∧ Z.cell? ⟨gm, j * 7, none⟩ = some (.int .u8 (ow : Nat)) ∧ Z.cell? ⟨gm, j * 7 + 1, none⟩ = some (.int .u8 (va : Nat)) ∧ Z.cell? ⟨gm, j * 7 + 2, none⟩ = some (.int .u64 s0) ∧ Z.cell? ⟨gm, j * 7 + 3, none⟩ = some (.int .u64 s1) ∧ Z.cell? ⟨gm, j * 7 + 4, none⟩ = some (.int .u64 s2) ∧ Z.cell? ⟨gm, j * 7 + 5, none⟩ = some (.int .u64 s3) ∧ Z.cell? ⟨gm, j * 7 + 6, none⟩ = some (.slice q1 ix.length l1) ∧ Z.cell? ⟨m, 5, none⟩ = some (.slice (some ⟨gm, 0, none⟩) D.length cn)) := fun Z hZ => by
            have g1 : ∀ (t : Nat) (u : Value), (dxC ⟨⟨ow, va, s0, s1, s2, s3, ix⟩, p1, k1⟩)[t]? = some u → Z.cell? ⟨gv, j * 7 + t, none⟩ = some u := fun t u ht => (((bt h2r hZ).cell (p := ⟨gv, j * 7 + t, none⟩) hgv).trans (hcv' t (List.getElem?_eq_some_iff.1 ht).1)).trans ht
            have g2 : ∀ (t : Nat) (u : Value), (dxC ⟨⟨ow, va, s0, s1, s2, s3, ix⟩, q1, l1⟩)[t]? = some u → Z.cell? ⟨gm, j * 7 + t, none⟩ = some u := fun t u ht => (((bt hXr hZ).cell (p := ⟨gm, j * 7 + t, none⟩) hgm).trans (hcm' t (List.getElem?_eq_some_iff.1 ht).1)).trans ht
            refine ⟨g1 0 _ rfl, g1 1 _ rfl, g1 2 _ rfl, g1 3 _ rfl, g1 4 _ rfl, g1 5 _ rfl, g1 6 _ rfl, g2 0 _ rfl, g2 1 _ rfl, g2 2 _ rfl, g2 3 _ rfl, g2 4 _ rfl, g2 5 _ rfl, g2 6 _ rfl, ?_⟩
            exact (cells_of_block (hblk.out Z (bt hXr hZ))).1 5
          clear hcv' hcm' hco' hcs' hc1
          have hlt' : (j : Int) < (D.length : Int) := by omega
          have hgvr : gv < wr.heap.size := Nat.lt_of_lt_of_le hgv h2r.size
          have hgmr : gm < wr.heap.size := Nat.lt_of_lt_of_le hgm hXr.size
          have hgvn : ¬ gv = wr.heap.size := by omega
          go_upto_region 13 with fail
          go_cut [11, 12] from 84 to 97 (fun s11 s12 wx => ∃ (Bx : Nat) (b1 : Option Addr) (d1 : Nat), s11 = .pointer (some ⟨Bx, 0, none⟩) ∧ s12 = .bool true ∧ wr.heap.size ≤ Bx ∧ Below wr.heap.size wr wx ∧ wx.heap[Bx]? = some (.cells #[.int .u8 (ow : Nat), .int .u8 (va : Nat), .int .u64 s0, .int .u64 s1, .int .u64 s2, .int .u64 s3, .slice b1 ix.length d1] 45 (0, 0)) ∧ IsCoins wx (.slice b1 ix.length d1) ix)
          case first =>
            go_region_held2 (fun Z => Z.cell? ⟨gv, j * 7, none⟩ = some (.int .u8 (ow : Nat)) ∧ Z.cell? ⟨gv, j * 7 + 1, none⟩ = some (.int .u8 (va : Nat))) (first | (with_reducible assumption) | exact ⟨(hcells.out _ (by (repeat (first | (with_reducible exact Below.refl _ _) | (with_reducible assumption) | (with_reducible apply bd) | (with_reducible apply ba) | (with_reducible refine bp ?_ (by first | omega | (simp [pad_size]; done) | (simp [pad_size]; omega)) _ _) | (with_reducible refine bs ?_ (by first | omega | (simp [pad_size]; done) | (simp [pad_size]; omega)) _) | (with_reducible refine bt ?_ (by assumption)))))).1, (hcells.out _ (by (repeat (first | (with_reducible exact Below.refl _ _) | (with_reducible assumption) | (with_reducible apply bd) | (with_reducible apply ba) | (with_reducible refine bp ?_ (by first | omega | (simp [pad_size]; done) | (simp [pad_size]; omega)) _ _) | (with_reducible refine bs ?_ (by first | omega | (simp [pad_size]; done) | (simp [pad_size]; omega)) _) | (with_reducible refine bt ?_ (by assumption)))))).2.1⟩) (first
              | (go_at_call 19; refine (hVc.out _ (by (repeat (first | (with_reducible exact Below.refl _ _) | (with_reducible assumption) | (with_reducible apply bd) | (with_reducible apply ba) | (with_reducible refine bp ?_ (by first | omega | (simp [pad_size]; done) | (simp [pad_size]; omega)) _ _) | (with_reducible refine bs ?_ (by first | omega | (simp [pad_size]; done) | (simp [pad_size]; omega)) _) | (with_reducible refine bt ?_ (by assumption)))))).mono ?_; rintro e w3 ⟨b1, d1, rfl, u1, hb3⟩; have hb3' : Below wr.heap.size wr w3 := bt (by (repeat (first | (with_reducible exact Below.refl _ _) | (with_reducible assumption) | (with_reducible apply bd) | (with_reducible apply ba) | (with_reducible refine bp ?_ (by first | omega | (simp [pad_size]; done) | (simp [pad_size]; omega)) _ _) | (with_reducible refine bs ?_ (by first | omega | (simp [pad_size]; done) | (simp [pad_size]; omega)) _) | (with_reducible refine bt ?_ (by assumption))))) hb3; have hz3 := hb3'.size; have hg3 : ¬ gv = w3.heap.size := (by omega); (try (have q3 := (hb3.block wr.heap.size (by simp)).trans (al_at rfl); obtain ⟨e3x, f3x⟩ := cells_of_block q3; have y3x := (Array.getElem?_eq_some_iff.1 q3).1))))
            · go_wp2_with fail
              go_meet
              exact ⟨_, b1, d1, rfl, rfl, hz3, ba hb3' _, al_at rfl, IsCoins.below (own_coins u1 (by omega)) (ba (Below.refl _ _) _)⟩
            · go_wp2_with fail
              go_meet
              have hgr : w3.grownBy _ (some wr.heap.size) := grown_se (grown_se (grown_se (grown_se (grown_se (grown_se (grown_se (grown_ref w3 (some wr.heap.size)) 0 (.int .u8 (ow : Nat))) 1 (.int .u8 (va : Nat))) 2 (.int .u64 s0)) 3 (.int .u64 s1)) 4 (.int .u64 s2)) 5 (.int .u64 s3)) 6 (.slice b1 ix.length d1)
              have hnw : (Value.slice b1 ix.length d1).ownBlock ≠ some wr.heap.size := fun e => by have := (u1.lt _ e).1; simp at this; omega
              refine ⟨_, b1, d1, rfl, rfl, Nat.le_refl _, below_grown hb3' hgr (Nat.le_refl _), ?_, own_coins (u1.kept hgr (own_not hnw)) (by omega)⟩
              refine (block_set _ (block_set _ (block_set _ (block_set _ (block_set _ (block_set _ (block_set _ q3))))))).trans ?_
              simp
          case rest =>
            obtain ⟨Bx, b1, d1, rfl, rfl, hBx1, hBx2, hBx3, hBx4⟩ := hcut
            have v1 : Hid (IsCoins wc (.slice b1 ix.length d1) ix) := hBx4
            have hKp : Hid (∀ Z, Below wc.heap.size wc Z → Z.cell? ⟨gv, j * 7, none⟩ = some (.int .u8 (ow : Nat)) ∧ Z.cell? ⟨gv, j * 7 + 1, none⟩ = some (.int .u8 (va : Nat)) ∧ Z.cell? ⟨gv, j * 7 + 2, none⟩ = some (.int .u64 s0) ∧ Z.cell? ⟨gv, j * 7 + 3, none⟩ = some (.int .u64 s1) ∧ Z.cell? ⟨gv, j * 7 + 4, none⟩ = some (.int .u64 s2) ∧ Z.cell? ⟨gv, j * 7 + 5, none⟩ = some (.int .u64 s3) ∧ Z.cell? ⟨gv, j * 7 + 6, none⟩ = some (.slice p1 ix.length k1) ∧ Z.cell? ⟨gm, j * 7, none⟩ = some (.int .u8 (ow : Nat)) ∧ Z.cell? ⟨gm, j * 7 + 1, none⟩ = some (.int .u8 (va : Nat)) ∧ Z.cell? ⟨gm, j * 7 + 2, none⟩ = some (.int .u64 s0) ∧ Z.cell? ⟨gm, j * 7 + 3, none⟩ = some (.int .u64 s1) ∧ Z.cell? ⟨gm, j * 7 + 4, none⟩ = some (.int .u64 s2) ∧ Z.cell? ⟨gm, j * 7 + 5, none⟩ = some (.int .u64 s3) ∧ Z.cell? ⟨gm, j * 7 + 6, none⟩ = some (.slice q1 ix.length l1) ∧ Z.cell? ⟨m, 5, none⟩ = some (.slice (some ⟨gm, 0, none⟩) D.length cn) ∧ Z.cell? ⟨Bx, 0, none⟩ = some (.int .u8 (ow : Nat)) ∧ Z.cell? ⟨Bx, 1, none⟩ = some (.int .u8 (va : Nat)) ∧ Z.cell? ⟨Bx, 2, none⟩ = some (.int .u64 s0) ∧ Z.cell? ⟨Bx, 3, none⟩ = some (.int .u64 s1) ∧ Z.cell? ⟨Bx, 4, none⟩ = some (.int .u64 s2) ∧ Z.cell? ⟨Bx, 5, none⟩ = some (.int .u64 s3) ∧ Z.cell? ⟨Bx, 6, none⟩ = some (.slice b1 ix.length d1)) := fun Z hZ => by
              have hc := hcells.out Z (bt hBx2 hZ)
              have q1 := (cells_of_block ((hZ.block Bx (Array.getElem?_eq_some_iff.1 hBx3).1).trans hBx3)).1
              exact ⟨hc.1, hc.2.1, hc.2.2.1, hc.2.2.2.1, hc.2.2.2.2.1, hc.2.2.2.2.2.1, hc.2.2.2.2.2.2.1, hc.2.2.2.2.2.2.2.1, hc.2.2.2.2.2.2.2.2.1, hc.2.2.2.2.2.2.2.2.2.1, hc.2.2.2.2.2.2.2.2.2.2.1, hc.2.2.2.2.2.2.2.2.2.2.2.1, hc.2.2.2.2.2.2.2.2.2.2.2.2.1, hc.2.2.2.2.2.2.2.2.2.2.2.2.2.1, hc.2.2.2.2.2.2.2.2.2.2.2.2.2.2, q1 0, q1 1, q1 2, q1 3, q1 4, q1 5, q1 6⟩
            clear hcells hBx3 hBx4
            go_upto_region 14 with fail
            go_region_held2 (fun Z => Z.cell? ⟨gv, j * 7, none⟩ = some (.int .u8 (ow : Nat)) ∧ Z.cell? ⟨gv, j * 7 + 1, none⟩ = some (.int .u8 (va : Nat)) ∧ Z.cell? ⟨gv, j * 7 + 2, none⟩ = some (.int .u64 s0) ∧ Z.cell? ⟨gv, j * 7 + 3, none⟩ = some (.int .u64 s1) ∧ Z.cell? ⟨gv, j * 7 + 4, none⟩ = some (.int .u64 s2) ∧ Z.cell? ⟨gv, j * 7 + 5, none⟩ = some (.int .u64 s3) ∧ Z.cell? ⟨gv, j * 7 + 6, none⟩ = some (.slice p1 ix.length k1) ∧ Z.cell? ⟨gm, j * 7, none⟩ = some (.int .u8 (ow : Nat)) ∧ Z.cell? ⟨gm, j * 7 + 1, none⟩ = some (.int .u8 (va : Nat)) ∧ Z.cell? ⟨gm, j * 7 + 2, none⟩ = some (.int .u64 s0) ∧ Z.cell? ⟨gm, j * 7 + 3, none⟩ = some (.int .u64 s1) ∧ Z.cell? ⟨gm, j * 7 + 4, none⟩ = some (.int .u64 s2) ∧ Z.cell? ⟨gm, j * 7 + 5, none⟩ = some (.int .u64 s3) ∧ Z.cell? ⟨gm, j * 7 + 6, none⟩ = some (.slice q1 ix.length l1) ∧ Z.cell? ⟨m, 5, none⟩ = some (.slice (some ⟨gm, 0, none⟩) D.length cn) ∧ Z.cell? ⟨Bx, 0, none⟩ = some (.int .u8 (ow : Nat)) ∧ Z.cell? ⟨Bx, 1, none⟩ = some (.int .u8 (va : Nat)) ∧ Z.cell? ⟨Bx, 2, none⟩ = some (.int .u64 s0) ∧ Z.cell? ⟨Bx, 3, none⟩ = some (.int .u64 s1) ∧ Z.cell? ⟨Bx, 4, none⟩ = some (.int .u64 s2) ∧ Z.cell? ⟨Bx, 5, none⟩ = some (.int .u64 s3) ∧ Z.cell? ⟨Bx, 6, none⟩ = some (.slice b1 ix.length d1)) (first | (with_reducible assumption) | exact hKp.out _ (by (repeat (first | (with_reducible exact Below.refl _ _) | (with_reducible assumption) | (with_reducible apply bd) | (with_reducible apply ba) | (with_reducible refine bp ?_ (by first | omega | (simp [pad_size]; done) | (simp [pad_size]; omega)) _ _) | (with_reducible refine bs ?_ (by first | omega | (simp [pad_size]; done) | (simp [pad_size]; omega)) _) | (with_reducible refine bt ?_ (by assumption)))))) (first
              | (go_at_call 14; with_reducible refine (alike11_any (IsCoins.below e1.out (bt hBx2 (by (repeat (first | (with_reducible exact Below.refl _ _) | (with_reducible assumption) | (with_reducible apply bd) | (with_reducible apply ba) | (with_reducible refine bp ?_ (by first | omega | (simp [pad_size]; done) | (simp [pad_size]; omega)) _ _) | (with_reducible refine bs ?_ (by first | omega | (simp [pad_size]; done) | (simp [pad_size]; omega)) _) | (with_reducible refine bt ?_ (by assumption))))))) (IsCoins.below e3.out (bt hBx2 (by (repeat (first | (with_reducible exact Below.refl _ _) | (with_reducible assumption) | (with_reducible apply bd) | (with_reducible apply ba) | (with_reducible refine bp ?_ (by first | omega | (simp [pad_size]; done) | (simp [pad_size]; omega)) _ _) | (with_reducible refine bs ?_ (by first | omega | (simp [pad_size]; done) | (simp [pad_size]; omega)) _) | (with_reducible refine bt ?_ (by assumption)))))))).mono ?_; rintro e w4 ⟨rfl, hb4⟩)
              | (go_at_call 14; with_reducible refine (alike11_any (IsCoins.below v1.out (by (repeat (first | (with_reducible exact Below.refl _ _) | (with_reducible assumption) | (with_reducible apply bd) | (with_reducible apply ba) | (with_reducible refine bp ?_ (by first | omega | (simp [pad_size]; done) | (simp [pad_size]; omega)) _ _) | (with_reducible refine bs ?_ (by first | omega | (simp [pad_size]; done) | (simp [pad_size]; omega)) _) | (with_reducible refine bt ?_ (by assumption)))))) (IsCoins.below e1.out (bt hBx2 (by (repeat (first | (with_reducible exact Below.refl _ _) | (with_reducible assumption) | (with_reducible apply bd) | (with_reducible apply ba) | (with_reducible refine bp ?_ (by first | omega | (simp [pad_size]; done) | (simp [pad_size]; omega)) _ _) | (with_reducible refine bs ?_ (by first | omega | (simp [pad_size]; done) | (simp [pad_size]; omega)) _) | (with_reducible refine bt ?_ (by assumption)))))))).mono ?_; rintro e w5 ⟨rfl, hb5⟩))
            have hB6 : Below wr.heap.size wr w5 := (by first | exact bt hBx2 (bt hb4 hb5) | exact bt hBx2 (bt (bt (bd (Below.refl _ _)) hb4) hb5))
            all_goals go_wp2
            all_goals go_roundw
            case rel => exact ⟨j + 1, by omega, by go_num, bt hY hB6⟩
            case measure => (simp [intOf] <;> omega)
        · obtain rfl : j = D.length := by omega
          go_wp2
          go_ret
          exact ⟨rfl, hXr⟩
end
end Go.Proofs.Ytafcianpajheiaa

/- A number of 16 bits as it comes in. -/
namespace Go.Proofs.Ytafcianpajheiaa
open Go.ChangeShapes Go.WideShapes Go.ChangeAt Go.RowKit

theorem u16_in {H : Type} {enc : TypeId × Value → H} {w : World} {base : Nat} {spare : Nat → Bool} {held : Bool} {fuel : Nat} {x : DataW H × List MemPlace} {n : Int} (h : DataW.trod enc Try.prog w base spare held fuel 39 [.int .u16 n] = some x) : 0 ≤ n ∧ n < 65536 := by
  obtain ⟨d, ed, -, wd⟩ := DataW.trod_int Try.underlying39 h
  simp at ed
  subst ed
  have := bounds_u16 wd
  omega
end Go.Proofs.Ytafcianpajheiaa
