
/- For all deeds and every owner jointurelaw11.PoolOf returns true and writes nothing that was there: an owner's delegations, by their validators, are just those of all that are its. No condition. -/
import Derived.Test.YtafcianpajheiaaPQ7
import Derived.Deep.MidRow
import Derived.Test.YtafcianpajheiaaV6
set_option linter.unusedSimpArgs false
set_option linter.unusedVariables false
set_option maxRecDepth 20000
namespace Go.Proofs.Ytafcianpajheiaa
open Go.ChangeShapes Go.WideShapes Go.ChangeAt Go.RowKit

theorem fewP_t2 {l : List Pact} (h : fewP l = true) : l.length ≤ 30 := by
  simp only [fewP, Bool.and_eq_true, decide_eq_true_eq] at h; exact h.1
theorem filter_at {D : List Dg} {o j : Nat} (hj : j < D.length) (ho : D[j].ow = o) : (D.filter (fun d => decide (d.ow = o)))[((D.take j).filter (fun d => decide (d.ow = o))).length]? = some D[j] := by
  have e : D.filter (fun d => decide (d.ow = o)) = (D.take j).filter (fun d => decide (d.ow = o)) ++ (D[j] :: (D.drop (j + 1)).filter (fun d => decide (d.ow = o))) := by
    conv => lhs; rw [← List.take_append_drop j D]
    rw [List.filter_append, List.drop_eq_getElem_cons hj, List.filter_cons_of_pos (by simp [ho])]
  rw [e, List.getElem?_append_right (Nat.le_refl _), Nat.sub_self]
  rfl
theorem filter_take {D : List Dg} {o j : Nat} (hj : j < D.length) : ((D.take (j + 1)).filter (fun d => decide (d.ow = o))).length = ((D.take j).filter (fun d => decide (d.ow = o))).length + (if D[j].ow = o then 1 else 0) := by
  rw [List.take_succ_eq_append_getElem hj, List.filter_append, List.length_append]
  by_cases h : D[j].ow = o <;> simp [h]
set_option maxRecDepth 20000 in
set_option maxHeartbeats 16000000 in
theorem poolOf_any {w : World} (a : Option Addr) (len cap : Nat) (l : List Pact) (n1 : Int) (hm : len ≤ 9223372036854775807) (h : PasIn w a len l) (h1 : 0 ≤ n1 ∧ n1 ≤ 255) :
    Calls Try.prog 4 #[.slice a len cap, .int .u8 n1] w fun e w' => e = .returned (.bool true) ∧ Below w.heap.size w w' := by
  obtain ⟨o, rfl⟩ := Int.eq_ofNat_of_zero_le h1.1
  have ho : o ≤ 255 := by omega
  clear h1
  cases hf : fewP l
  · have hF : Hid (∀ W, Below w.heap.size w W → Calls Try.prog 9 #[.slice a len cap] W fun e w' => e = .returned (.bool false) ∧ Below W.heap.size W w') := fun W hW => by rw [← hf]; exact few11_any hm h W hW
    clear hf
    go_enter Try.func4, Try.ntmps4
    go_upto_region 2 with (first
      | (go_at_call 8; refine (adds_any _).mono ?_; rintro e w1 ⟨rfl, hb1⟩)
      | (go_at_call 9; refine (hF.out _ hb1).mono ?_; rintro e w2 ⟨rfl, hb2⟩))
    go_wp2_with (go_at_call 8; refine (adds_any _).mono ?_; rintro e w3 ⟨rfl, hb3⟩)
    go_ret
    exact ⟨rfl, bt (bt hb1 hb2) hb3⟩
  · have hF : Hid (∀ W, Below w.heap.size w W → Calls Try.prog 9 #[.slice a len cap] W fun e w' => e = .returned (.bool true) ∧ Below W.heap.size W w') := fun W hW => by rw [← hf]; exact few11_any hm h W hW
    have hl30 := fewP_t2 hf
    have hln := h.num
    clear hf
    go_enter Try.func4, Try.ntmps4
    go_wp2_with (first
      | (go_at_call 8; refine (adds_any _).mono ?_; rintro e w1 ⟨rfl, hb1⟩)
      | (go_at_call 9; refine (hF.out _ hb1).mono ?_; rintro e w2 ⟨rfl, hb2⟩; have hb12 := bt hb1 hb2; clear hb1 hb2 hF)
      | (go_at_call 10; refine (stdNew _).mono ?_; rintro e w3 ⟨rfl, h3, hb3⟩; have hP := pp_new hb12 h3 hb3; clear h3 hb3))
    go_loopw [7] (fun i X => ∃ (j : Nat) (V : List Vd) (D : List Dg), j ≤ len ∧ i = .int .i64 (j : Int) ∧ PP w X w2.heap.size w3.heap.size V D j) (fun i _ => len - (intOf i).toNat)
    case atStart => exact ⟨0, _, _, by omega, rfl, hP⟩
    case round =>
      obtain ⟨j, V, D, hj, rfl, hB⟩ := hrel
      by_cases hlt : j < len
      · have hkl : j < l.length := by omega
        obtain ⟨blk, off, rfl, hb, hc⟩ := pac_at h hB.out hkl
        have hy := h.ok l[j] (List.getElem_mem hkl)
        have hD := does11_any hB (by omega) hy
        have hD' : Hid (Calls Try.prog 11 #[.pointer (some ⟨w2.heap.size, 0, none⟩), .pointer (some ⟨w3.heap.size, 0, none⟩), .agg (paC l[j]).toArray] wr fun e w' => e = .returned (.bool true) ∧ ∃ V' D', PP w w' w2.heap.size w3.heap.size V' D' (j + 1)) := hD
        have hc : Hid (wr.rangeAt blk (off + j * 22) (paC l[j])) := fun t v ht => hc t v ht
        clear hD
        generalize l[j] = y at *
        have hlt' : (j : Int) < (len : Int) := by omega
        clear hy hP h hB
        go_wp2_with (first
          | (refine wpList_load_mid rfl 47 _ rfl blk (off + j * 22) rfl (paC y) _ hc.out Try.underlying47 rfl (by kernel_rfl) ?_)
          | (go_at_call 11; refine (Calls.mono hD'.out ?_); rintro e w4 ⟨rfl, V', D', hB4⟩))
        all_goals go_roundw
        case rel => exact ⟨j + 1, V', D', by omega, by go_num, hB4⟩
        case measure => (simp [intOf] <;> omega)
      · obtain rfl : j = len := by omega
        rename World => wz
        have hout := hB.out
        obtain ⟨A, L, base, B, base', vv, vd, M, N, hD, hPL, hS, hMV, hND, hdis, -, -⟩ := hB
        have hLl := hD.llen
        have hDl := hPL.dlen
        have hNl : N.length = D.length := by rw [← hND, List.length_map]
        have hD8 : D.length ≤ 800 := by omega
        obtain ⟨avd, cn, rfl⟩ := row_slice hS.rowD
        have hml := hS.lt
        have hblk : Hid (∀ Y, Below wz.heap.size wz Y → Y.heap[w3.heap.size]? = some (.cells #[.int .u64 0, .slice none 0 0, .slice none 0 0, .slice none 0 0, vv, .slice avd D.length cn, .slice none 0 0, .slice none 0 0] 37 (0, 0))) := fun Y hY => by rw [← hNl]; exact (hY.block _ hml).trans hS.blk
        have hS : Hid (RSt _ _ _ _ _ _ _ _ _ _ _ _ _ _ _) := hS
        have hOf := of_any11 (o := o) ho hD hPL (by omega) (by omega)
        have hNl' : Hid (N.length = D.length) := hNl
        have hlenD : Hid (∀ x ∈ D, x.ix.length ≤ 8) := fun x hx => right_len (hPL.dok x hx).ir
        obtain ⟨T, hT⟩ : ∃ T, D.filter (fun d => decide (d.ow = o)) = T := ⟨_, rfl⟩
        rw [hT] at hOf
        have hT' : Hid (_ = T) := hT
        have hTl : T.length ≤ 800 := by rw [← hT]; exact Nat.le_trans (List.length_filter_le _ _) hD8
        clear hNl hT hD hPL hdis hLl hDl hP h hl30 hln hlt hj hm
        go_wp2_with (go_at_call 13; refine hOf.mono ?_; clear hOf; rintro e w5 ⟨v5, K, rfl, hK, hb5⟩; obtain ⟨ak, ck, rfl⟩ := row_slice hK.row; rw [hK.len]; replace hK : Hid (DRow _ _ _ _ _) := hK)
        have hKl : Hid (K.length = T.length) := hK.out.len
        go_loopw [9, 10] (fun kv i Y => ∃ j : Nat, j ≤ D.length ∧ i = .int .i64 (j : Int) ∧ kv = .int .i64 (((D.take j).filter (fun d => decide (d.ow = o))).length : Nat) ∧ Below w5.heap.size w5 Y) (fun _ i _ => D.length - (intOf i).toNat)
        case atStart => exact ⟨0, by omega, rfl, by simp, Below.refl _ _⟩
        case round =>
          obtain ⟨j, hj, rfl, rfl, hY⟩ := hrel
          have hXr : Below wz.heap.size wz wr := bt hb5 hY
          by_cases hltD : j < D.length
          · have hlt : j < N.length := by rw [hNl'.out]; exact hltD
            obtain ⟨gm, km', em, hgm, -, hcm⟩ := row_at dxC_len hS.out.rowD hlt
            rw [hNl'.out] at em
            simp at em
            obtain ⟨rfl, rfl⟩ := em
            have x2 : N[j].d = D[j] := by
              have e : (N.map (·.d))[j]? = some N[j].d := by rw [List.getElem?_map, List.getElem?_eq_getElem hlt]; rfl
              rw [hND, List.getElem?_eq_getElem hltD] at e
              simp at e
              exact e.symm
            have hcs := hS.out.cd N[j] (List.getElem_mem hlt)
            have hln := hlenD.out D[j] (List.getElem_mem hltD)
            have hlt' : (j : Int) < (D.length : Int) := by omega
            have hft := filter_take (o := o) hltD
            obtain ⟨y2, x2', hcm', hcs'⟩ : ∃ y2 : Dx, y2.d = D[j] ∧ (∀ t, t < 7 → wz.cell? ⟨gm, j * 7 + t, none⟩ = (dxC y2)[t]?) ∧ DxLo wz w.heap.size y2 := ⟨_, x2, hcm, hcs⟩
            clear x2 hcm hcs
            obtain ⟨em, fm⟩ := cells_of_block (hblk.out wr hXr)
            by_cases hoj : D[j].ow = o
            · have hfa := filter_at hltD hoj
              rw [hT'.out] at hfa
              rw [if_pos hoj] at hft
              generalize ((D.take j).filter (fun d => decide (d.ow = o))).length = k at *
              replace hft : Hid (_ = _) := hft
              obtain ⟨hkT, hkD⟩ := List.getElem?_eq_some_iff.1 hfa
              have hkK : k < K.length := by rw [hKl.out]; exact hkT
              obtain ⟨gv, kv', ev, hgv, -, hcv⟩ := row_at dxC_len hK.out.row hkK
              rw [hKl.out] at ev
              simp at ev
              obtain ⟨rfl, rfl⟩ := ev
              have x1 : K[k].d = D[j] := by
                have e : (K.map (·.d))[k]? = some K[k].d := by rw [List.getElem?_map, List.getElem?_eq_getElem hkK]; rfl
                rw [hK.out.mp, hfa] at e
                simp at e
                exact e.symm
              have hco := hK.out.co K[k] (List.getElem_mem hkK)
              obtain ⟨y1, x1', hcv', b0, hco'⟩ : ∃ y1 : Dx, y1.d = D[j] ∧ (∀ t, t < 7 → w5.cell? ⟨gv, k * 7 + t, none⟩ = (dxC y1)[t]?) ∧ ∃ b0, DxOw w5 b0 y1 := ⟨_, x1, hcv, _, hco⟩
              clear x1 hcv hco hkD hfa
              generalize D[j] = x at *
              obtain ⟨yx, p1, k1⟩ := y1
              obtain ⟨zx, q1, l1⟩ := y2
              simp only at x1' x2'
              obtain ⟨ow, va, s0, s1, s2, s3, ix⟩ := x
              subst x1' x2'
              simp only at hln hoj
              subst hoj
              have hc1 := hco'.co (by show ix.length ≤ _; omega)
              have e1 : Hid (IsCoins wr (.slice p1 ix.length k1) ix) := IsCoins.below hc1 hY
              have e3 : Hid (IsCoins wr (.slice q1 ix.length l1) ix) := hcs'.c1.below hXr
              have hcells : Hid (∀ Z, Below wr.heap.size wr Z → Z.cell? ⟨gv, k * 7, none⟩ = some (.int .u8 (ow : Nat)) ∧ Z.cell? ⟨gv, k * 7 + 1, none⟩ = some (.int .u8 (va : Nat)) ∧ Z.cell? ⟨gv, k * 7 + 2, none⟩ = some (.int .u64 s0) ∧ Z.cell? ⟨gv, k * 7 + 3, none⟩ = some (.int .u64 s1) ∧ Z.cell? ⟨gv, k * 7 + 4, none⟩ = some (.int .u64 s2) ∧ Z.cell? ⟨gv, k * 7 + 5, none⟩ = some (.int .u64 s3) ∧ Z.cell? ⟨gv, k * 7 + 6, none⟩ = some (.slice p1 ix.length k1) ∧ Z.cell? ⟨gm, j * 7, none⟩ = some (.int .u8 (ow : Nat)) ∧ Z.cell? ⟨gm, j * 7 + 1, none⟩ = some (.int .u8 (va : Nat)) ∧ Z.cell? ⟨gm, j * 7 + 2, none⟩ = some (.int .u64 s0) ∧ Z.cell? ⟨gm, j * 7 + 3, none⟩ = some (.int .u64 s1) ∧ Z.cell? ⟨gm, j * 7 + 4, none⟩ = some (.int .u64 s2) ∧ Z.cell? ⟨gm, j * 7 + 5, none⟩ = some (.int .u64 s3) ∧ Z.cell? ⟨gm, j * 7 + 6, none⟩ = some (.slice q1 ix.length l1) ∧ Z.cell? ⟨w3.heap.size, 5, none⟩ = some (.slice (some ⟨gm, 0, none⟩) D.length cn)) := fun Z hZ => by
                have g1 : ∀ (t : Nat) (u : Value), (dxC ⟨⟨ow, va, s0, s1, s2, s3, ix⟩, p1, k1⟩)[t]? = some u → Z.cell? ⟨gv, k * 7 + t, none⟩ = some u := fun t u ht => (((bt hY hZ).cell (p := ⟨gv, k * 7 + t, none⟩) hgv).trans (hcv' t (List.getElem?_eq_some_iff.1 ht).1)).trans ht
                have g2 : ∀ (t : Nat) (u : Value), (dxC ⟨⟨ow, va, s0, s1, s2, s3, ix⟩, q1, l1⟩)[t]? = some u → Z.cell? ⟨gm, j * 7 + t, none⟩ = some u := fun t u ht => (((bt hXr hZ).cell (p := ⟨gm, j * 7 + t, none⟩) hgm).trans (hcm' t (List.getElem?_eq_some_iff.1 ht).1)).trans ht
                refine ⟨g1 0 _ rfl, g1 1 _ rfl, g1 2 _ rfl, g1 3 _ rfl, g1 4 _ rfl, g1 5 _ rfl, g1 6 _ rfl, g2 0 _ rfl, g2 1 _ rfl, g2 2 _ rfl, g2 3 _ rfl, g2 4 _ rfl, g2 5 _ rfl, g2 6 _ rfl, ?_⟩
                exact (cells_of_block (hblk.out Z (bt hXr hZ))).1 5
              have hr0 := (hcells.out wr (Below.refl _ _))
              have c0 := hr0.2.2.2.2.2.2.2.1
              clear hcv' hcm' hco' hcs' hc1 hr0
              have hk1 : decide ((T.length : Int) ≤ (k : Int)) = false := by simpa using hkT
              have hk2 : decide (T.length ≤ k) = false := by simpa using hkT
              have hk3 : (k : Int) < (T.length : Int) := by omega
              have hgvr : gv < wr.heap.size := Nat.lt_of_lt_of_le hgv hY.size
              have hgmr : gm < wr.heap.size := Nat.lt_of_lt_of_le hgm hXr.size
              go_upto_region 14 with fail
              go_region_held2 (fun Z => Z.cell? ⟨gv, k * 7, none⟩ = some (.int .u8 (ow : Nat)) ∧ Z.cell? ⟨gv, k * 7 + 1, none⟩ = some (.int .u8 (va : Nat)) ∧ Z.cell? ⟨gv, k * 7 + 2, none⟩ = some (.int .u64 s0) ∧ Z.cell? ⟨gv, k * 7 + 3, none⟩ = some (.int .u64 s1) ∧ Z.cell? ⟨gv, k * 7 + 4, none⟩ = some (.int .u64 s2) ∧ Z.cell? ⟨gv, k * 7 + 5, none⟩ = some (.int .u64 s3) ∧ Z.cell? ⟨gv, k * 7 + 6, none⟩ = some (.slice p1 ix.length k1) ∧ Z.cell? ⟨gm, j * 7, none⟩ = some (.int .u8 (ow : Nat)) ∧ Z.cell? ⟨gm, j * 7 + 1, none⟩ = some (.int .u8 (va : Nat)) ∧ Z.cell? ⟨gm, j * 7 + 2, none⟩ = some (.int .u64 s0) ∧ Z.cell? ⟨gm, j * 7 + 3, none⟩ = some (.int .u64 s1) ∧ Z.cell? ⟨gm, j * 7 + 4, none⟩ = some (.int .u64 s2) ∧ Z.cell? ⟨gm, j * 7 + 5, none⟩ = some (.int .u64 s3) ∧ Z.cell? ⟨gm, j * 7 + 6, none⟩ = some (.slice q1 ix.length l1) ∧ Z.cell? ⟨w3.heap.size, 5, none⟩ = some (.slice (some ⟨gm, 0, none⟩) D.length cn)) (first | (with_reducible assumption) | exact hcells.out _ (by (repeat (first | (with_reducible exact Below.refl _ _) | (with_reducible assumption) | (with_reducible apply bd) | (with_reducible apply ba) | (with_reducible refine bp ?_ (by first | omega | (simp [pad_size]; done) | (simp [pad_size]; omega)) _ _) | (with_reducible refine bs ?_ (by first | omega | (simp [pad_size]; done) | (simp [pad_size]; omega)) _) | (with_reducible refine bt ?_ (by assumption)))))) (first
                | (go_at_call 14; with_reducible refine (alike11_any (IsCoins.below e1.out (by (repeat (first | (with_reducible exact Below.refl _ _) | (with_reducible assumption) | (with_reducible apply bd) | (with_reducible apply ba) | (with_reducible refine bp ?_ (by first | omega | (simp [pad_size]; done) | (simp [pad_size]; omega)) _ _) | (with_reducible refine bs ?_ (by first | omega | (simp [pad_size]; done) | (simp [pad_size]; omega)) _) | (with_reducible refine bt ?_ (by assumption)))))) (IsCoins.below e3.out (by (repeat (first | (with_reducible exact Below.refl _ _) | (with_reducible assumption) | (with_reducible apply bd) | (with_reducible apply ba) | (with_reducible refine bp ?_ (by first | omega | (simp [pad_size]; done) | (simp [pad_size]; omega)) _ _) | (with_reducible refine bs ?_ (by first | omega | (simp [pad_size]; done) | (simp [pad_size]; omega)) _) | (with_reducible refine bt ?_ (by assumption))))))).mono ?_; rintro e w4 ⟨rfl, hb4⟩))
              have hB6 : Below wr.heap.size wr w4 := (by first | exact hb4 | exact bt (bd (Below.refl _ _)) hb4)
              all_goals go_wp2
              all_goals go_roundw
              case rel => exact ⟨j + 1, by omega, by go_num, by (have e := hft.out; rw [e]; go_num), bt hY hB6⟩
              case measure => (simp [intOf] <;> omega)
            · rw [if_neg hoj, Nat.add_zero] at hft
              generalize ((D.take j).filter (fun d => decide (d.ow = o))).length = k at *
              replace hft : Hid (_ = _) := hft
              have c0 := (hXr.cell (p := ⟨gm, j * 7 + 0, none⟩) hgm).trans (hcm' 0 (by decide))
              rw [Nat.add_zero] at c0
              generalize D[j] = x at *
              obtain ⟨zx, q1, l1⟩ := y2
              simp only at x2'
              subst x2'
              simp [dxC] at c0
              have hne : ¬ (zx.ow : Int) = (o : Int) := by omega
              clear hcm' hcs' hln
              go_wp2
              all_goals go_roundw
              case rel => exact ⟨j + 1, by omega, by go_num, by (have e := hft.out; rw [e, Nat.add_zero]), hY⟩
              case measure => (simp [intOf] <;> omega)
          · obtain rfl : j = D.length := by omega
            have hTe : Hid (((D.take D.length).filter (fun d => decide (d.ow = o))).length = T.length) := by show _ = _; rw [List.take_length, hT'.out]
            rw [hTe.out]
            obtain ⟨em, fm⟩ := cells_of_block (hblk.out wr hXr)
            go_wp2
            go_ret
            exact ⟨rfl, bt hout hXr⟩

theorem poolOf_own : ownKnob Try.prog.godebug = none := by kernel_rfl
theorem poolOf_laid : laidOutB Try.prog = true := by kernel_rfl

set_option maxRecDepth 100000 in
theorem poolOf_lifted (os : Os) (started : os.Started) (H : Type) (enc : TypeId × Value → H) :
    ReturnsInHanded {} Try.checked os 4 .any (Rows.poolOfSpec.pre6 enc Try.prog Try.f4 Rows.poolOfRow.domain false) (Rows.poolOfSpec.post enc Try.prog Try.f4 false true false false) := by
  refine returnsInHanded_of_change (C := Try.checked) poolOf_own started (by kernel_rfl) Try.func4
    (ChangeSpec.witness6 (enc := enc) (C := Try.checked) false ⟨#[], #[.slice none 0 0, .int .u8 0], []⟩ 8 (by kernel_rfl) (by kernel_rfl) (by kernel_rfl) (by kernel_rfl)) ?_
  intro W base args ds gs before hval0 hW hcnd _
  have hval : ∀ (j : Nat) t v, Try.f4.params[j]? = some t → args[j]? = some v → Value.okWide Try.prog W .any base t v := hval0
  have hW' := hW
  obtain ⟨p, q, hA0, hV, rfl, hfz, hnd⟩ := hW
  have hA : DataW.TrodAll enc Try.prog W 0 (fun _ => true) true Try.f4.params.toList args.toList ds p := hA0
  rw [Try.params4] at hA hval
  obtain ⟨v0, vs0, d0, ds0, p0, q0, hargs0, rfl, rfl, h0, r0⟩ := trodAll_cons hA
  obtain ⟨v1, vs1, d1, ds1, p1, q1, hargs1, rfl, rfl, h1, r1⟩ := trodAll_cons r0
  obtain ⟨rfl, rfl, rfl⟩ := trodAll_nil r1
  obtain rfl : args = #[v0, v1] := by cases args; simp_all
  obtain ⟨rfl, rfl⟩ := trodVars_none hV
  have k0 := h0
  have lt0 : ∀ x ∈ p0, x.block < W.heap.size := by obtain ⟨m, hm⟩ := k0; exact DataW.trod_lt m _ _ _ hm
  have k1 := h1
  have lt1 : ∀ x ∈ p1, x.block < W.heap.size := by obtain ⟨m, hm⟩ := k1; exact DataW.trod_lt m _ _ _ hm
  obtain ⟨a0, len0, cap0, rfl⟩ := okWide_slice Try.underlying22 (hval 0 22 v0 rfl rfl)
  obtain ⟨fuel0, hf0⟩ := h0
  simp only [Value.cells] at hf0
  obtain ⟨l0, hl0⟩ := acts11_open hf0
  obtain ⟨n1, rfl⟩ := okWide_int Try.underlying5 (hval 1 5 v1 rfl rfl)
  obtain ⟨fuel1, hf1⟩ := h1
  simp only [Value.cells] at hf1
  clear hA0 hval0
  have walk : Calls Try.prog 4 _ W fun e w' => e = .returned (.bool true) ∧ Below W.heap.size W w' := poolOf_any a0 len0 cap0 l0 n1 (slice_len Try.underlying22 hf0) hl0 (u8_in hf1)
  refine walk.mono fun e W' ⟨he, bel⟩ => ?_
  subst he
  exact ⟨_, rfl, _, _, _, [], _, [], hW', trodAll_mk1 (shut_bool Try.underlying4 _), trodAll_cons_mk (Below.trod poolOf_laid (by kernel_rfl) (of_decide_eq_true (by kernel_rfl)) k0 bel lt0) (trodAll_cons_mk (Below.trod poolOf_laid (by kernel_rfl) (of_decide_eq_true (by kernel_rfl)) k1 bel lt1) (trodAll_mk0)), rfl, bel.frame _, fun h => by cases h⟩

theorem poolOf_holds : Rows.PoolOfSaid :=
  OpenClaim.holds_of_wide 4 Try.f4 rfl rfl rfl rfl rfl rfl rfl ⟨rfl, rfl, rfl, rfl, rfl⟩ rfl rfl rfl rfl rfl (by kernel_rfl) Try.func4 (by kernel_rfl)
    (of_decide_eq_true (by kernel_rfl)) (by unfold Func.isWrapper; first | (rw [if_pos (by decide +kernel)]; kernel_rfl) | (rw [if_neg (by decide +kernel)]; exact ⟨rfl, rfl⟩))
    (fun os started H enc _ => poolOf_lifted os started H enc)
#print axioms poolOf_holds
end Go.Proofs.Ytafcianpajheiaa
