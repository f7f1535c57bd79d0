
/- The reference's store: Set. -/
import Derived.Test.YthajolagpnakkaaO15
set_option linter.unusedSimpArgs false
set_option linter.unusedVariables false
namespace Go.Proofs.Ythajolagpnakkaa
open Go.RowKit

theorem rpair_info : (Try.prog.info? 60).map (fun i => (i.zero, i.size, i.bytes)) = some (some (.agg #[.slice none 0 0, .slice none 0 0]), 2, 48) := by kernel_rfl
/-- A pair that can be read. -/
structure PB (W : World) (x : Rec) : Prop where
  k : IsBytes W x.kv x.k
  v : IsBytes W x.vv x.v
  kb : Byte x.k
  vb : Byte x.v
  kl : x.k.length ≤ 1048576
  vl : x.v.length ≤ 1048576
  kc : ∀ a n c, x.kv = .slice a n c → n ≤ c
theorem PB.below {W W' : World} {x : Rec} (h : PB W x) (hb : Below W.heap.size W W') : PB W' x := ⟨h.k.below hb, h.v.below hb, h.kb, h.vb, h.kl, h.vl, h.kc⟩
theorem isb_one {W : World} {v : Value} {p : List Int} (h : IsBytes W v p) : v.oneCell' = true := by
  obtain ⟨a, c, rfl⟩ := h.slice; rfl
/-- What holds all through: the new list so far, and nothing old has turned. -/
structure SJ (W X : World) (ov : Value) (o : List Rec) : Prop where
  row : X.ownsRow W.heap.size 60 2 ov o.length (cellsR o)
  below : Below W.heap.size W X
theorem SJ.call {W X X' : World} {ov : Value} {o : List Rec} (h : SJ W X ov o) (hb : Below X.heap.size X X') : SJ W X' ov o := ⟨none_row h.row (grown_none hb), bt h.below hb⟩
theorem SJ.app {W X : World} {ov : Value} {o : List Rec} (z : Rec) (h : SJ W X ov o) (h1 : z.kv.oneCell' = true) (h2 : z.vv.oneCell' = true) (hl : o.length ≤ 100000) {ops : Array Oper} {rest : List Oper} {op : Oper} {a : Act} {Q : Exit → Act → World → Prop} (hgd : op.guard = none) (s x : Operand)
    (ho : op.op = .call { callee := .builtin .append, args := #[s, x], argTypes := #[28, 28] }) (hs : a.eval s = ov) (hx : a.eval x = .slice (some ⟨X.heap.size, 0, none⟩) 1 1)
    (k : ∀ o' ov' w', Hid (o' = o ++ [z]) → o'.length ≤ o.length + 1 → SJ W w' ov' o' → wpList Try.prog ops Q rest (a.put op.dst ov') w') : wpList Try.prog ops Q (op :: rest) a (X.alloc (.cells #[z.kv, z.vv] 60)) := by
  obtain ⟨i0, hi0, hz0, hz1, hz2⟩ := rpair_info |> info_parts
  have hg := World.grownBy_alloc X (.cells #[z.kv, z.vv] 60) none
  refine wpList_append_own_at _ hgd s x 28 ho W.heap.size 60 i0 _ 2 48 Try.underlying28 hi0 hz0 hz1 hz2 rfl (by decide) ov o.length (cellsR o) hs (none_row h.row hg) ⟨X.heap.size, 0, none⟩ 1 1 [z.kv, z.vv] hx rfl (fun j u hj => by rw [add_cell, (cells_of_block (World.alloc_heap_new X _)).1]; simpa using hj) (by simp [h1, h2]) (by unfold maxLen; omega) (by omega) (Nat.le_trans h.below.size hg.size) ?_
  intro ov' w' hown hgr _ _
  refine k (o ++ [z]) ov' w' rfl (by simp) ⟨by rw [List.length_append, cellsR_app]; exact hown, ?_⟩
  exact (h.below.grown hg h.below.size (by simp)).grown hgr (Nat.le_trans h.below.size hg.size) (fun n hn => (h.row.lt n hn).1)
/-- A pair's two cells. -/
theorem rpair_at {W : World} {base : Nat} {vp : Value} {r : List Rec} {k : Nat} {x : Rec} (h : W.ownsRow base 60 2 vp r.length (cellsR r)) (hk : r[k]? = some x) : ∃ g cap, vp = .slice (some ⟨g, 0, none⟩) r.length cap ∧ g < W.heap.size ∧ W.cell? ⟨g, k * 2, none⟩ = some x.kv ∧ W.cell? ⟨g, k * 2 + 1, none⟩ = some x.vv := by
  have hkl := (List.getElem?_eq_some_iff.1 hk).1
  rcases h.2 with ⟨rfl, h0⟩ | ⟨g, cap, cur, rfl, h1, h2, h3⟩
  · omega
  · obtain ⟨e1, e2⟩ := cellsR_at r k x hk
    have c1 := h.cells (g := g) rfl _ _ e1
    have c2 := h.cells (g := g) rfl _ _ e2
    rw [add_cell, Nat.zero_add] at c1 c2
    exact ⟨g, cap, rfl, (Array.getElem?_eq_some_iff.1 h2).1, c1, c2⟩
set_option maxRecDepth 10000 in
set_option maxHeartbeats 8000000 in
theorem refSet_false {W : World} {m base : Nat} {vl vw : Value} {l : List Rec} {x : Rec} (hblk : W.heap[m]? = some (.cells #[vl, vw] 31 (0, 0))) (hl : W.ownsRow base 60 2 vl l.length (cellsR l)) (hall : ∀ y ∈ l, PB W y) (hx : PB W x) (hn : l.length ≤ 10000) :
    Calls Try.prog 34 #[.pointer (some ⟨m, 0, none⟩), x.kv, x.vv, .bool false] W fun e w' => e = .returned (.tuple #[]) ∧ ∃ vl', w'.heap[m]? = some (.cells #[vl', vw] 31 (0, 0)) ∧ w'.ownsRow W.heap.size 60 2 vl' (refGo x false l (!false)).length (cellsR (refGo x false l (!false))) ∧ W.grownBy w' (some m) := by
  obtain ⟨al, cl, rfl⟩ := row_slice hl
  have hx1 := isb_one hx.k
  have hx2 := isb_one hx.v
  obtain ⟨xkv, xvv, xk, xv⟩ := x
  obtain ⟨ax, cx, ekx⟩ := hx.k.slice
  obtain ⟨bx, dx, evx⟩ := hx.v.slice
  simp only at ekx evx
  subst ekx evx
  have hml := (Array.getElem?_eq_some_iff.1 hblk).1
  have hn' : (l.length : Int) ≤ 10000 := by omega
  obtain ⟨T, hT⟩ : ∃ T, T = refGo ⟨.slice ax xk.length cx, .slice bx xv.length dx, xk, xv⟩ false l (!false) := ⟨_, rfl⟩
  rw [← hT]
  have hT' : Hid _ := hT
  clear hT
  have hstart : SJ W W (.slice none 0 0) [] := ⟨World.ownsRow_nil _ _ _ _, Below.refl _ _⟩
  go_enter Try.func34, Try.ntmps34
  go_wp2
  go_loopw [8, 9, 10] (fun ov dv iv X => ∃ (i : Nat) (d : Bool) (o : List Rec), i ≤ l.length ∧ iv = .int .i64 (i : Int) ∧ dv = .bool d ∧ SJ W X ov o ∧ o.length ≤ 2 * i ∧ Hid (o ++ refGo ⟨.slice ax xk.length cx, .slice bx xv.length dx, xk, xv⟩ false (l.drop i) d = T)) (fun _ _ iv _ => l.length - (intOf iv).toNat)
  case atStart => exact ⟨0, !false, [], by omega, rfl, rfl, hstart, by simp, by unfold Hid; rw [hT'.out]; simp⟩
  case round =>
    obtain ⟨i, d, o, hi, rfl, rfl, hJ, hol, hgo⟩ := hrel
    have hmX := (hJ.below.block m hml).trans hblk
    obtain ⟨cm, fm⟩ := cells_of_block hmX
    obtain ⟨ao, co, rfl⟩ := row_slice hJ.row
    by_cases hlt : i < l.length
    · have hgoc : Hid (o ++ refGo ⟨.slice ax xk.length cx, .slice bx xv.length dx, xk, xv⟩ false (l[i] :: l.drop (i + 1)) d = T) := by unfold Hid; rw [← List.drop_eq_getElem_cons hlt]; exact hgo.out
      obtain ⟨g, cap, ev, hgl, c0, c1⟩ := rpair_at hl (List.getElem?_eq_getElem hlt)
      simp at ev
      obtain ⟨rfl, rfl⟩ := ev
      have hy := hall l[i] (List.getElem_mem hlt)
      have p0 := (hJ.below.cell (p := ⟨g, i * 2, none⟩) hgl).trans c0
      have p1 := (hJ.below.cell (p := ⟨g, i * 2 + 1, none⟩) hgl).trans c1
      have hkeep : Hid (∀ X, Below W.heap.size W X → X.cell? ⟨g, i * 2, none⟩ = some l[i].kv ∧ X.cell? ⟨g, i * 2 + 1, none⟩ = some l[i].vv ∧ X.heap[m]? = some (.cells #[.slice (some ⟨g, 0, none⟩) l.length cl, vw] 31 (0, 0))) := fun X hX => ⟨(hX.cell (p := ⟨g, i * 2, none⟩) hgl).trans c0, (hX.cell (p := ⟨g, i * 2 + 1, none⟩) hgl).trans c1, (hX.block m hml).trans hblk⟩
      have hlt' : (i : Int) < (l.length : Int) := by omega
      generalize l[i] = y at *
      clear c0 c1
      obtain ⟨ykv, yvv, yk, yv⟩ := y
      obtain ⟨ay, cy, eky⟩ := hy.k.slice
      obtain ⟨yb, dy, evy⟩ := hy.v.slice
      simp only at eky evy
      subst eky evy
      have hSm : Hid (∀ X, Below W.heap.size W X → Calls Try.prog 25 #[.slice ay yk.length cy, .slice ax xk.length cx] X fun e w' => e = .returned (.bool (decide (yk = xk))) ∧ Below X.heap.size X w') := fun X hX => same_any X (hy.k.below hX) (hx.k.below hX)
      have hLs : Hid (∀ X, Below W.heap.size W X → Calls Try.prog 26 #[.slice ax xk.length cx, .slice ay yk.length cy] X fun e w' => e = .returned (.bool (decide (cmpB xk yk < 0))) ∧ Below X.heap.size X w') := fun X hX => lessR_any X (hx.k.below hX) (hy.k.below hX) hx.kl hy.kl
      have hB := hJ.below
      have hoi : o.length ≤ 20000 := by omega
      clear hgo
      cases d
      · by_cases hc : cmpB xk yk < 0
        · have hne : ¬ yk = xk := fun e => by rw [e, cmp_self] at hc; omega
          have hfin : Hid ((o ++ [⟨.slice ax xk.length cx, .slice bx xv.length dx, xk, xv⟩]) ++ [⟨.slice ay yk.length cy, .slice yb yv.length dy, yk, yv⟩] ++ refGo ⟨.slice ax xk.length cx, .slice bx xv.length dx, xk, xv⟩ false (l.drop (i + 1)) true = T) := by unfold Hid; have h := hgoc.out; simpa [refGo, hc, hne] using h
          clear hgoc
          go_wp2_with (first
            | (go_at_call 26; refine (hLs.out _ (by assumption)).mono ?_; rintro e w2 ⟨rfl, hb2⟩; have hJ2 := SJ.call (by assumption) hb2; have hB2 := hJ2.below; obtain ⟨q0, q1, qm⟩ := hkeep.out _ hB2; obtain ⟨cmq, fmq⟩ := cells_of_block qm)
            | (go_at_call 25; refine (hSm.out _ (by assumption)).mono ?_; rintro e w3 ⟨rfl, hb3⟩; have hJ3 := SJ.call (by assumption) hb3; have hB3 := hJ3.below; obtain ⟨q0, q1, qm⟩ := hkeep.out _ hB3; obtain ⟨cmq, fmq⟩ := cells_of_block qm)
            | (at_builtin; (first | (refine SJ.app ⟨.slice ax xk.length cx, .slice bx xv.length dx, xk, xv⟩ (by assumption) rfl rfl (by omega) rfl _ _ rfl rfl rfl ?_) | (refine SJ.app ⟨.slice ay yk.length cy, .slice yb yv.length dy, yk, yv⟩ (by assumption) rfl rfl (by omega) rfl _ _ rfl rfl rfl ?_)); intro o4 ov4 w4 ho4 hl4 hJ4; rw [← ho4.out] at hfin; clear ho4; have hB4 := hJ4.below; obtain ⟨a4, c4, rfl⟩ := row_slice hJ4.row; obtain ⟨q0, q1, qm⟩ := hkeep.out _ hB4; obtain ⟨cmq, fmq⟩ := cells_of_block qm))
          all_goals go_roundw
          case rel => exact ⟨i + 1, true, _, by omega, by go_num, rfl, by assumption, by omega, hfin⟩
          case measure => (simp [intOf]; omega)
        · by_cases he : yk = xk
          · skip
            · have hfin : Hid (o ++ refGo ⟨.slice ax xk.length cx, .slice bx xv.length dx, xk, xv⟩ false (l.drop (i + 1)) false = T) := by unfold Hid; have h := hgoc.out; simpa [refGo, hc, he, cmp_self] using h
              clear hgoc
              obtain rfl := he.symm
              go_wp2_with (first
                | (go_at_call 26; refine (hLs.out _ (by assumption)).mono ?_; rintro e w2 ⟨rfl, hb2⟩; have hJ2 := SJ.call (by assumption) hb2; have hB2 := hJ2.below; obtain ⟨q0, q1, qm⟩ := hkeep.out _ hB2; obtain ⟨cmq, fmq⟩ := cells_of_block qm)
                | (go_at_call 25; refine (hSm.out _ (by assumption)).mono ?_; rintro e w3 ⟨rfl, hb3⟩; have hJ3 := SJ.call (by assumption) hb3; have hB3 := hJ3.below; obtain ⟨q0, q1, qm⟩ := hkeep.out _ hB3; obtain ⟨cmq, fmq⟩ := cells_of_block qm)
                | (at_builtin; (first | (refine SJ.app ⟨.slice ax xk.length cx, .slice bx xv.length dx, xk, xv⟩ (by assumption) rfl rfl (by omega) rfl _ _ rfl rfl rfl ?_) | (refine SJ.app ⟨.slice ay yk.length cy, .slice yb yv.length dy, yk, yv⟩ (by assumption) rfl rfl (by omega) rfl _ _ rfl rfl rfl ?_)); intro o4 ov4 w4 ho4 hl4 hJ4; rw [← ho4.out] at hfin; clear ho4; have hB4 := hJ4.below; obtain ⟨a4, c4, rfl⟩ := row_slice hJ4.row; obtain ⟨q0, q1, qm⟩ := hkeep.out _ hB4; obtain ⟨cmq, fmq⟩ := cells_of_block qm))
              all_goals go_roundw
              case rel => exact ⟨i + 1, false, _, by omega, by go_num, rfl, by assumption, by omega, hfin⟩
              case measure => (simp [intOf]; omega)
          · have hfin : Hid ((o ++ [⟨.slice ay yk.length cy, .slice yb yv.length dy, yk, yv⟩]) ++ refGo ⟨.slice ax xk.length cx, .slice bx xv.length dx, xk, xv⟩ false (l.drop (i + 1)) false = T) := by unfold Hid; have h := hgoc.out; simpa [refGo, hc, he, cmp_self] using h
            clear hgoc
            go_wp2_with (first
              | (go_at_call 26; refine (hLs.out _ (by assumption)).mono ?_; rintro e w2 ⟨rfl, hb2⟩; have hJ2 := SJ.call (by assumption) hb2; have hB2 := hJ2.below; obtain ⟨q0, q1, qm⟩ := hkeep.out _ hB2; obtain ⟨cmq, fmq⟩ := cells_of_block qm)
              | (go_at_call 25; refine (hSm.out _ (by assumption)).mono ?_; rintro e w3 ⟨rfl, hb3⟩; have hJ3 := SJ.call (by assumption) hb3; have hB3 := hJ3.below; obtain ⟨q0, q1, qm⟩ := hkeep.out _ hB3; obtain ⟨cmq, fmq⟩ := cells_of_block qm)
              | (at_builtin; (first | (refine SJ.app ⟨.slice ax xk.length cx, .slice bx xv.length dx, xk, xv⟩ (by assumption) rfl rfl (by omega) rfl _ _ rfl rfl rfl ?_) | (refine SJ.app ⟨.slice ay yk.length cy, .slice yb yv.length dy, yk, yv⟩ (by assumption) rfl rfl (by omega) rfl _ _ rfl rfl rfl ?_)); intro o4 ov4 w4 ho4 hl4 hJ4; rw [← ho4.out] at hfin; clear ho4; have hB4 := hJ4.below; obtain ⟨a4, c4, rfl⟩ := row_slice hJ4.row; obtain ⟨q0, q1, qm⟩ := hkeep.out _ hB4; obtain ⟨cmq, fmq⟩ := cells_of_block qm))
            all_goals go_roundw
            case rel => exact ⟨i + 1, false, _, by omega, by go_num, rfl, by assumption, by omega, hfin⟩
            case measure => (simp [intOf]; omega)
      · by_cases he : yk = xk
        · skip
          · have hfin : Hid (o ++ refGo ⟨.slice ax xk.length cx, .slice bx xv.length dx, xk, xv⟩ false (l.drop (i + 1)) true = T) := by unfold Hid; have h := hgoc.out; simpa [refGo, he] using h
            clear hgoc
            obtain rfl := he.symm
            go_wp2_with (first
              | (go_at_call 26; refine (hLs.out _ (by assumption)).mono ?_; rintro e w2 ⟨rfl, hb2⟩; have hJ2 := SJ.call (by assumption) hb2; have hB2 := hJ2.below; obtain ⟨q0, q1, qm⟩ := hkeep.out _ hB2; obtain ⟨cmq, fmq⟩ := cells_of_block qm)
              | (go_at_call 25; refine (hSm.out _ (by assumption)).mono ?_; rintro e w3 ⟨rfl, hb3⟩; have hJ3 := SJ.call (by assumption) hb3; have hB3 := hJ3.below; obtain ⟨q0, q1, qm⟩ := hkeep.out _ hB3; obtain ⟨cmq, fmq⟩ := cells_of_block qm)
              | (at_builtin; (first | (refine SJ.app ⟨.slice ax xk.length cx, .slice bx xv.length dx, xk, xv⟩ (by assumption) rfl rfl (by omega) rfl _ _ rfl rfl rfl ?_) | (refine SJ.app ⟨.slice ay yk.length cy, .slice yb yv.length dy, yk, yv⟩ (by assumption) rfl rfl (by omega) rfl _ _ rfl rfl rfl ?_)); intro o4 ov4 w4 ho4 hl4 hJ4; rw [← ho4.out] at hfin; clear ho4; have hB4 := hJ4.below; obtain ⟨a4, c4, rfl⟩ := row_slice hJ4.row; obtain ⟨q0, q1, qm⟩ := hkeep.out _ hB4; obtain ⟨cmq, fmq⟩ := cells_of_block qm))
            all_goals go_roundw
            case rel => exact ⟨i + 1, true, _, by omega, by go_num, rfl, by assumption, by omega, hfin⟩
            case measure => (simp [intOf]; omega)
        · have hfin : Hid ((o ++ [⟨.slice ay yk.length cy, .slice yb yv.length dy, yk, yv⟩]) ++ refGo ⟨.slice ax xk.length cx, .slice bx xv.length dx, xk, xv⟩ false (l.drop (i + 1)) true = T) := by unfold Hid; have h := hgoc.out; simpa [refGo, he] using h
          clear hgoc
          go_wp2_with (first
            | (go_at_call 26; refine (hLs.out _ (by assumption)).mono ?_; rintro e w2 ⟨rfl, hb2⟩; have hJ2 := SJ.call (by assumption) hb2; have hB2 := hJ2.below; obtain ⟨q0, q1, qm⟩ := hkeep.out _ hB2; obtain ⟨cmq, fmq⟩ := cells_of_block qm)
            | (go_at_call 25; refine (hSm.out _ (by assumption)).mono ?_; rintro e w3 ⟨rfl, hb3⟩; have hJ3 := SJ.call (by assumption) hb3; have hB3 := hJ3.below; obtain ⟨q0, q1, qm⟩ := hkeep.out _ hB3; obtain ⟨cmq, fmq⟩ := cells_of_block qm)
            | (at_builtin; (first | (refine SJ.app ⟨.slice ax xk.length cx, .slice bx xv.length dx, xk, xv⟩ (by assumption) rfl rfl (by omega) rfl _ _ rfl rfl rfl ?_) | (refine SJ.app ⟨.slice ay yk.length cy, .slice yb yv.length dy, yk, yv⟩ (by assumption) rfl rfl (by omega) rfl _ _ rfl rfl rfl ?_)); intro o4 ov4 w4 ho4 hl4 hJ4; rw [← ho4.out] at hfin; clear ho4; have hB4 := hJ4.below; obtain ⟨a4, c4, rfl⟩ := row_slice hJ4.row; obtain ⟨q0, q1, qm⟩ := hkeep.out _ hB4; obtain ⟨cmq, fmq⟩ := cells_of_block qm))
          all_goals go_roundw
          case rel => exact ⟨i + 1, true, _, by omega, by go_num, rfl, by assumption, by omega, hfin⟩
          case measure => (simp [intOf]; omega)
    · obtain rfl : i = l.length := by omega
      rw [List.drop_length] at hgo
      cases d
      · have hfin : Hid (o ++ [⟨.slice ax xk.length cx, .slice bx xv.length dx, xk, xv⟩] = T) := by unfold Hid; have h := hgo.out; simpa [refGo] using h
        clear hgo
        go_wp2_with (at_builtin; refine SJ.app ⟨.slice ax xk.length cx, .slice bx xv.length dx, xk, xv⟩ (by assumption) rfl rfl (by omega) rfl _ _ rfl rfl rfl ?_; intro o1 ov1 w1 ho1 hl1 hJ1; rw [← ho1.out] at hfin; clear ho1; obtain ⟨a1, c1, rfl⟩ := row_slice hJ1.row; obtain ⟨cm1, fm1⟩ := cells_of_block ((hJ1.below.block m hml).trans hblk))
        refine bodyPost_end (v := .tuple #[]) (by simp [results, Try.results34]) rfl ?_
        have hb1 := (hJ1.below.block m hml).trans hblk
        refine ⟨rfl, _, by rw [block_set _ hb1]; rfl, ?_, grown_tr (grown_up (grown_none hJ1.below)) (grown_se (grown_ref _ _) _ _)⟩
        rw [← hfin.out]
        exact row_set_other hJ1.row hb1 (by decide)
      · have hfin : Hid (o = T) := by unfold Hid; have h := hgo.out; simpa [refGo] using h
        clear hgo
        go_wp2
        refine bodyPost_end (v := .tuple #[]) (by simp [results, Try.results34]) rfl ?_
        refine ⟨rfl, _, by rw [block_set _ hmX]; rfl, ?_, grown_tr (grown_up (grown_none hJ.below)) (grown_se (grown_ref _ _) _ _)⟩
        rw [← hfin.out]
        exact row_set_other hJ.row hmX (by decide)
set_option maxRecDepth 10000 in
set_option maxHeartbeats 8000000 in
theorem refSet_true {W : World} {m base : Nat} {vl vw : Value} {l : List Rec} {x : Rec} (hblk : W.heap[m]? = some (.cells #[vl, vw] 31 (0, 0))) (hl : W.ownsRow base 60 2 vl l.length (cellsR l)) (hall : ∀ y ∈ l, PB W y) (hx : PB W x) (hn : l.length ≤ 10000) :
    Calls Try.prog 34 #[.pointer (some ⟨m, 0, none⟩), x.kv, x.vv, .bool true] W fun e w' => e = .returned (.tuple #[]) ∧ ∃ vl', w'.heap[m]? = some (.cells #[vl', vw] 31 (0, 0)) ∧ w'.ownsRow W.heap.size 60 2 vl' (refGo x true l (!true)).length (cellsR (refGo x true l (!true))) ∧ W.grownBy w' (some m) := by
  obtain ⟨al, cl, rfl⟩ := row_slice hl
  have hx1 := isb_one hx.k
  have hx2 := isb_one hx.v
  obtain ⟨xkv, xvv, xk, xv⟩ := x
  obtain ⟨ax, cx, ekx⟩ := hx.k.slice
  obtain ⟨bx, dx, evx⟩ := hx.v.slice
  simp only at ekx evx
  subst ekx evx
  have hml := (Array.getElem?_eq_some_iff.1 hblk).1
  have hn' : (l.length : Int) ≤ 10000 := by omega
  obtain ⟨T, hT⟩ : ∃ T, T = refGo ⟨.slice ax xk.length cx, .slice bx xv.length dx, xk, xv⟩ true l (!true) := ⟨_, rfl⟩
  rw [← hT]
  have hT' : Hid _ := hT
  clear hT
  have hstart : SJ W W (.slice none 0 0) [] := ⟨World.ownsRow_nil _ _ _ _, Below.refl _ _⟩
  go_enter Try.func34, Try.ntmps34
  go_wp2
  go_loopw [8, 9, 10] (fun ov dv iv X => ∃ (i : Nat) (d : Bool) (o : List Rec), i ≤ l.length ∧ iv = .int .i64 (i : Int) ∧ dv = .bool d ∧ SJ W X ov o ∧ o.length ≤ 2 * i ∧ Hid (o ++ refGo ⟨.slice ax xk.length cx, .slice bx xv.length dx, xk, xv⟩ true (l.drop i) d = T)) (fun _ _ iv _ => l.length - (intOf iv).toNat)
  case atStart => exact ⟨0, !true, [], by omega, rfl, rfl, hstart, by simp, by unfold Hid; rw [hT'.out]; simp⟩
  case round =>
    obtain ⟨i, d, o, hi, rfl, rfl, hJ, hol, hgo⟩ := hrel
    have hmX := (hJ.below.block m hml).trans hblk
    obtain ⟨cm, fm⟩ := cells_of_block hmX
    obtain ⟨ao, co, rfl⟩ := row_slice hJ.row
    by_cases hlt : i < l.length
    · have hgoc : Hid (o ++ refGo ⟨.slice ax xk.length cx, .slice bx xv.length dx, xk, xv⟩ true (l[i] :: l.drop (i + 1)) d = T) := by unfold Hid; rw [← List.drop_eq_getElem_cons hlt]; exact hgo.out
      obtain ⟨g, cap, ev, hgl, c0, c1⟩ := rpair_at hl (List.getElem?_eq_getElem hlt)
      simp at ev
      obtain ⟨rfl, rfl⟩ := ev
      have hy := hall l[i] (List.getElem_mem hlt)
      have p0 := (hJ.below.cell (p := ⟨g, i * 2, none⟩) hgl).trans c0
      have p1 := (hJ.below.cell (p := ⟨g, i * 2 + 1, none⟩) hgl).trans c1
      have hkeep : Hid (∀ X, Below W.heap.size W X → X.cell? ⟨g, i * 2, none⟩ = some l[i].kv ∧ X.cell? ⟨g, i * 2 + 1, none⟩ = some l[i].vv ∧ X.heap[m]? = some (.cells #[.slice (some ⟨g, 0, none⟩) l.length cl, vw] 31 (0, 0))) := fun X hX => ⟨(hX.cell (p := ⟨g, i * 2, none⟩) hgl).trans c0, (hX.cell (p := ⟨g, i * 2 + 1, none⟩) hgl).trans c1, (hX.block m hml).trans hblk⟩
      have hlt' : (i : Int) < (l.length : Int) := by omega
      generalize l[i] = y at *
      clear c0 c1
      obtain ⟨ykv, yvv, yk, yv⟩ := y
      obtain ⟨ay, cy, eky⟩ := hy.k.slice
      obtain ⟨yb, dy, evy⟩ := hy.v.slice
      simp only at eky evy
      subst eky evy
      have hSm : Hid (∀ X, Below W.heap.size W X → Calls Try.prog 25 #[.slice ay yk.length cy, .slice ax xk.length cx] X fun e w' => e = .returned (.bool (decide (yk = xk))) ∧ Below X.heap.size X w') := fun X hX => same_any X (hy.k.below hX) (hx.k.below hX)
      have hLs : Hid (∀ X, Below W.heap.size W X → Calls Try.prog 26 #[.slice ax xk.length cx, .slice ay yk.length cy] X fun e w' => e = .returned (.bool (decide (cmpB xk yk < 0))) ∧ Below X.heap.size X w') := fun X hX => lessR_any X (hx.k.below hX) (hy.k.below hX) hx.kl hy.kl
      have hB := hJ.below
      have hoi : o.length ≤ 20000 := by omega
      clear hgo
      cases d
      · by_cases hc : cmpB xk yk < 0
        · have hne : ¬ yk = xk := fun e => by rw [e, cmp_self] at hc; omega
          have hfin : Hid ((o ++ [⟨.slice ax xk.length cx, .slice bx xv.length dx, xk, xv⟩]) ++ [⟨.slice ay yk.length cy, .slice yb yv.length dy, yk, yv⟩] ++ refGo ⟨.slice ax xk.length cx, .slice bx xv.length dx, xk, xv⟩ true (l.drop (i + 1)) true = T) := by unfold Hid; have h := hgoc.out; simpa [refGo, hc, hne] using h
          clear hgoc
          go_wp2_with (first
            | (go_at_call 26; refine (hLs.out _ (by assumption)).mono ?_; rintro e w2 ⟨rfl, hb2⟩; have hJ2 := SJ.call (by assumption) hb2; have hB2 := hJ2.below; obtain ⟨q0, q1, qm⟩ := hkeep.out _ hB2; obtain ⟨cmq, fmq⟩ := cells_of_block qm)
            | (go_at_call 25; refine (hSm.out _ (by assumption)).mono ?_; rintro e w3 ⟨rfl, hb3⟩; have hJ3 := SJ.call (by assumption) hb3; have hB3 := hJ3.below; obtain ⟨q0, q1, qm⟩ := hkeep.out _ hB3; obtain ⟨cmq, fmq⟩ := cells_of_block qm)
            | (at_builtin; (first | (refine SJ.app ⟨.slice ax xk.length cx, .slice bx xv.length dx, xk, xv⟩ (by assumption) rfl rfl (by omega) rfl _ _ rfl rfl rfl ?_) | (refine SJ.app ⟨.slice ay yk.length cy, .slice yb yv.length dy, yk, yv⟩ (by assumption) rfl rfl (by omega) rfl _ _ rfl rfl rfl ?_)); intro o4 ov4 w4 ho4 hl4 hJ4; rw [← ho4.out] at hfin; clear ho4; have hB4 := hJ4.below; obtain ⟨a4, c4, rfl⟩ := row_slice hJ4.row; obtain ⟨q0, q1, qm⟩ := hkeep.out _ hB4; obtain ⟨cmq, fmq⟩ := cells_of_block qm))
          all_goals go_roundw
          case rel => exact ⟨i + 1, true, _, by omega, by go_num, rfl, by assumption, by omega, hfin⟩
          case measure => (simp [intOf]; omega)
        · by_cases he : yk = xk
          · skip
            · have hfin : Hid ((o ++ [⟨.slice ax xk.length cx, .slice bx xv.length dx, xk, xv⟩]) ++ refGo ⟨.slice ax xk.length cx, .slice bx xv.length dx, xk, xv⟩ true (l.drop (i + 1)) true = T) := by unfold Hid; have h := hgoc.out; simpa [refGo, hc, he, cmp_self] using h
              clear hgoc
              obtain rfl := he.symm
              go_wp2_with (first
                | (go_at_call 26; refine (hLs.out _ (by assumption)).mono ?_; rintro e w2 ⟨rfl, hb2⟩; have hJ2 := SJ.call (by assumption) hb2; have hB2 := hJ2.below; obtain ⟨q0, q1, qm⟩ := hkeep.out _ hB2; obtain ⟨cmq, fmq⟩ := cells_of_block qm)
                | (go_at_call 25; refine (hSm.out _ (by assumption)).mono ?_; rintro e w3 ⟨rfl, hb3⟩; have hJ3 := SJ.call (by assumption) hb3; have hB3 := hJ3.below; obtain ⟨q0, q1, qm⟩ := hkeep.out _ hB3; obtain ⟨cmq, fmq⟩ := cells_of_block qm)
                | (at_builtin; (first | (refine SJ.app ⟨.slice ax xk.length cx, .slice bx xv.length dx, xk, xv⟩ (by assumption) rfl rfl (by omega) rfl _ _ rfl rfl rfl ?_) | (refine SJ.app ⟨.slice ay yk.length cy, .slice yb yv.length dy, yk, yv⟩ (by assumption) rfl rfl (by omega) rfl _ _ rfl rfl rfl ?_)); intro o4 ov4 w4 ho4 hl4 hJ4; rw [← ho4.out] at hfin; clear ho4; have hB4 := hJ4.below; obtain ⟨a4, c4, rfl⟩ := row_slice hJ4.row; obtain ⟨q0, q1, qm⟩ := hkeep.out _ hB4; obtain ⟨cmq, fmq⟩ := cells_of_block qm))
              all_goals go_roundw
              case rel => exact ⟨i + 1, true, _, by omega, by go_num, rfl, by assumption, by omega, hfin⟩
              case measure => (simp [intOf]; omega)
          · have hfin : Hid ((o ++ [⟨.slice ay yk.length cy, .slice yb yv.length dy, yk, yv⟩]) ++ refGo ⟨.slice ax xk.length cx, .slice bx xv.length dx, xk, xv⟩ true (l.drop (i + 1)) false = T) := by unfold Hid; have h := hgoc.out; simpa [refGo, hc, he, cmp_self] using h
            clear hgoc
            go_wp2_with (first
              | (go_at_call 26; refine (hLs.out _ (by assumption)).mono ?_; rintro e w2 ⟨rfl, hb2⟩; have hJ2 := SJ.call (by assumption) hb2; have hB2 := hJ2.below; obtain ⟨q0, q1, qm⟩ := hkeep.out _ hB2; obtain ⟨cmq, fmq⟩ := cells_of_block qm)
              | (go_at_call 25; refine (hSm.out _ (by assumption)).mono ?_; rintro e w3 ⟨rfl, hb3⟩; have hJ3 := SJ.call (by assumption) hb3; have hB3 := hJ3.below; obtain ⟨q0, q1, qm⟩ := hkeep.out _ hB3; obtain ⟨cmq, fmq⟩ := cells_of_block qm)
              | (at_builtin; (first | (refine SJ.app ⟨.slice ax xk.length cx, .slice bx xv.length dx, xk, xv⟩ (by assumption) rfl rfl (by omega) rfl _ _ rfl rfl rfl ?_) | (refine SJ.app ⟨.slice ay yk.length cy, .slice yb yv.length dy, yk, yv⟩ (by assumption) rfl rfl (by omega) rfl _ _ rfl rfl rfl ?_)); intro o4 ov4 w4 ho4 hl4 hJ4; rw [← ho4.out] at hfin; clear ho4; have hB4 := hJ4.below; obtain ⟨a4, c4, rfl⟩ := row_slice hJ4.row; obtain ⟨q0, q1, qm⟩ := hkeep.out _ hB4; obtain ⟨cmq, fmq⟩ := cells_of_block qm))
            all_goals go_roundw
            case rel => exact ⟨i + 1, false, _, by omega, by go_num, rfl, by assumption, by omega, hfin⟩
            case measure => (simp [intOf]; omega)
      · by_cases he : yk = xk
        · skip
          · have hfin : Hid ((o ++ [⟨.slice ax xk.length cx, .slice bx xv.length dx, xk, xv⟩]) ++ refGo ⟨.slice ax xk.length cx, .slice bx xv.length dx, xk, xv⟩ true (l.drop (i + 1)) true = T) := by unfold Hid; have h := hgoc.out; simpa [refGo, he] using h
            clear hgoc
            obtain rfl := he.symm
            go_wp2_with (first
              | (go_at_call 26; refine (hLs.out _ (by assumption)).mono ?_; rintro e w2 ⟨rfl, hb2⟩; have hJ2 := SJ.call (by assumption) hb2; have hB2 := hJ2.below; obtain ⟨q0, q1, qm⟩ := hkeep.out _ hB2; obtain ⟨cmq, fmq⟩ := cells_of_block qm)
              | (go_at_call 25; refine (hSm.out _ (by assumption)).mono ?_; rintro e w3 ⟨rfl, hb3⟩; have hJ3 := SJ.call (by assumption) hb3; have hB3 := hJ3.below; obtain ⟨q0, q1, qm⟩ := hkeep.out _ hB3; obtain ⟨cmq, fmq⟩ := cells_of_block qm)
              | (at_builtin; (first | (refine SJ.app ⟨.slice ax xk.length cx, .slice bx xv.length dx, xk, xv⟩ (by assumption) rfl rfl (by omega) rfl _ _ rfl rfl rfl ?_) | (refine SJ.app ⟨.slice ay yk.length cy, .slice yb yv.length dy, yk, yv⟩ (by assumption) rfl rfl (by omega) rfl _ _ rfl rfl rfl ?_)); intro o4 ov4 w4 ho4 hl4 hJ4; rw [← ho4.out] at hfin; clear ho4; have hB4 := hJ4.below; obtain ⟨a4, c4, rfl⟩ := row_slice hJ4.row; obtain ⟨q0, q1, qm⟩ := hkeep.out _ hB4; obtain ⟨cmq, fmq⟩ := cells_of_block qm))
            all_goals go_roundw
            case rel => exact ⟨i + 1, true, _, by omega, by go_num, rfl, by assumption, by omega, hfin⟩
            case measure => (simp [intOf]; omega)
        · have hfin : Hid ((o ++ [⟨.slice ay yk.length cy, .slice yb yv.length dy, yk, yv⟩]) ++ refGo ⟨.slice ax xk.length cx, .slice bx xv.length dx, xk, xv⟩ true (l.drop (i + 1)) true = T) := by unfold Hid; have h := hgoc.out; simpa [refGo, he] using h
          clear hgoc
          go_wp2_with (first
            | (go_at_call 26; refine (hLs.out _ (by assumption)).mono ?_; rintro e w2 ⟨rfl, hb2⟩; have hJ2 := SJ.call (by assumption) hb2; have hB2 := hJ2.below; obtain ⟨q0, q1, qm⟩ := hkeep.out _ hB2; obtain ⟨cmq, fmq⟩ := cells_of_block qm)
            | (go_at_call 25; refine (hSm.out _ (by assumption)).mono ?_; rintro e w3 ⟨rfl, hb3⟩; have hJ3 := SJ.call (by assumption) hb3; have hB3 := hJ3.below; obtain ⟨q0, q1, qm⟩ := hkeep.out _ hB3; obtain ⟨cmq, fmq⟩ := cells_of_block qm)
            | (at_builtin; (first | (refine SJ.app ⟨.slice ax xk.length cx, .slice bx xv.length dx, xk, xv⟩ (by assumption) rfl rfl (by omega) rfl _ _ rfl rfl rfl ?_) | (refine SJ.app ⟨.slice ay yk.length cy, .slice yb yv.length dy, yk, yv⟩ (by assumption) rfl rfl (by omega) rfl _ _ rfl rfl rfl ?_)); intro o4 ov4 w4 ho4 hl4 hJ4; rw [← ho4.out] at hfin; clear ho4; have hB4 := hJ4.below; obtain ⟨a4, c4, rfl⟩ := row_slice hJ4.row; obtain ⟨q0, q1, qm⟩ := hkeep.out _ hB4; obtain ⟨cmq, fmq⟩ := cells_of_block qm))
          all_goals go_roundw
          case rel => exact ⟨i + 1, true, _, by omega, by go_num, rfl, by assumption, by omega, hfin⟩
          case measure => (simp [intOf]; omega)
    · obtain rfl : i = l.length := by omega
      rw [List.drop_length] at hgo
      cases d
      · have hfin : Hid (o ++ [⟨.slice ax xk.length cx, .slice bx xv.length dx, xk, xv⟩] = T) := by unfold Hid; have h := hgo.out; simpa [refGo] using h
        clear hgo
        go_wp2_with (at_builtin; refine SJ.app ⟨.slice ax xk.length cx, .slice bx xv.length dx, xk, xv⟩ (by assumption) rfl rfl (by omega) rfl _ _ rfl rfl rfl ?_; intro o1 ov1 w1 ho1 hl1 hJ1; rw [← ho1.out] at hfin; clear ho1; obtain ⟨a1, c1, rfl⟩ := row_slice hJ1.row; obtain ⟨cm1, fm1⟩ := cells_of_block ((hJ1.below.block m hml).trans hblk))
        refine bodyPost_end (v := .tuple #[]) (by simp [results, Try.results34]) rfl ?_
        have hb1 := (hJ1.below.block m hml).trans hblk
        refine ⟨rfl, _, by rw [block_set _ hb1]; rfl, ?_, grown_tr (grown_up (grown_none hJ1.below)) (grown_se (grown_ref _ _) _ _)⟩
        rw [← hfin.out]
        exact row_set_other hJ1.row hb1 (by decide)
      · have hfin : Hid (o = T) := by unfold Hid; have h := hgo.out; simpa [refGo] using h
        clear hgo
        go_wp2
        refine bodyPost_end (v := .tuple #[]) (by simp [results, Try.results34]) rfl ?_
        refine ⟨rfl, _, by rw [block_set _ hmX]; rfl, ?_, grown_tr (grown_up (grown_none hJ.below)) (grown_se (grown_ref _ _) _ _)⟩
        rw [← hfin.out]
        exact row_set_other hJ.row hmX (by decide)
theorem refSet_any {W : World} {m base : Nat} {vl vw : Value} {l : List Rec} {x : Rec} (is : Bool) (hblk : W.heap[m]? = some (.cells #[vl, vw] 31 (0, 0))) (hl : W.ownsRow base 60 2 vl l.length (cellsR l)) (hall : ∀ y ∈ l, PB W y) (hx : PB W x) (hn : l.length ≤ 10000) :
    Calls Try.prog 34 #[.pointer (some ⟨m, 0, none⟩), x.kv, x.vv, .bool is] W fun e w' => e = .returned (.tuple #[]) ∧ ∃ vl', w'.heap[m]? = some (.cells #[vl', vw] 31 (0, 0)) ∧ w'.ownsRow W.heap.size 60 2 vl' (refGo x is l (!is)).length (cellsR (refGo x is l (!is))) ∧ W.grownBy w' (some m) := by
  cases is
  · exact refSet_false hblk hl hall hx hn
  · exact refSet_true hblk hl hall hx hn
end Go.Proofs.Ythajolagpnakkaa
