
/- slices.Insert and slices.Delete at a store's pairs. -/
import Derived.Test.YtafcianpajheiaaO2
import Derived.Laws.OwnMore
import Derived.Lib.AppendZeros
import Derived.Lib.AppendZerosOnto
import Derived.Lib.Overlaps
set_option linter.unusedSimpArgs false
set_option linter.unusedVariables false
set_option maxRecDepth 20000
namespace Go.Proofs.Ytafcianpajheiaa
open Go.RowKit

theorem run_copy_k {P : Program} (w : World) (k : Nat) (dT sT ty elem : TypeId) (g o dLen dCap : Nat) (a : Addr) (sLen sCap : Nat) (cur : List Value) (t : TypeId) (cs : List Value)
    (hu : P.underlying dT = some (.slice elem)) (hs : (P.info? elem).map (·.size) = some k)
    (hg : w.heap[g]? = some (.cells cur.toArray t (0, 0))) (hn : cs.length = Nat.min sLen dLen * k)
    (hsrc : ∀ j v, cs[j]? = some v → w.cell? (a.add j) = some v) (hfit : o + cs.length ≤ cur.length) (h1 : ∀ v ∈ cs, v.oneCell' = true) :
    ∃ v' w', (Builtin.copy_ #[dT, sT] ty #[.slice (some ⟨g, o, none⟩) dLen dCap, .slice (some a) sLen sCap]).run P w = .ok v' w' ∧ w'.heap[g]? = some (.cells (splice cur o cs).toArray t (0, 0)) ∧ w.grownBy w' (some g) := by
  have hl := run_loadCells_list (P := P) w a cs hsrc
  have hst := run_storeCells_at P g o t cs 0 cur.toArray w hg (by simpa using hfit) h1
  refine ⟨goInt (Nat.min sLen dLen), w.setRow g (splice cur o cs).toArray, ?_, setRow_heap w g _ _ t _ hg, ⟨rfl, rfl, rfl, by simp [World.setRow], fun n _ hne => setRow_other w g n _ (fun e => hne (by rw [e]))⟩⟩
  cases hq : P.info? elem with
  | none => simp [hq] at hs
  | some i =>
    have hi : i.size = k := by simpa [hq] using hs
    have hst' : (storeCells ⟨g, o, none⟩ cs).run P w = .ok () (w.setRow g (splice cur o cs).toArray) := by
      simpa [splice, List.append_assoc] using hst
    simp [Builtin.copy_, run_underlying hu, Builtin.lenOf, Builtin.firstCells, sizeOf, typeInfo, hq, hi, ← hn, hl, hst']
/-- copy as one operation: of elements of k cells, into a block that is known whole. -/
theorem wp_copy_k {P : Program} (w : World) (k : Nat) {o : Oper} {a : Act} {K : Act → World → Prop} {Q : Exit → Act → World → Prop} (d s : Operand) (dT sT : TypeId)
    (ho : o.op = .call { callee := .builtin .copy, args := #[d, s], argTypes := #[dT, sT] }) (elem : TypeId) (hu : P.underlying dT = some (.slice elem)) (hs : (P.info? elem).map (·.size) = some k)
    (g off dLen dCap : Nat) (ad : Addr) (sLen sCap : Nat) (hd : a.eval d = .slice (some ⟨g, off, none⟩) dLen dCap) (hx : a.eval s = .slice (some ad) sLen sCap)
    (cur : List Value) (t : TypeId) (cs : List Value) (hg : w.heap[g]? = some (.cells cur.toArray t (0, 0))) (hn : cs.length = Nat.min sLen dLen * k)
    (hsrc : ∀ j v, cs[j]? = some v → w.cell? (ad.add j) = some v) (hfit : off + cs.length ≤ cur.length) (h1 : ∀ v ∈ cs, v.oneCell' = true)
    (h : ∀ v' w', Hid (w'.heap[g]? = some (.cells (splice cur off cs).toArray t (0, 0))) → w.grownBy w' (some g) → K (a.put o.dst v') w') : o.wp P a w K Q := by
  obtain ⟨v', w', hr, h2, h3⟩ := run_copy_k (P := P) w k dT sT o.type elem g off dLen dCap ad sLen sCap cur t cs hu hs hg hn hsrc hfit h1
  unfold Oper.wp execOp
  simp only [ho, resolve, invoke, builtin, Sem.run_bind, Sem.run_pure, Result.andThen_ok, List.map_toArray, List.map_cons, List.map_nil, hd, hx, hr]
  exact h v' w' h2 h3
theorem wpList_copy_k {P : Program} (w : World) (k : Nat) {ops : Array Oper} {rest : List Oper} {o : Oper} {a : Act} {Q : Exit → Act → World → Prop} (hgd : o.guard = none) (d s : Operand) (dT sT : TypeId)
    (ho : o.op = .call { callee := .builtin .copy, args := #[d, s], argTypes := #[dT, sT] }) (elem : TypeId) (hu : P.underlying dT = some (.slice elem)) (hs : (P.info? elem).map (·.size) = some k)
    (g off dLen dCap : Nat) (ad : Addr) (sLen sCap : Nat) (hd : a.eval d = .slice (some ⟨g, off, none⟩) dLen dCap) (hx : a.eval s = .slice (some ad) sLen sCap)
    (cur : List Value) (t : TypeId) (cs : List Value) (hg : w.heap[g]? = some (.cells cur.toArray t (0, 0))) (hn : cs.length = Nat.min sLen dLen * k)
    (hsrc : ∀ j v, cs[j]? = some v → w.cell? (ad.add j) = some v) (hfit : off + cs.length ≤ cur.length) (h1 : ∀ v ∈ cs, v.oneCell' = true)
    (h : ∀ v' w', Hid (w'.heap[g]? = some (.cells (splice cur off cs).toArray t (0, 0))) → w.grownBy w' (some g) → wpList P ops Q rest (a.put o.dst v') w') : wpList P ops Q (o :: rest) a w :=
  wpList_plain hgd fun _ hK => wp_copy_k w k d s dT sT ho elem hu hs g off dLen dCap ad sLen sCap hd hx cur t cs hg hn hsrc hfit h1 (fun v' w' h2 h3 => hK _ _ (h v' w' h2 h3))

theorem pair_info : (Try.prog.info? 112).map (fun i => (i.zero, i.size, i.bytes)) = some (some (.agg #[.slice none 0 0, .slice none 0 0]), 2, 48) := by kernel_rfl
theorem pair_two : (Try.prog.info? 112).map (·.size) = some 2 := by kernel_rfl
/-- A value that takes one cell. -/
def One (v : Value) : Prop := v.oneCell' = true
theorem InA.one {W : World} {A : Nat → Prop} {v : Value} {q : List Int} (h : InA W A v q) : v.oneCell' = true := by
  obtain ⟨⟨g, -, e, -⟩, -⟩ := h; subst e; rfl
theorem cellsR_one {W : World} {A : Nat → Prop} {r : List Rec} (h : ∀ x ∈ r, RecAt W A x) : ∀ u ∈ cellsR r, u.oneCell' = true := by
  intro u hu
  obtain ⟨x, hx, hu⟩ := List.mem_flatMap.1 hu
  simp at hu
  rcases hu with rfl | rfl
  · exact (h x hx).1.one
  · exact (h x hx).2.one
theorem cellsR_app (r q : List Rec) : cellsR (r ++ q) = cellsR r ++ cellsR q := by simp [cellsR]
theorem cellsR_take (r : List Rec) (i : Nat) (hi : i ≤ r.length) : (cellsR r).take (i * 2) = cellsR (r.take i) := by
  have e : cellsR r = cellsR (r.take i) ++ cellsR (r.drop i) := by rw [← cellsR_app, List.take_append_drop]
  have hl : (cellsR (r.take i)).length = i * 2 := by rw [cellsR_len, List.length_take]; congr 1; omega
  rw [e, ← hl, List.take_left]
theorem cellsR_drop (r : List Rec) (i : Nat) (hi : i ≤ r.length) : (cellsR r).drop (i * 2) = cellsR (r.drop i) := by
  have e : cellsR r = cellsR (r.take i) ++ cellsR (r.drop i) := by rw [← cellsR_app, List.take_append_drop]
  have hl : (cellsR (r.take i)).length = i * 2 := by rw [cellsR_len, List.length_take]; congr 1; omega
  rw [e, ← hl, List.drop_left]
/-- What a turned row leaves: a row with this; it is the old one, or new. -/
structure RowTo (W W' : World) (base : Nat) (vp vp' : Value) (r : List Rec) : Prop where
  row : W'.ownsRow base 112 2 vp' r.length (cellsR r)
  grown : W.grownBy W' vp.ownBlock
  own : vp'.ownBlock = vp.ownBlock ∨ ∃ g, vp'.ownBlock = some g ∧ W.heap.size ≤ g

set_option maxHeartbeats 2000000 in
theorem insert_end {W : World} {base : Nat} {vp : Value} {r : List Rec} (x : Rec) (hr : W.ownsRow base 112 2 vp r.length (cellsR r)) (hb : base ≤ W.heap.size) (hn : r.length ≤ 1048576) (gb : Nat) (hx : W.heap[gb]? = some (.cells #[x.kv, x.vv] 112 (0, 0))) (h1 : x.kv.oneCell' = true) (h2 : x.vv.oneCell' = true) :
    Calls Try.prog 76 #[vp, .int .i64 (r.length : Int), .slice (some ⟨gb, 0, none⟩) 1 1] W fun e w' => ∃ v', e = .returned v' ∧ RowTo W w' base vp v' (r ++ [x]) := by
  obtain ⟨i0, hi, hz0, hz1, hz2⟩ := info_parts pair_info
  obtain ⟨av, cv, rfl⟩ := row_slice hr
  have hcl : r.length ≤ cv := by
    rcases hr.2 with ⟨e, e0⟩ | ⟨g, cap, cur, e, _, _, h3, _⟩
    · omega
    · simp at e; omega
  have hcl' : (r.length : Int) ≤ (cv : Int) := by omega
  rcases Decidable.em (cv = r.length) with rfl | hcv
  all_goals
    have hn' : (r.length : Int) ≤ 1048576 := by omega
    have hap : ∀ j u, ([x.kv, x.vv] : List Value)[j]? = some u → W.cell? (Addr.add ⟨gb, 0, none⟩ j) = some u := fun j u hj => by
      rw [add_cell, (cells_of_block hx).1]; simpa using hj
    go_enter Try.func76, Try.ntmps76
    go_wp2_with (at_builtin; refine wpList_append_own_at _ rfl _ _ 68 rfl base 112 i0 _ 2 48 Try.underlying68 hi hz0 hz1 hz2 rfl (by decide) _ r.length (cellsR r) rfl hr ⟨gb, 0, none⟩ 1 1 [x.kv, x.vv] rfl rfl hap (by simp [h1, h2]) (by unfold maxLen; omega) (by omega) hb ?_; intro v' w1 hown' hgrow _ hat)
    all_goals go_ret
    all_goals
      refine ⟨_, rfl, ?_, hgrow, ?_⟩
      · rw [List.length_append, cellsR_app]; exact hown'
      · rcases hat with e | e
        · exact .inl e
        · exact .inr ⟨_, e, Nat.le_refl _⟩

theorem splice_mid {α : Type} (X M R cs : List α) (h : M.length = cs.length) : splice (X ++ (M ++ R)) X.length cs = X ++ (cs ++ R) := by
  unfold splice
  rw [List.take_left, List.drop_length_add_append, ← h, List.drop_left]
theorem splice_two {α : Type} (X Y V R : List α) (hV : V.length = 2) (hR : 2 ≤ R.length) : splice (splice (X ++ (Y ++ R)) (X.length + 2) Y) X.length V = X ++ (V ++ (Y ++ R.drop 2)) := by
  have hT : ((Y ++ R).take 2).length = 2 := by rw [List.length_take, List.length_append]; omega
  have hM : (((Y ++ R).drop 2).take Y.length).length = Y.length := by rw [List.length_take, List.length_drop, List.length_append]; omega
  have e : Y ++ R = (Y ++ R).take 2 ++ (((Y ++ R).drop 2).take Y.length ++ ((Y ++ R).drop 2).drop Y.length) := by rw [List.take_append_drop, List.take_append_drop]
  have e2 : ((Y ++ R).drop 2).drop Y.length = R.drop 2 := by rw [List.drop_drop, Nat.add_comm, List.drop_length_add_append]
  rw [e2] at e
  generalize (Y ++ R).take 2 = T at *
  generalize ((Y ++ R).drop 2).take Y.length = M at *
  rw [e, ← List.append_assoc X T, show X.length + 2 = (X ++ T).length by rw [List.length_append, hT], splice_mid _ _ _ _ hM, List.append_assoc, splice_mid _ _ _ _ (by rw [hT, hV])]
theorem row_open {W : World} {base n : Nat} {vp : Value} {r : List Rec} (hr : W.ownsRow base 112 2 vp n (cellsR r)) (hn : n = r.length) (hpos : 0 < r.length) : ∃ g cap, ∃ R : List Value, vp = .slice (some ⟨g, 0, none⟩) r.length cap ∧ base ≤ g ∧ W.heap[g]? = some (.cells (cellsR r ++ R).toArray 112 (0, 0)) ∧ r.length ≤ cap ∧ cap ≤ maxLen ∧ r.length * 2 + R.length = cap * 2 := by
  subst hn
  rcases hr.2 with ⟨rfl, h0⟩ | ⟨g, cap, cur, rfl, h1, h2, h3, h4, h5, h6⟩
  · omega
  · refine ⟨g, cap, cur.toList.drop (r.length * 2), rfl, h1, ?_, h3, h4, ?_⟩
    · rw [← h6, List.take_append_drop]; simpa using h2
    · have e : cur.toList.length = cap * 2 := by simpa using h5
      rw [List.length_drop, e]
      have := Nat.mul_le_mul_right 2 h3
      omega
theorem overlaps_no {W : World} {ga gb : Nat} {ca cb : Array Value} {ta tb : TypeId} (ha : W.heap[ga]? = some (.cells ca ta (0, 0))) (hb : W.heap[gb]? = some (.cells cb tb (0, 0))) (hne : ga ≠ gb) (hcb : cb.size ≠ 0) (la cpa o lb cpb : Nat) :
    (callFunc 81 #[.slice (some ⟨ga, 0, none⟩) la cpa, .slice (some ⟨gb, o, none⟩) lb cpb]).run Try.prog W = .ok (.value (.bool false)) W := by
  obtain ⟨i0, hi, hz0, hz1, hz2⟩ := info_parts pair_info
  rw [run_callFunc_extern Try.func81 (by kernel_rfl) (by kernel_rfl) (by kernel_rfl) (e := Extern.SlicesOverlaps.overlaps #[68, 68] #[4]) (by kernel_rfl),
    Lib.run_overlaps_apart W 68 4 112 Try.underlying68 2 (fun w => by simp [sizeOf, typeInfo, hi, hz1]) ⟨ga, 0, none⟩ ⟨gb, o, none⟩ la cpa lb cpb hne ta tb ca.size cb.size (by simp [World.shape?, ha]) (by simp [World.shape?, hb]) hcb ((cells_of_block ha).2 _) ((cells_of_block ha).2 _)]
  rfl

set_option maxRecDepth 10000 in
set_option maxHeartbeats 4000000 in
theorem insert_room {W : World} {base g cap i : Nat} {r : List Rec} {R : List Value} (x : Rec) (hi : i < r.length) (hg : W.heap[g]? = some (.cells (cellsR r ++ R).toArray 112 (0, 0))) (hbg : base ≤ g) (hroom : r.length + 1 ≤ cap) (hcap : cap ≤ maxLen) (hR : r.length * 2 + R.length = cap * 2) (hn : r.length ≤ 1048576) (h1r : ∀ u ∈ cellsR r, u.oneCell' = true)
    (gb : Nat) (hx : W.heap[gb]? = some (.cells #[x.kv, x.vv] 112 (0, 0))) (hne : gb ≠ g) (h1 : x.kv.oneCell' = true) (h2 : x.vv.oneCell' = true) :
    Calls Try.prog 76 #[.slice (some ⟨g, 0, none⟩) r.length cap, .int .i64 (i : Int), .slice (some ⟨gb, 0, none⟩) 1 1] W fun e w' => ∃ v', e = .returned v' ∧ RowTo W w' base (.slice (some ⟨g, 0, none⟩) r.length cap) v' (r.take i ++ x :: r.drop i) := by
  have hov := fun la cpa o lb cpb => overlaps_no hx hg hne (by simp [cellsR_len]; omega) la cpa o lb cpb
  have hi' : (i : Int) < (r.length : Int) := by omega
  have hn' : (r.length : Int) ≤ 1048576 := by omega
  have hroom' : (r.length : Int) + 1 ≤ (cap : Int) := by omega
  have hcap' : (cap : Int) ≤ 9223372036854775807 := by unfold maxLen at hcap; omega
  have k1 : ¬ cap = i := by omega
  have k2 : ¬ cap = i + 1 := by omega
  have k3 : ¬ (r.length : Int) = (i : Int) := by omega
  have k4 : ¬ (i : Int) = (r.length : Int) := by omega
  have w1 : IntKind.i64.wrap ((i : Int) + 1) = (i : Int) + 1 := by rw [IntKind.wrap_i64]; omega
  have w2 : IntKind.i64.wrap ((r.length : Int) + 1) = (r.length : Int) + 1 := by rw [IntKind.wrap_i64]; omega
  have w3 : (0 : Int) ≤ (i : Int) + 1 := by omega
  have w4 : ((i : Int) + 1).toNat = i + 1 := by omega
  have w5 : ((r.length : Int) + 1).toNat = r.length + 1 := by omega
  have w6 : (i : Int) + 1 ≤ (r.length : Int) + 1 := by omega
  have w7 : (i : Int) ≤ (r.length : Int) + 1 := by omega
  have w8 : (i : Int) ≤ (r.length : Int) := by omega
  have w9 : i + 1 ≤ r.length + 1 := by omega
  have w10 : i ≤ r.length + 1 := by omega
  have w11 : (i : Int) ≤ (cap : Int) := by omega
  have eY : (cellsR r).drop (i * 2) = cellsR (r.drop i) := cellsR_drop r i (by omega)
  have hcr := cellsR_len r
  have hcd := cellsR_len (r.drop i)
  rw [List.length_drop] at hcd
  have hsrc : ∀ j v, (cellsR (r.drop i))[j]? = some v → W.cell? (Addr.add ⟨g, i * 2, none⟩ j) = some v := fun j v hj => by
    have hjl := (List.getElem?_eq_some_iff.1 hj).1
    rw [← eY, List.getElem?_drop] at hj
    rw [add_cell, (cells_of_block hg).1]
    simp only [List.getElem?_toArray]
    rw [List.getElem?_append_left (by omega)]
    exact hj
  go_enter Try.func76, Try.ntmps76
  go_wp2
  go_region_held2 (fun _ => True) (exact True.intro) (first
    | (rw [if_pos (by rfl)]; go_loud (refine wp_copy_k _ 2 _ _ 68 68 rfl 112 Try.underlying68 pair_two g ((i + 1) * 2) (r.length + 1 - (i + 1)) (cap - (i + 1)) ⟨g, i * 2, none⟩ (r.length + 1 - i) (cap - i) (by simp [Act.eval]) (by simp [Act.eval]) (cellsR r ++ R) 112 (cellsR (r.drop i)) hg (by rw [hcd]; show _ = (min _ _) * 2; omega) hsrc (by rw [hcd, List.length_append, hcr]; omega) (fun u hu => h1r u (by rw [← eY] at hu; exact List.mem_of_mem_drop hu)) ?_; intro v1 w1 HG1 hgr1)))
  have hx1 := (hgr1.block gb (Array.getElem?_eq_some_iff.1 hx).1 (by simp; omega)).trans hx
  have hap : ∀ j u, ([x.kv, x.vv] : List Value)[j]? = some u → w1.cell? (Addr.add ⟨gb, 0, none⟩ j) = some u := fun j u hj => by
    rw [add_cell, (cells_of_block hx1).1]; simpa using hj
  have hcl : (splice (cellsR r ++ R) ((i + 1) * 2) (cellsR (r.drop i))).length = cap * 2 := by
    rw [length_splice _ _ _ (by rw [hcd, List.length_append, hcr]; omega), List.length_append, hcr]; exact hR
  obtain ⟨C, hC⟩ : ∃ C, C = splice (cellsR r ++ R) ((i + 1) * 2) (cellsR (r.drop i)) := ⟨_, rfl⟩
  rw [← hC] at HG1 hcl
  have hC' : Hid _ := hC
  clear hC
  go_wp2_with (refine wpList_copy_k _ 2 rfl _ _ 68 68 rfl 112 Try.underlying68 pair_two g (i * 2) (r.length + 1 - i) (cap - i) ⟨gb, 0, none⟩ 1 1 (by simp [Act.eval]) rfl C 112 [x.kv, x.vv] HG1.out (by show 2 = (min _ _) * 2; omega) hap (by rw [hcl]; simp; omega) (by simp [h1, h2]) ?_; intro v2 w2 HG2 hgr2)
  go_ret
  have hz : r.take i ++ x :: r.drop i = r.take i ++ ([x] ++ r.drop i) := by simp
  have hfin : (splice C (i * 2) [x.kv, x.vv]) = cellsR (r.take i ++ x :: r.drop i) ++ R.drop 2 := by
    have e1 : cellsR r = cellsR (r.take i) ++ cellsR (r.drop i) := by rw [← cellsR_app, List.take_append_drop]
    have hl : (cellsR (r.take i)).length = i * 2 := by rw [cellsR_len, List.length_take]; congr 1; omega
    rw [hC'.out, e1, List.append_assoc, ← hl, show (i + 1) * 2 = (cellsR (r.take i)).length + 2 by omega, splice_two _ _ _ _ rfl (by omega), hz, cellsR_app, cellsR_app]
    simp [cellsR]
  have hlen : (r.take i ++ x :: r.drop i).length = r.length + 1 := by rw [List.length_append, List.length_cons, List.length_take, List.length_drop]; omega
  have hg2 := HG2.out
  rw [hfin] at hg2
  refine ⟨.slice (some ⟨g, 0, none⟩) (r.length + 1) cap, by simp, ⟨by rw [cellsR_len], .inr ⟨g, cap, _, by rw [hlen], hbg, hg2, by omega, hcap, ?_, ?_⟩⟩, grown_tr (grown_tr (grown_dr (grown_ref W (some g))) hgr1) hgr2, .inl rfl⟩
  · have h9 := cellsR_len (r.take i ++ x :: r.drop i)
    rw [hlen] at h9
    generalize cellsR (r.take i ++ x :: r.drop i) = D at *
    simp only [List.size_toArray, List.length_append, List.length_drop]
    omega
  · rw [← cellsR_len, List.toList_toArray, List.take_left]

theorem splice_fill {α : Type} (X Z1 Z2 V Y : List α) (hZ : Z1.length = V.length + Y.length) : splice (splice (X ++ (Z1 ++ Z2)) X.length V) (X.length + V.length) Y = X ++ (V ++ (Y ++ Z2)) := by
  have e : Z1 = Z1.take V.length ++ Z1.drop V.length := (List.take_append_drop _ _).symm
  have hT : (Z1.take V.length).length = V.length := by rw [List.length_take]; omega
  have hM : (Z1.drop V.length).length = Y.length := by rw [List.length_drop]; omega
  generalize Z1.take V.length = T at *
  generalize Z1.drop V.length = M at *
  subst e
  rw [List.append_assoc T, splice_mid _ _ _ _ hT, ← List.append_assoc X V, ← List.length_append, splice_mid _ _ _ _ hM, List.append_assoc]
theorem zeroCells_len (z : Array Value) (n : Nat) : (Builtin.zeroCells z n).toList.length = n * z.size := by simp [Builtin.zeroCells]
set_option maxRecDepth 10000 in
set_option maxHeartbeats 4000000 in
theorem insert_grow {W : World} {base g cap i : Nat} {r : List Rec} {R : List Value} (x : Rec) (hi : i < r.length) (hg : W.heap[g]? = some (.cells (cellsR r ++ R).toArray 112 (0, 0))) (hbase : base ≤ W.heap.size) (hroom : cap < r.length + 1) (hle : r.length ≤ cap) (hn : r.length ≤ 1048576) (h1r : ∀ u ∈ cellsR r, u.oneCell' = true)
    (gb : Nat) (hx : W.heap[gb]? = some (.cells #[x.kv, x.vv] 112 (0, 0))) (h1 : x.kv.oneCell' = true) (h2 : x.vv.oneCell' = true) :
    Calls Try.prog 76 #[.slice (some ⟨g, 0, none⟩) r.length cap, .int .i64 (i : Int), .slice (some ⟨gb, 0, none⟩) 1 1] W fun e w' => ∃ v', e = .returned v' ∧ RowTo W w' base (.slice (some ⟨g, 0, none⟩) r.length cap) v' (r.take i ++ x :: r.drop i) := by
  obtain ⟨i0, hi0, hz0, hz1, hz2⟩ := info_parts pair_info
  have hi' : (i : Int) < (r.length : Int) := by omega
  have hn' : (r.length : Int) ≤ 1048576 := by omega
  have hroom' : (cap : Int) < (r.length : Int) + 1 := by omega
  have k1 : ¬ cap = i := by omega
  have k4 : ¬ (i : Int) = (r.length : Int) := by omega
  have w1 : IntKind.i64.wrap ((i : Int) + 1) = (i : Int) + 1 := by rw [IntKind.wrap_i64]; omega
  have w2 : IntKind.i64.wrap ((r.length : Int) + 1) = (r.length : Int) + 1 := by rw [IntKind.wrap_i64]; omega
  have w3 : (0 : Int) ≤ (i : Int) + 1 := by omega
  have w4 : ((i : Int) + 1).toNat = i + 1 := by omega
  have w8 : (i : Int) ≤ (r.length : Int) := by omega
  have w10 : i ≤ r.length + 1 := by omega
  have w11 : (i : Int) ≤ (cap : Int) := by omega
  have eY : (cellsR r).drop (i * 2) = cellsR (r.drop i) := cellsR_drop r i (by omega)
  have eX : (cellsR r).take (i * 2) = cellsR (r.take i) := cellsR_take r i (by omega)
  have hcr := cellsR_len r
  have hcd := cellsR_len (r.drop i)
  rw [List.length_drop] at hcd
  have hl : (cellsR (r.take i)).length = i * 2 := by rw [cellsR_len, List.length_take]; congr 1; omega
  have hcg : ∀ j v, (cellsR r)[j]? = some v → W.cell? ⟨g, j, none⟩ = some v := fun j v hj => by
    have hjl := (List.getElem?_eq_some_iff.1 hj).1
    rw [(cells_of_block hg).1]
    simp only [List.getElem?_toArray]
    rw [List.getElem?_append_left (by omega)]
    exact hj
  have hold : (Builtin.firstCells i0.size i (.slice (some ⟨g, 0, none⟩) i cap)).run Try.prog W.drew = .ok (cellsR (r.take i)).toArray W.drew := by
    rw [hz1]
    exact run_firstCells_some W.drew 2 i ⟨g, 0, none⟩ i cap (cellsR (r.take i)) hl (fun j v hj => by
      rw [add_cell, Nat.zero_add]
      refine hcg j v ?_
      rw [← eX, List.getElem?_take] at hj
      split at hj
      · exact hj
      · cases hj)
  obtain ⟨v1, W1, G, ROW, hrz, hv1, hW1, hWg, hROW, hRl, hG, hGm⟩ : ∃ (v1 : Value) (W1 : World) (G : Nat) (Z : List Value × List Value), (∀ ty, (Builtin.append_ #[68, 3] ty #[.slice (some ⟨g, 0, none⟩) i cap, .int .i64 ((r.length : Int) + 1 - (i : Int))]).run Try.prog W = .ok v1 W1) ∧ v1 = .slice (some ⟨W.heap.size, 0, none⟩) (r.length + 1) G ∧ W1.heap[W.heap.size]? = some (.cells (cellsR (r.take i) ++ (Z.1 ++ Z.2)).toArray 112 (0, 0)) ∧ W.grownBy W1 none ∧ Z.1.length = (r.length + 1 - i) * 2 ∧ Z.2.length = (G - (r.length + 1)) * 2 ∧ r.length + 1 ≤ G ∧ G ≤ maxLen := by
    have hkk : (r.length : Int) + 1 - (i : Int) = ((r.length + 1 - i : Nat) : Int) := by omega
    have hik : i + (r.length + 1 - i) = r.length + 1 := by omega
    refine ⟨_, W.drew.alloc (.cells ((cellsR (r.take i)).toArray ++ Builtin.zeroCells (Value.agg #[.slice none 0 0, .slice none 0 0]).cells (r.length + 1 - i) ++ Builtin.zeroCells (Value.agg #[.slice none 0 0, .slice none 0 0]).cells (grownCap W (r.length + 1) cap 112 - (r.length + 1))) 112), grownCap W (r.length + 1) cap 112, ((Builtin.zeroCells (Value.agg #[.slice none 0 0, .slice none 0 0]).cells (r.length + 1 - i)).toList, (Builtin.zeroCells (Value.agg #[.slice none 0 0, .slice none 0 0]).cells (grownCap W (r.length + 1) cap 112 - (r.length + 1))).toList), fun ty => ?_, rfl, ?_, ?_, ?_, ?_, grownCap_ge W _ _ _, grownCap_le_maxLen W _ _ _ (by unfold maxLen; omega)⟩
    · have h := Lib.run_append_grow_zeros W 68 3 ty 112 i0 _ .i64 .i64 Try.underlying68 Try.underlying3 hi0 hz0 (some ⟨g, 0, none⟩) i cap (cellsR (r.take i)) hold (r.length + 1 - i) (by omega) (by rw [hz1]; omega) (by omega) (by omega) (by rw [hz2]; omega) (by rw [hz2, hik]; exact growslice_fits (by omega) (by omega))
      rw [hik] at h
      rw [hkk]
      exact h
    · rw [show (cellsR (r.take i) ++ ((Builtin.zeroCells (Value.agg #[.slice none 0 0, .slice none 0 0]).cells (r.length + 1 - i)).toList ++ (Builtin.zeroCells (Value.agg #[.slice none 0 0, .slice none 0 0]).cells (grownCap W (r.length + 1) cap 112 - (r.length + 1))).toList)).toArray = (cellsR (r.take i)).toArray ++ Builtin.zeroCells (Value.agg #[.slice none 0 0, .slice none 0 0]).cells (r.length + 1 - i) ++ Builtin.zeroCells (Value.agg #[.slice none 0 0, .slice none 0 0]).cells (grownCap W (r.length + 1) cap 112 - (r.length + 1)) by apply Array.ext'; simp]
      exact al_at (w := W.drew) rfl
    · exact grown_tr (grown_dr (grown_ref W none)) (World.grownBy_alloc W.drew _ none)
    · exact zeroCells_len _ _
    · exact zeroCells_len _ _
  obtain ⟨Z1, Z2⟩ := ROW
  simp only at hW1 hROW hRl
  subst hv1
  have hGi : ¬ G = i := by omega
  have hGi1 : ¬ G = i + 1 := by omega
  have hG' : (r.length : Int) + 1 ≤ (G : Int) := by omega
  have hGm' : (G : Int) ≤ 9223372036854775807 := by unfold maxLen at hGm; omega
  have hgl : g < W.heap.size := (Array.getElem?_eq_some_iff.1 hg).1
  have hbl : gb < W.heap.size := (Array.getElem?_eq_some_iff.1 hx).1
  have hx1 := (hWg.block gb hbl (by simp)).trans hx
  have hap : ∀ j u, ([x.kv, x.vv] : List Value)[j]? = some u → W1.cell? (Addr.add ⟨gb, 0, none⟩ j) = some u := fun j u hj => by
    rw [add_cell, (cells_of_block hx1).1]; simpa using hj
  have hsrc : ∀ j v, (cellsR (r.drop i))[j]? = some v → W.cell? (Addr.add ⟨g, i * 2, none⟩ j) = some v := fun j v hj => by
    rw [← eY, List.getElem?_drop] at hj
    rw [add_cell]; exact hcg _ v hj
  obtain ⟨C0, hC0⟩ : ∃ C, C = cellsR (r.take i) ++ (Z1 ++ Z2) := ⟨_, rfl⟩
  have hC0l : C0.length = G * 2 := by rw [hC0, List.length_append, List.length_append, hl, hROW, hRl]; omega
  rw [← hC0] at hW1
  have hC0' : Hid _ := hC0
  have hW1' : Hid _ := hW1
  clear hC0 hW1 hold
  go_enter Try.func76, Try.ntmps76
  go_wp2_with (first
    | (at_builtin; refine Lib.wpList_append_run _ rfl _ _ _ _ rfl _ _ rfl rfl _ _ (hrz _) ?_)
    | (refine wpList_copy_k _ 2 rfl _ _ 68 68 rfl 112 Try.underlying68 pair_two W.heap.size (i * 2) (r.length + 1 - i) (G - i) ⟨gb, 0, none⟩ 1 1 (by simp [Act.eval]) rfl C0 112 [x.kv, x.vv] hW1'.out (by show 2 = (min _ _) * 2; omega) hap (by rw [hC0l]; simp; omega) (by simp [h1, h2]) ?_; intro v2 w2 HG2 hgr2))
  have hcl : (splice C0 (i * 2) [x.kv, x.vv]).length = G * 2 := by
    rw [length_splice _ _ _ (by simp; omega)]; exact hC0l
  have hsrc2 : ∀ j v, (cellsR (r.drop i))[j]? = some v → w2.cell? (Addr.add ⟨g, i * 2, none⟩ j) = some v := fun j v hj => hgr2.cell (hWg.cell (hsrc j v hj) (by simp)) (by rw [add_cell]; simp; omega)
  obtain ⟨C, hC⟩ : ∃ C, C = splice C0 (i * 2) [x.kv, x.vv] := ⟨_, rfl⟩
  rw [← hC] at HG2 hcl
  have hC' : Hid _ := hC
  clear hC
  go_region_held2 (fun _ => True) (exact True.intro) (first
    | (rw [if_pos (by rfl)]; refine wp_copy_k _ 2 _ _ 68 68 rfl 112 Try.underlying68 pair_two W.heap.size ((i + 1) * 2) (r.length + 1 - (i + 1)) (G - (i + 1)) ⟨g, i * 2, none⟩ (r.length - i) (cap - i) (by simp [Act.eval]) (by simp [Act.eval]) C 112 (cellsR (r.drop i)) HG2.out (by rw [hcd]; show _ = (min _ _) * 2; omega) hsrc2 (by rw [hcd, hcl]; omega) (fun u hu => h1r u (by rw [← eY] at hu; exact List.mem_of_mem_drop hu)) ?_; intro v3 w3 HG3 hgr3))
  go_wp2
  go_ret
  have hz : r.take i ++ x :: r.drop i = r.take i ++ ([x] ++ r.drop i) := by simp
  have hfin : (splice C ((i + 1) * 2) (cellsR (r.drop i))) = cellsR (r.take i ++ x :: r.drop i) ++ Z2 := by
    rw [hC'.out, hC0'.out, ← hl, show (i + 1) * 2 = (cellsR (r.take i)).length + ([x.kv, x.vv] : List Value).length by simp; omega, splice_fill _ _ _ _ _ (by rw [hROW, hcd]; simp; omega), hz, cellsR_app, cellsR_app]
    simp [cellsR]
  have hlen : (r.take i ++ x :: r.drop i).length = r.length + 1 := by rw [List.length_append, List.length_cons, List.length_take, List.length_drop]; omega
  have hg2 := HG3.out
  rw [hfin] at hg2
  have hgA : W.grownBy w3 (some g) := grown_own (grown_own (grown_up hWg) hgr2 (by simp)) (grown_tr (grown_dr (grown_ref w2 _)) hgr3) (by simp)
  refine ⟨.slice (some ⟨W.heap.size, 0, none⟩) (r.length + 1) G, by simp, ⟨by rw [cellsR_len], .inr ⟨W.heap.size, G, _, by rw [hlen], hbase, hg2, by omega, hGm, ?_, ?_⟩⟩, hgA, .inr ⟨_, rfl, Nat.le_refl _⟩⟩
  · have h9 := cellsR_len (r.take i ++ x :: r.drop i)
    rw [hlen] at h9
    generalize cellsR (r.take i ++ x :: r.drop i) = D at *
    simp only [List.size_toArray, List.length_append]
    omega
  · rw [← cellsR_len, List.toList_toArray, List.take_left]
end Go.Proofs.Ytafcianpajheiaa
