
/- slices.Insert at any place; slices.Delete. -/
import Derived.Test.YtafcianpajheiaaO3
set_option linter.unusedSimpArgs false
set_option linter.unusedVariables false
set_option maxRecDepth 20000
namespace Go.Proofs.Ytafcianpajheiaa
open Go.RowKit

theorem insert_any {W : World} {base i : Nat} {A : Nat → Prop} {vp : Value} {r : List Rec} (x : Rec) (hr : W.ownsRow base 112 2 vp r.length (cellsR r)) (hrec : ∀ x ∈ r, RecAt W A x) (hb : base ≤ W.heap.size) (hn : r.length ≤ 1048576) (hi : i ≤ r.length) (gb : Nat) (hx : W.heap[gb]? = some (.cells #[x.kv, x.vv] 112 (0, 0))) (hne : vp.ownBlock ≠ some gb) (h1 : x.kv.oneCell' = true) (h2 : x.vv.oneCell' = true) :
    Calls Try.prog 76 #[vp, .int .i64 (i : Int), .slice (some ⟨gb, 0, none⟩) 1 1] W fun e w' => ∃ v', e = .returned v' ∧ RowTo W w' base vp v' (r.take i ++ x :: r.drop i) := by
  by_cases e : i = r.length
  · subst e
    rw [List.take_length, List.drop_length]
    exact insert_end x hr hb hn gb hx h1 h2
  · obtain ⟨g, cap, R, rfl, k1, k2, k3, k4, k5⟩ := row_open hr rfl (by omega)
    by_cases hc : r.length + 1 ≤ cap
    · exact insert_room x (by omega) k2 k1 hc k4 k5 hn (cellsR_one hrec) gb hx (fun e => hne (by rw [e]; rfl)) h1 h2
    · exact insert_grow x (by omega) k2 hb (by omega) k3 hn (cellsR_one hrec) gb hx h1 h2

theorem wp_append_fits {P : Program} (w : World) {o : Oper} {a : Act} {K : Act → World → Prop} {Q : Exit → Act → World → Prop} (s x : Operand) (t : TypeId)
    (ho : o.op = .call { callee := .builtin .append, args := #[s, x], argTypes := #[t, t] }) (base : Nat) (e : TypeId) (i : TypeInfo) (size : Nat) (ht : P.underlying t = some (.slice e)) (hi : P.info? e = some i) (hsize : i.size = size)
    (g n cap : Nat) (xs : List Value) (hown : w.ownsRow base e size (.slice (some ⟨g, 0, none⟩) n cap) n xs) (hs : a.eval s = .slice (some ⟨g, 0, none⟩) n cap)
    (ad : Addr) (m c : Nat) (news : List Value) (hx : a.eval x = .slice (some ad) m c) (hl : news.length = m * size) (hnews : ∀ j u, news[j]? = some u → w.cell? (ad.add j) = some u) (h1 : ∀ u ∈ news, u.oneCell' = true) (hroom : n + m ≤ cap)
    (h : ∀ w', w'.ownsRow base e size (.slice (some ⟨g, 0, none⟩) (n + m) cap) (n + m) (xs ++ news) → w.grownBy w' (some g) → K (a.put o.dst (.slice (some ⟨g, 0, none⟩) (n + m) cap)) w') : o.wp P a w K Q := by
  obtain ⟨w', hr, h2, h3⟩ := run_append_fits (P := P) w base t o.type e i size ht hi hsize g n cap xs hown ad m c news hl hnews h1 hroom
  unfold Oper.wp execOp
  simp only [ho, resolve, invoke, builtin, Sem.run_bind, Sem.run_pure, Result.andThen_ok, List.map_toArray, List.map_cons, List.map_nil, hs, hx, hr]
  exact h w' h2 h3
theorem run_clear_one {w : World} (ty : TypeId) {g o c : Nat} {cur : List Value} (hg : w.heap[g]? = some (.cells cur.toArray 112 (0, 0))) (hfit : o + 2 ≤ cur.length) :
    ∃ w', (Builtin.clear_ #[68] ty #[.slice (some ⟨g, o, none⟩) 1 c]).run Try.prog w = .ok (.tuple #[]) w' ∧ w'.heap[g]? = some (.cells (splice cur o [.slice none 0 0, .slice none 0 0]).toArray 112 (0, 0)) ∧ w.grownBy w' (some g) := by
  obtain ⟨i0, hi, hz0, hz1, hz2⟩ := info_parts pair_info
  have hst := run_storeCells_at Try.prog g o 112 [.slice none 0 0, .slice none 0 0] 0 cur.toArray w hg (by simpa using hfit) (by simp [Value.oneCell'])
  refine ⟨w.setRow g (splice cur o [.slice none 0 0, .slice none 0 0]).toArray, ?_, setRow_heap w g _ _ _ _ hg, ⟨rfl, rfl, rfl, by simp [World.setRow], fun n _ hne => setRow_other w g n _ (fun e => hne (by rw [e]))⟩⟩
  have hst' : (storeCells ⟨g, o, none⟩ [.slice none 0 0, .slice none 0 0]).run Try.prog w = .ok () (w.setRow g (splice cur o [.slice none 0 0, .slice none 0 0]).toArray) := by
    simpa [splice, List.append_assoc] using hst
  have hzc : (Builtin.zeroCells (Value.agg #[.slice none 0 0, .slice none 0 0]).cells 1).toList = [.slice none 0 0, .slice none 0 0] := by kernel_rfl
  simp [Builtin.clear_, run_underlying Try.underlying68, zeroValue, typeInfo, hi, hz0, hzc, hst']
theorem wpList_clear_one {w : World} {ops : Array Oper} {rest : List Oper} {o : Oper} {a : Act} {Q : Exit → Act → World → Prop} (hgd : o.guard = none) (s : Operand)
    (ho : o.op = .call { callee := .builtin .clear, args := #[s], argTypes := #[68] }) (g off c : Nat) (cur : List Value) (hs : a.eval s = .slice (some ⟨g, off, none⟩) 1 c) (hg : w.heap[g]? = some (.cells cur.toArray 112 (0, 0))) (hfit : off + 2 ≤ cur.length)
    (h : ∀ w', Hid (w'.heap[g]? = some (.cells (splice cur off [.slice none 0 0, .slice none 0 0]).toArray 112 (0, 0))) → w.grownBy w' (some g) → wpList Try.prog ops Q rest (a.put o.dst (.tuple #[])) w') : wpList Try.prog ops Q (o :: rest) a w := by
  refine wpList_plain hgd fun K hK => ?_
  obtain ⟨w', hr, h2, h3⟩ := run_clear_one (w := w) o.type (c := c) hg hfit
  unfold Oper.wp execOp
  simp only [ho, resolve, invoke, builtin, Sem.run_bind, Sem.run_pure, Result.andThen_ok, List.map_toArray, List.map_cons, List.map_nil, hs, hr]
  exact hK _ _ (h w' h2 h3)

set_option maxRecDepth 10000 in
set_option maxHeartbeats 4000000 in
theorem delete_mid {W : World} {base i g cap : Nat} {A : Nat → Prop} {r : List Rec} {R : List Value} (hrec : ∀ x ∈ r, RecAt W A x) (hn : r.length ≤ 1048576) (hi : i < r.length) (k1 : base ≤ g) (hg : W.heap[g]? = some (.cells (cellsR r ++ R).toArray 112 (0, 0))) (k3 : r.length ≤ cap) (k4 : cap ≤ maxLen) (k5 : r.length * 2 + R.length = cap * 2) (hc : ¬ cap = i + 1) :
    Calls Try.prog 75 #[.slice (some ⟨g, 0, none⟩) r.length cap, .int .i64 (i : Int), .int .i64 ((i : Int) + 1)] W fun e w' => ∃ v', e = .returned v' ∧ RowTo W w' base (.slice (some ⟨g, 0, none⟩) r.length cap) v' (r.take i ++ r.drop (i + 1)) := by
  obtain ⟨i0, hi0, hz0, hz1, hz2⟩ := info_parts pair_info
  have h1r := cellsR_one hrec
  have hcr := cellsR_len r
  have hl : (cellsR (r.take i)).length = i * 2 := by rw [cellsR_len, List.length_take]; congr 1; omega
  have hcd := cellsR_len (r.drop (i + 1))
  rw [List.length_drop] at hcd
  have eY : (cellsR r).drop ((i + 1) * 2) = cellsR (r.drop (i + 1)) := cellsR_drop r (i + 1) (by omega)
  have eX : (cellsR r).take (i * 2) = cellsR (r.take i) := cellsR_take r i (by omega)
  have hown : W.drew.ownsRow base 112 2 (.slice (some ⟨g, 0, none⟩) i cap) i (cellsR (r.take i)) := by
    refine ⟨hl, .inr ⟨g, cap, _, rfl, k1, hg, by omega, k4, ?_, ?_⟩⟩
    · simp [hcr]; omega
    · rw [List.toList_toArray, List.take_append_of_le_length (by omega)]; exact eX
  have hsrc : ∀ j v, (cellsR (r.drop (i + 1)))[j]? = some v → W.drew.cell? (Addr.add ⟨g, (i + 1) * 2, none⟩ j) = some v := fun j v hj => by
    have hjl := (List.getElem?_eq_some_iff.1 hj).1
    rw [← eY, List.getElem?_drop] at hj
    rw [add_cell, (cells_of_block (W := W.drew) hg).1]
    simp only [List.getElem?_toArray]
    rw [List.getElem?_append_left (by omega)]
    exact hj
  have hi' : (i : Int) < (r.length : Int) := by omega
  have hn' : (r.length : Int) ≤ 1048576 := by omega
  have hcap' : (cap : Int) ≤ 9223372036854775807 := by unfold maxLen at k4; omega
  have w0 : (r.length : Int) ≤ (cap : Int) := by omega
  have w1 : (i : Int) ≤ (cap : Int) := by omega
  have w2 : (i : Int) + 1 ≤ (r.length : Int) := by omega
  have w3 : (0 : Int) ≤ (i : Int) + 1 := by omega
  have w4 : ((i : Int) + 1).toNat = i + 1 := by omega
  have w5 : (i : Int) ≤ (i : Int) + 1 := by omega
  have w6 : ¬ (i : Int) = (i : Int) + 1 := by omega
  obtain ⟨n1, hn1⟩ : ∃ n1, r.length = n1 + 1 := ⟨r.length - 1, by omega⟩
  have w7 : i + (r.length - (i + 1)) = n1 := by omega
  have w8 : (n1 : Int) ≤ (r.length : Int) := by omega
  have w9 : r.length - n1 = 1 := by omega
  have w10 : ¬ cap = n1 := by omega
  have w11 : (n1 : Int) ≤ (cap : Int) := by omega
  have hn1' : Hid _ := hn1
  have hlen : (r.take i ++ r.drop (i + 1)).length = n1 := by rw [List.length_append, List.length_take, List.length_drop]; omega
  have hlen' : Hid _ := hlen
  clear hn1 hlen
  have hF1 : i + (r.length - (i + 1)) ≤ cap := by omega
  have hF2 : n1 * 2 + 2 ≤ cap * 2 := by have := hn1'.out; omega
  have hF3 : n1 ≤ cap := by omega
  clear k5
  go_enter Try.func75, Try.ntmps75
  go_wp2
  go_region_held2 (fun _ => True) (exact True.intro) (first
    | (rw [if_pos (by rfl)]; (refine wp_append_fits _ _ _ 68 rfl base 112 i0 2 Try.underlying68 hi0 hz1 g i _ (cellsR (r.take i)) hown rfl ⟨g, _, none⟩ (r.length - (i + 1)) _ (cellsR (r.drop (i + 1))) rfl (by rw [hcd]) hsrc (fun u hu => h1r u (by rw [← eY] at hu; exact List.mem_of_mem_drop hu)) hF1 ?_; intro w1 hown1 hg1)))
  rw [w7] at hown1
  rcases hown1.2 with ⟨e, -⟩ | ⟨g', cap', cur, e, -, hgb, -, -, hcs, htk⟩
  · simp at e
  simp at e
  obtain ⟨rfl, rfl⟩ := e
  have hcl : cur.toList.length = cap * 2 := by simpa using hcs
  have hgb' : Hid (w1.heap[g]? = some (.cells cur.toList.toArray 112 (0, 0))) := by unfold Hid; rw [Array.toArray_toList]; exact hgb
  have htk' : Hid _ := htk
  generalize cur.toList = C at *
  clear hgb htk
  go_wp2_with (refine wpList_clear_one rfl _ rfl g (n1 * 2) _ C rfl hgb'.out (by rw [hcl]; exact hF2) ?_; intro w2 HG2 hg2)
  go_ret
  have e1 := hn1'.out
  refine ⟨.slice (some ⟨g, 0, none⟩) n1 cap, by simp, ⟨by rw [cellsR_len], .inr ⟨g, cap, _, by rw [hlen'.out], k1, HG2.out, by rw [hlen'.out]; exact hF3, k4, ?_, ?_⟩⟩, grown_tr (grown_tr (grown_dr (grown_ref W _)) hg1) hg2, .inl rfl⟩
  · rw [List.size_toArray, length_splice _ _ _ (by rw [hcl]; exact hF2), hcl]
  · rw [hlen'.out, List.toList_toArray, splice, List.take_append_of_le_length (by rw [List.length_take, hcl]; omega), List.take_take, Nat.min_self, htk'.out, cellsR_app]

/-- The last one, where there is no room behind it. -/
theorem delete_last {W : World} {base i g : Nat} {A : Nat → Prop} {r : List Rec} {R : List Value} (hrec : ∀ x ∈ r, RecAt W A x) (hn : r.length ≤ 1048576) (hi : i + 1 = r.length) (k1 : base ≤ g) (hg : W.heap[g]? = some (.cells (cellsR r ++ R).toArray 112 (0, 0))) (k5 : R = []) :
    Calls Try.prog 75 #[.slice (some ⟨g, 0, none⟩) r.length r.length, .int .i64 (i : Int), .int .i64 (r.length : Int)] W fun e w' => ∃ v', e = .returned v' ∧ RowTo W w' base (.slice (some ⟨g, 0, none⟩) r.length r.length) v' (r.take i) := by
  obtain ⟨i0, hi0, hz0, hz1, hz2⟩ := info_parts pair_info
  subst k5
  rw [List.append_nil] at hg
  have hcr := cellsR_len r
  have hl : (cellsR (r.take i)).length = i * 2 := by rw [cellsR_len, List.length_take]; congr 1; omega
  have eX : (cellsR r).take (i * 2) = cellsR (r.take i) := cellsR_take r i (by omega)
  have hown : W.drew.ownsRow base 112 2 (.slice (some ⟨g, 0, none⟩) i r.length) i (cellsR (r.take i)) := by
    refine ⟨hl, .inr ⟨g, r.length, _, rfl, k1, hg, by omega, by unfold maxLen; omega, ?_, ?_⟩⟩
    · simp [hcr]
    · rw [List.toList_toArray]; exact eX
  have w1 : (i : Int) ≤ (r.length : Int) := by omega
  have w6 : ¬ (i : Int) = (r.length : Int) := by omega
  have w9 : r.length - i = 1 := by omega
  have w10 : ¬ r.length = i := by omega
  have hn' : (r.length : Int) ≤ 1048576 := by omega
  have hlen : (r.take i).length = i := by rw [List.length_take]; omega
  have hlen' : Hid _ := hlen
  have hi' : Hid _ := hi
  have hF1 : i + 0 ≤ r.length := by omega
  have hF2 : i * 2 + 2 ≤ r.length * 2 := by omega
  have hF3 : i ≤ r.length := by omega
  clear hlen hi
  go_enter Try.func75, Try.ntmps75
  go_wp2
  go_region_held2 (fun _ => True) (exact True.intro) (first
    | (rw [if_pos (by rfl)]; refine wp_append_fits _ _ _ 68 rfl base 112 i0 2 Try.underlying68 hi0 hz1 g i r.length (cellsR (r.take i)) hown rfl ⟨g, _, none⟩ 0 _ [] rfl rfl (fun j u hj => by simp at hj) (by simp) hF1 ?_; intro w1 hown1 hg1))
  rw [Nat.add_zero, List.append_nil] at hown1
  rcases hown1.2 with ⟨e, -⟩ | ⟨g', cap', cur, e, -, hgb, -, -, hcs, htk⟩
  · simp at e
  simp at e
  obtain ⟨rfl, rfl⟩ := e
  have hcl : cur.toList.length = r.length * 2 := by simpa using hcs
  have hgb' : Hid (w1.heap[g]? = some (.cells cur.toList.toArray 112 (0, 0))) := by unfold Hid; rw [Array.toArray_toList]; exact hgb
  have htk' : Hid _ := htk
  generalize cur.toList = C at *
  clear hgb htk
  go_wp2_with (refine wpList_clear_one rfl _ rfl g (i * 2) _ C rfl hgb'.out (by rw [hcl]; exact hF2) ?_; intro w2 HG2 hg2)
  go_ret
  refine ⟨.slice (some ⟨g, 0, none⟩) i r.length, by simp, ⟨by rw [cellsR_len], .inr ⟨g, r.length, _, by rw [hlen'.out], k1, HG2.out, by rw [hlen'.out]; exact hF3, by unfold maxLen; omega, ?_, ?_⟩⟩, grown_tr (grown_tr (grown_dr (grown_ref W _)) hg1) hg2, .inl rfl⟩
  · rw [List.size_toArray, length_splice _ _ _ (by rw [hcl]; exact hF2), hcl]
  · rw [hlen'.out, List.toList_toArray, splice, List.take_append_of_le_length (by rw [List.length_take, hcl]; omega), List.take_take, Nat.min_self, htk'.out]

theorem delete_any {W : World} {base i : Nat} {A : Nat → Prop} {vp : Value} {r : List Rec} (hr : W.ownsRow base 112 2 vp r.length (cellsR r)) (hrec : ∀ x ∈ r, RecAt W A x) (hn : r.length ≤ 1048576) (hi : i < r.length) :
    Calls Try.prog 75 #[vp, .int .i64 (i : Int), .int .i64 ((i : Int) + 1)] W fun e w' => ∃ v', e = .returned v' ∧ RowTo W w' base vp v' (r.take i ++ r.drop (i + 1)) := by
  obtain ⟨g, cap, R, rfl, k1, hg, k3, k4, k5⟩ := row_open hr rfl (by omega)
  by_cases hc : cap = i + 1
  · have e : i + 1 = r.length := by omega
    have e2 : cap = r.length := by omega
    subst e2
    rw [List.drop_of_length_le (by omega), List.append_nil, show (i : Int) + 1 = (r.length : Int) by omega]
    exact delete_last hrec hn e k1 hg (List.eq_nil_of_length_eq_zero (by omega))
  · exact delete_mid hrec hn hi k1 hg k3 k4 k5 hc
end Go.Proofs.Ytafcianpajheiaa
