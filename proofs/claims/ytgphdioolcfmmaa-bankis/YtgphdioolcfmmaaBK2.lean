
/- bank: places, keys, the number at a key. -/
import Derived.Test.YtgphdioolcfmmaaBK1
import Derived.Laws.IdiomStrings
import Derived.Laws.AppendOwn
set_option linter.unusedSimpArgs false
set_option linter.unusedVariables false
set_option maxRecDepth 20000
namespace Go.Proofs.Ytgphdioolcfmmaa
open Go.RowKit

/-- One cell behind the bytes of a row that a conversion of a string made (it bears a mark behind its last cell). -/
theorem run_append_mark {P : Program} (w : World) (t ty e : TypeId) (i : TypeInfo) (ht : P.underlying t = some (.slice e)) (hi : P.info? e = some i) (hz : i.zero = some (.int .u8 0)) (hsz : i.size = 1) (hby : i.bytes = 1)
    (g n cap : Nat) (cur : Array Value) (hg : w.heap[g]? = some (.cells cur e (cur.size, cur.size + 1))) (hcs : cur.size = cap) (hn : n ≤ cap) (hm : n < 100000) (y : Nat) (u : Value) (ha : w.cell? ⟨y, 0, none⟩ = some u) (h1 : u.oneCell' = true) :
    ∃ g' cap' w', (Builtin.append_ #[t, t] ty #[.slice (some ⟨g, 0, none⟩) n cap, .slice (some ⟨y, 0, none⟩) 1 1]).run P w = .ok (.slice (some ⟨g', 0, none⟩) (n + 1) cap') w' ∧ (g' = g ∨ g' = w.heap.size) ∧ g' < w'.heap.size ∧ (∀ j v, (cur.toList.take n ++ [u])[j]? = some v → w'.cell? ⟨g', j, none⟩ = some v) ∧ w.grownBy w' (some g) := by
  have hgl : g < w.heap.size := (Array.getElem?_eq_some_iff.1 hg).1
  have hnews : ∀ j v, ([u] : List Value)[j]? = some v → w.cell? ((⟨y, 0, none⟩ : Addr).add j) = some v := fun j v hj => by
    match j, hj with
    | 0, hj => simp at hj; subst hj; rw [add_cell]; exact ha
    | j + 1, hj => simp at hj
  have htl : (cur.toList.take n).length = n := by rw [List.length_take, Array.length_toList]; omega
  by_cases hroom : n + 1 ≤ cap
  · have hf := run_firstCells_some (P := P) w i.size 1 ⟨y, 0, none⟩ 1 1 [u] (by rw [hsz]; rfl) hnews
    have hnc : n < cur.size := by omega
    have hcell : w.cell? ⟨g, n, none⟩ = some cur[n] := by simp [World.cell?, hg, hnc]
    have hfro : w.frozen? ⟨g, n, none⟩ = false := by simp [World.frozen?, hg]; omega
    have hst : (storeCells ⟨g, n, none⟩ [u] 0).run P w = .ok () (w.setRow g (cur.setIfInBounds n u)) := by
      have e0 : (⟨g, n, none⟩ : Addr).add 0 = ⟨g, n, none⟩ := add_cell 0
      simp only [storeCells, Sem.run_bind, e0]
      rw [run_store P w _ u _ h1, hcell]
      simp [hfro, setCell_eq_setRow w g n cur e _ u hg]
    refine ⟨g, cap, w.setRow g (cur.setIfInBounds n u), ?_, .inl rfl, by simpa [World.setRow] using hgl, fun j v hj => ?_, ⟨rfl, rfl, rfl, by simp [World.setRow], fun k _ hk => setRow_other w g k _ (fun e => hk (by simp [e]))⟩⟩
    · simp only [hsz] at hf
      simp [Builtin.append_, run_underlying ht, sizeOf, typeInfo, hi, hsz, Builtin.lenOf, hroom, hf, Addr.add_lit, hst]
    · rw [cell_of_row _ g j _ e _ (setRow_heap w g cur _ e _ hg), Array.getElem?_setIfInBounds]
      by_cases hj2 : j < n
      · rw [if_neg (by omega)]
        rw [List.getElem?_append_left (by omega), List.getElem?_take_of_lt hj2] at hj
        simpa using hj
      · rw [List.getElem?_append_right (by omega), htl] at hj
        have : j = n := by
          have := (List.getElem?_eq_some_iff.1 hj).1
          simp at this; omega
        subst this
        simp at hj
        subst hj
        rw [if_pos rfl, if_pos hnc]
  · have hold : ∀ j v, (cur.toList.take n)[j]? = some v → w.cell? ((⟨g, 0, none⟩ : Addr).add j) = some v := fun j v hj => by
      have hadd : (⟨g, 0, none⟩ : Addr).add j = ⟨g, j, none⟩ := by unfold Addr.add; split <;> simp_all
      rw [hadd, cell_of_row w g j cur e _ hg]
      rw [List.getElem?_take] at hj
      split at hj
      · simpa using hj
      · cases hj
    have hr := run_append_grow (P := P) w t ty e i _ ht hi hz ⟨g, 0, none⟩ n cap (cur.toList.take n) (by rw [htl, hsz]; omega) hold ⟨y, 0, none⟩ 1 1 [u] (by rw [hsz]; rfl) hnews (by omega) (by omega) (growslice_fits (by omega) (by rw [hby]; omega))
    refine ⟨_, _, _, hr, .inr rfl, by simp, fun j v hj => ?_, ⟨rfl, rfl, rfl, by simp, fun k hk _ => heap_alloc_old w.drew _ hk⟩⟩
    rw [cell_of_row _ w.heap.size j _ e _ (heap_alloc_new w.drew _)]
    rw [Array.getElem?_append_left (by
      have := (List.getElem?_eq_some_iff.1 hj).1
      simpa using this)]
    simpa using hj
theorem wpList_append_mark {P : Program} {w : World} {ops : Array Oper} {rest : List Oper} {o : Oper} {a : Act} {Q : Exit → Act → World → Prop} (hgd : o.guard = none) (s x : Operand) (t : TypeId)
    (ho : o.op = .call { callee := .builtin .append, args := #[s, x], argTypes := #[t, t] })
    (e : TypeId) (i : TypeInfo) (ht : P.underlying t = some (.slice e)) (hi : P.info? e = some i) (hz : i.zero = some (.int .u8 0)) (hsz : i.size = 1) (hby : i.bytes = 1)
    (g n cap : Nat) (cur : Array Value) (hs : a.eval s = .slice (some ⟨g, 0, none⟩) n cap) (hg : w.heap[g]? = some (.cells cur e (cur.size, cur.size + 1))) (hcs : cur.size = cap) (hn : n ≤ cap) (hm : n < 100000) (y : Nat) (u : Value) (hx : a.eval x = .slice (some ⟨y, 0, none⟩) 1 1) (ha : w.cell? ⟨y, 0, none⟩ = some u) (h1 : u.oneCell' = true)
    (h : ∀ g' cap' w', (g' = g ∨ g' = w.heap.size) → g' < w'.heap.size → (∀ j v, (cur.toList.take n ++ [u])[j]? = some v → w'.cell? ⟨g', j, none⟩ = some v) → w.grownBy w' (some g) → wpList P ops Q rest (a.put o.dst (.slice (some ⟨g', 0, none⟩) (n + 1) cap')) w') : wpList P ops Q (o :: rest) a w :=
  wpList_plain hgd fun _ hK => by
    obtain ⟨g', cap', w', hr, h2, h3, h4, h5⟩ := run_append_mark (P := P) w t o.type e i ht hi hz hsz hby g n cap cur hg hcs hn hm y u ha h1
    unfold Oper.wp execOp
    simp only [ho, resolve, invoke, builtin, Sem.run_bind, Sem.run_pure, Result.andThen_ok, List.map_toArray, List.map_cons, List.map_nil, hs, hx, hr]
    exact hK _ _ (h g' cap' w' h2 h3 h4 h5)

/-- A string's bytes. -/
def StrIs (s : ByteArray) (p : List Int) : Prop := s.data.toList = Lib.bytesOf p
theorem StrIs.size {s : ByteArray} {p : List Int} (h : StrIs s p) : s.size = p.length := by
  have : s.data.toList.length = p.length := by rw [h]; simp [Lib.bytesOf]
  rw [Array.length_toList] at this
  exact this
theorem of_any (a : Nat) (ha : a ≤ 255) (w : World) : Calls Try.prog 38 #[.int .u8 a] w fun e w' => ∃ s, e = .returned (.string s) ∧ StrIs s (plc a) ∧ Below w.heap.size w w' := by
  obtain ⟨s, hs, hs2⟩ := conv_src (W := w.alloc (.cells #[.int .u8 a] 5)) (u := .slice (some ⟨w.heap.size, 0, none⟩) 1 1) (p := [(a : Int)]) (src_new w [(a : Int)] 5) (byte_one (by omega))
  rw [Lib.toList_data] at hs2
  have hsz : s.size = 1 := StrIs.size (p := [(a : Int)]) hs2
  have h2 : Hid (s.data.toList = Lib.bytesOf [(a : Int)]) := hs2
  clear hs2
  go_enter Try.func38, Try.ntmps38
  go_wp2
  go_ret
  refine ⟨_, rfl, ?_, by (repeat (first | (with_reducible exact Below.refl _ _) | (with_reducible assumption) | (with_reducible apply bd) | (with_reducible apply ba) | (with_reducible refine bp ?_ (by first | omega | (simp [pad_size]; done) | (simp [pad_size]; omega)) _ _) | (with_reducible refine bs ?_ (by first | omega | (simp [pad_size]; done) | (simp [pad_size]; omega)) _) | (with_reducible refine bt ?_ (by assumption))))⟩
  unfold StrIs plc
  rw [if_pos (by omega), ByteArray.data_append, Array.toList_append, h2.out]
  simp [Lib.bytesOf, hasB]
theorem strIs_all : StrIs ⟨#[98, 97, 110, 107, 46, 97, 108, 108, 46]⟩ (plc 256) := by
  unfold StrIs plc allK; rw [if_neg (by omega)]; decide
/-- The bytes of a string as a slice. -/
theorem cv_str {s : ByteArray} {p : List Int} (h : StrIs s p) (hp : Byte p) (w : World) : ∃ cap cur, (convert 9 81 (.string s)).run Try.prog w = .ok (.slice (some ⟨w.heap.size, 0, none⟩) p.length cap) (w.drew.alloc (.cells cur 5 (cur.size, cur.size + 1))) ∧ cur.size = cap ∧ p.length ≤ cap ∧ cur.toList.take p.length = encB p := by
  have h1 := run_bytes_of_string (P := Try.prog) w 9 81 5 s Try.underlying9 Try.underlying81 Try.underlying5
  have hs := h.size
  have hge := grownCap_ge w s.size 0 5
  have hsz : s.data.size = s.size := rfl
  refine ⟨grownCap w s.size 0 5, bytesRow s (grownCap w s.size 0 5), by rw [h1, hs], ?_, by omega, ?_⟩
  · unfold bytesRow
    simp only [Array.size_append, Array.size_map, Array.size_replicate, hsz]
    omega
  · unfold bytesRow
    rw [Array.toList_append, List.take_append_of_le_length (by simp [hsz]; omega), List.take_of_length_le (by simp [hsz]; omega)]
    rw [Array.toList_map, h]
    unfold Lib.bytesOf encB
    rw [List.map_map]
    refine List.map_congr_left fun x hx => ?_
    have := hp x hx
    simp only [Function.comp, UInt8.toNat_ofNat']
    congr 1
    omega
set_option maxHeartbeats 1000000 in
theorem key_any {s : ByteArray} {p : List Int} (h : StrIs s p) (hp : Byte p) (hl : p.length < 1000) (d : Nat) (w : World) :
    Calls Try.prog 37 #[.string s, .int .u8 d] w fun e w' => ∃ g cap, e = .returned (.slice (some ⟨g, 0, none⟩) (p.length + 1) cap) ∧ Src w' (.slice (some ⟨g, 0, none⟩) (p.length + 1) cap) (p ++ [(d : Int)]) ∧ w.heap.size ≤ g ∧ g < w'.heap.size ∧ Below w.heap.size w w' := by
  obtain ⟨cap, cur, hcv, hc1, hc2, hc3⟩ := cv_str h hp w
  have hc3 : Hid _ := hc3
  obtain ⟨i0, hi, hz0, hz1, hz2⟩ := info_parts u8_info
  go_enter Try.func37, Try.ntmps37
  go_wp2_with (at_builtin; refine wpList_append_mark rfl _ _ 81 rfl 5 i0 Try.underlying81 hi hz0 hz1 hz2 w.heap.size p.length cap cur rfl ?_ hc1 hc2 (by omega) (w.heap.size + 1) (.int .u8 d) rfl ?_ rfl ?_)
  · rw [hc1]; exact (al_old (by simp)).trans (al_at rfl)
  · exact (cells_of_block (al_at (by simp))).1 0
  · intro g' cap' w' h1 h2 h3 h4
    go_wp2
    go_ret
    refine ⟨g', cap', rfl, .inr ⟨⟨g', 0, none⟩, cap', by simp, fun i x hx => ?_⟩, by omega, h2, ?_⟩
    · rw [add_cell, Nat.zero_add]
      refine h3 i _ ?_
      have e : encB p ++ [.int .u8 (d : Int)] = encB (p ++ [(d : Int)]) := by simp [encB]
      rw [e]
      simp only [encB, List.getElem?_map, hx]
      rfl
    · have hb0 : Below w.heap.size w ((w.alloc (.cells cur 5 (cap, cap + 1))).alloc (.cells #[.int .u8 (d : Int)] 5)).drew := by (repeat (first | (with_reducible exact Below.refl _ _) | (with_reducible assumption) | (with_reducible apply bd) | (with_reducible apply ba) | (with_reducible refine bp ?_ (by first | omega | (simp [pad_size]; done) | (simp [pad_size]; omega)) _ _) | (with_reducible refine bs ?_ (by first | omega | (simp [pad_size]; done) | (simp [pad_size]; omega)) _) | (with_reducible refine bt ?_ (by assumption))))
      exact hb0.grown h4 hb0.size (fun k hk => by injection hk with hk; omega)
theorem isb_src {W : World} {v : Value} {p : List Int} (h : IsBytes W v p) (hp : p ≠ []) : Src W v p := by
  rcases h with ⟨rfl, -⟩ | ⟨blk, off, cap, e, -, -, hc⟩
  · exact absurd rfl hp
  · exact .inr ⟨_, _, e, fun i x hi => by rw [add_cell]; exact hc i x hi⟩
theorem ky_ne (p d : Nat) : ky p d ≠ [] := by unfold ky; simp
section
variable {W : World} {s base : Nat} {A : Nat → Prop} {L : List (List Int × List Int)} {ds : List (List (List Int × List Int))} {n : Nat} {b : Nat → Nat → Cn}
set_option maxHeartbeats 1000000 in
/-- What is kept at a key. -/
theorem amt_any {u : Value} {p d : Nat} (h : StD W s base A L ds n) (hB : BkL L b) (hn : n ≤ 1000) (hp : p ≤ 256) (hd : d ≤ 255) (hu : Src W u (ky p d)) :
    Calls Try.prog 36 #[.pointer (some ⟨s, 0, none⟩), u] W fun e w' => e = .returned (.agg #[.int .u64 (amt (lst (b p) 8) d).a, .int .u64 (amt (lst (b p) 8) d).b, .int .u64 (amt (lst (b p) 8) d).c, .int .u64 (amt (lst (b p) 8) d).e]) ∧ Below W.heap.size W w' := by
  have hpur := hB.pur p hp
  have hlim := amt_lim hpur (d : Int)
  have hG := stdGet h hn hu (byte_ky p hd)
  have hR : ∀ (v : Value) (X : World), ((getS L (ky p d) = none ∧ v = .slice none 0 0) ∨ ∃ q, getS L (ky p d) = some q ∧ IsBytes X v q) → Calls Try.prog 54 #[v] X fun e w' => e = .returned (.tuple #[.agg #[.int .u64 (amt (lst (b p) 8) d).a, .int .u64 (amt (lst (b p) 8) d).b, .int .u64 (amt (lst (b p) 8) d).c, .int .u64 (amt (lst (b p) 8) d).e], .int .i64 0]) ∧ Below X.heap.size X w' := by
    intro v X hv
    by_cases hc : d < 8 ∧ vl (b p d) ≠ 0
    · have hg := hB.get_yes hp hc.1 hc.2
      rcases hv with ⟨e, -⟩ | ⟨q, e, hq⟩
      · rw [hg] at e; cases e
      · rw [hg] at e; injection e with e; subst e
        rw [amt_full hpur hc.1] at hlim ⊢
        have h1 := vl_lo hpur hc.1
        exact read_good (byL_good _ _) (byL_len _ _) hlim (rd_byL32 h1.1 h1.2).symm X hq
    · have hz : vl (amt (lst (b p) 8) d) = 0 := by
        by_cases h8 : d < 8
        · rw [amt_full hpur h8]; exact Classical.byContradiction fun e => hc ⟨h8, e⟩
        · rw [amt_beyond hpur h8]; exact val0
      have hg := hB.get_no (d := d) hp (fun h8 => Classical.byContradiction fun e => hc ⟨h8, e⟩)
      rcases hv with ⟨-, rfl⟩ | ⟨q, e, hq⟩
      · exact read_good good_nil (by simp) hlim (hz.trans rd_nil.symm) X (.inl ⟨rfl, _, _, rfl⟩)
      · rw [hg] at e; cases e
  generalize amt (lst (b p) 8) d = x at *
  replace hR : Hid _ := hR
  clear hG
  have hpad := pads
  obtain ⟨su, cu, rfl, -⟩ := hu.parts
  go_enter Try.func36, Try.ntmps36
  go_wp2_with (first
    | (go_at_call 53; refine (stdGet (h.below (by (repeat (first | (with_reducible exact Below.refl _ _) | (with_reducible assumption) | (with_reducible apply bd) | (with_reducible apply ba) | (with_reducible refine bp ?_ (by first | omega | (simp [pad_size]; done) | (simp [pad_size]; omega)) _ _) | (with_reducible refine bs ?_ (by first | omega | (simp [pad_size]; done) | (simp [pad_size]; omega)) _) | (with_reducible refine bt ?_ (by assumption)))))) hn (hu.kept (grown_none (by (repeat (first | (with_reducible exact Below.refl _ _) | (with_reducible assumption) | (with_reducible apply bd) | (with_reducible apply ba) | (with_reducible refine bp ?_ (by first | omega | (simp [pad_size]; done) | (simp [pad_size]; omega)) _ _) | (with_reducible refine bs ?_ (by first | omega | (simp [pad_size]; done) | (simp [pad_size]; omega)) _) | (with_reducible refine bt ?_ (by assumption))))))) (byte_ky p hd)).mono ?_; rintro e w1 ⟨hb1, ⟨h1, rfl⟩ | ⟨v, q, h1, rfl, hv⟩⟩)
    | (go_at_call 54; refine (hR.out _ _ (.inl ⟨h1, rfl⟩)).mono ?_; rintro e w2 ⟨rfl, hb2⟩; obtain ⟨m2, g2, d2, hm2, rfl⟩ := pad_of (bt hb1 hb2); clear hb1 hb2; (try simp at hm2); have st := sz1 (n := W.heap.size) (m := m2) hm2)
    | (go_at_call 54; refine (hR.out _ _ (.inr ⟨q, h1, hv⟩)).mono ?_; rintro e w2 ⟨rfl, hb2⟩; clear hv; obtain ⟨m2, g2, d2, hm2, rfl⟩ := pad_of (bt hb1 hb2); clear hb1 hb2; (try simp at hm2); have st := sz1 (n := W.heap.size) (m := m2) hm2))
  all_goals refine bodyPost_ret (v := .agg #[.int .u64 x.a, .int .u64 x.b, .int .u64 x.c, .int .u64 x.e]) (by simp only [results, Try.results36]; go_simp) rfl ⟨rfl, ?_⟩
  all_goals (repeat (first | (with_reducible exact Below.refl _ _) | (with_reducible assumption) | (with_reducible apply bd) | (with_reducible apply ba) | (with_reducible refine bp ?_ (by first | omega | (simp [pad_size]; done) | (simp [pad_size]; omega)) _ _) | (with_reducible refine bs ?_ (by first | omega | (simp [pad_size]; done) | (simp [pad_size]; omega)) _) | (with_reducible refine bt ?_ (by assumption))))
end
end Go.Proofs.Ytgphdioolcfmmaa
