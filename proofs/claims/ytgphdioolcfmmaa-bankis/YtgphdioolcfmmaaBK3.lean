
/- bank: a number is kept at a key; what is kept at a place. -/
import Derived.Test.YtgphdioolcfmmaaBK2
import Derived.Deep.RegionHeld2
import Derived.Deep.CutRange
import Derived.Maps.AppendAt
set_option linter.unusedSimpArgs false
set_option linter.unusedVariables false
set_option maxRecDepth 20000
namespace Go.Proofs.Ytgphdioolcfmmaa
open Go.RowKit

theorem bytes_row (x0 x1 x2 x3 : Int) (hx : Lim x0 x1 x2 x3) (w : World) :
    Calls Try.prog 70 #[.agg #[.int .u64 x0, .int .u64 x1, .int .u64 x2, .int .u64 x3]] w fun e w' => ∃ v : Value, e = .returned v ∧ IsBytes w' v (byL (val x0 x1 x2 x3) 32) ∧ (∀ g, v.ownBlock = some g → w.heap.size ≤ g) ∧ Below w.heap.size w w' := by
  refine (bytes_any x0 x1 x2 x3 hx w).mono ?_
  rintro e w' ⟨v, rfl, hr, hb⟩
  rw [bytesB_byL hx] at hr
  have := byL_len (val x0 x1 x2 x3) 32
  exact ⟨v, rfl, own_bytes (by omega) hr, fun g hg => (hr.lt g hg).1, hb⟩
theorem byL_ne {n : Int} (h0 : 0 ≤ n) (h1 : n < 115792089237316195423570985008687907853269984665640564039457584007913129639936) (hn : n ≠ 0) : byL n 32 ≠ [] := fun e => by
  have := rd_byL32 h0 h1
  rw [e, rd_nil] at this
  exact hn this.symm
section
variable {W : World} {s base : Nat} {A : Nat → Prop} {L : List (List Int × List Int)} {ds : List (List (List Int × List Int))} {n : Nat} {b : Nat → Nat → Cn}
set_option maxHeartbeats 4000000 in
theorem putB_any {u : Value} {p d : Nat} {x : Cn} (h : StD W s base A L ds n) (hB : BkL L b) (hn : n ≤ 1000) (hp : p ≤ 256) (hd : d < 8) (hu : Src W u (ky p d)) (hua : ∀ g, u.ownBlock = some g → ¬ A g) (hx : LimC x) (hxd : x.d = d) :
    Calls Try.prog 56 #[.pointer (some ⟨s, 0, none⟩), u, .agg #[.int .u64 x.a, .int .u64 x.b, .int .u64 x.c, .int .u64 x.e]] W fun e w' => e = .returned (.tuple #[]) ∧ ∃ A' L', StD w' s base A' L' ds (n + 1) ∧ BkL L' (upB b p d x) ∧ Fr W w' A A' := by
  have heq := eq_num
  have hE := eq4_vl hx
  have hU := hB.up hp hd hx hxd
  have hkb := byte_ky p (d := d) (by omega)
  have hkl : (ky p d).length ≤ 1048576 := by have := plc_len p; have := ky_len p d; omega
  obtain ⟨su, cu, rfl, -⟩ := hu.parts
  have h1 : 0 ≤ vl x ∧ vl x < 115792089237316195423570985008687907853269984665640564039457584007913129639936 := ⟨val_lo hx, val_hi hx⟩
  by_cases h0 : vl x = 0
  · rw [decide_eq_true h0] at hE
    rw [if_pos h0] at hU
    go_enter Try.func56, Try.ntmps56
    go_wp2_with (go_at_call 68; refine (stdDel (h.below (by (repeat (first | (with_reducible exact Below.refl _ _) | (with_reducible assumption) | (with_reducible apply bd) | (with_reducible apply ba) | (with_reducible refine bp ?_ (by first | omega | (simp [pad_size]; done) | (simp [pad_size]; omega)) _ _) | (with_reducible refine bs ?_ (by first | omega | (simp [pad_size]; done) | (simp [pad_size]; omega)) _) | (with_reducible refine bt ?_ (by assumption)))))) hn (hu.kept (grown_none (by (repeat (first | (with_reducible exact Below.refl _ _) | (with_reducible assumption) | (with_reducible apply bd) | (with_reducible apply ba) | (with_reducible refine bp ?_ (by first | omega | (simp [pad_size]; done) | (simp [pad_size]; omega)) _ _) | (with_reducible refine bs ?_ (by first | omega | (simp [pad_size]; done) | (simp [pad_size]; omega)) _) | (with_reducible refine bt ?_ (by assumption))))))) hkb hkl (.inr hua)).mono ?_; rintro e w1 ⟨rfl, A1, h2, f1⟩)
    refine bodyPost_end (v := .tuple #[]) (by simp [results, Try.results56]) rfl ?_
    exact ⟨rfl, A1, _, h2, hU, (Fr.below (by (repeat (first | (with_reducible exact Below.refl _ _) | (with_reducible assumption) | (with_reducible apply bd) | (with_reducible apply ba) | (with_reducible refine bp ?_ (by first | omega | (simp [pad_size]; done) | (simp [pad_size]; omega)) _ _) | (with_reducible refine bs ?_ (by first | omega | (simp [pad_size]; done) | (simp [pad_size]; omega)) _) | (with_reducible refine bt ?_ (by assumption)))))).trans f1⟩
  · rw [decide_eq_false h0] at hE
    rw [if_neg h0] at hU
    have hne := byL_ne h1.1 h1.2 h0
    have hgd := byL_good (vl x) 32
    have hgl := byL_len (vl x) 32
    have hBy : ∀ X : World, Calls Try.prog 70 #[.agg #[.int .u64 x.a, .int .u64 x.b, .int .u64 x.c, .int .u64 x.e]] X fun e w' => ∃ v : Value, e = .returned v ∧ IsBytes w' v (byL (vl x) 32) ∧ (∀ g, v.ownBlock = some g → X.heap.size ≤ g) ∧ Below X.heap.size X w' := fun X => bytes_row x.a x.b x.c x.e hx X
    generalize byL (vl x) 32 = q at *
    go_enter Try.func56, Try.ntmps56
    go_wp2_with (first
      | (go_at_call 70; refine (hBy _).mono ?_; rintro e w1 ⟨v, rfl, hv, ho, hb1⟩; have hB1 : Below W.heap.size W w1 := bt (by (repeat (first | (with_reducible exact Below.refl _ _) | (with_reducible assumption) | (with_reducible apply bd) | (with_reducible apply ba) | (with_reducible refine bp ?_ (by first | omega | (simp [pad_size]; done) | (simp [pad_size]; omega)) _ _) | (with_reducible refine bs ?_ (by first | omega | (simp [pad_size]; done) | (simp [pad_size]; omega)) _) | (with_reducible refine bt ?_ (by assumption))))) hb1)
      | (go_at_call 69; refine (stdSet (h.below (bt hB1 (by (repeat (first | (with_reducible exact Below.refl _ _) | (with_reducible assumption) | (with_reducible apply bd) | (with_reducible apply ba) | (with_reducible refine bp ?_ (by first | omega | (simp [pad_size]; done) | (simp [pad_size]; omega)) _ _) | (with_reducible refine bs ?_ (by first | omega | (simp [pad_size]; done) | (simp [pad_size]; omega)) _) | (with_reducible refine bt ?_ (by assumption))))))) hn (hu.kept (grown_none (bt hB1 (by (repeat (first | (with_reducible exact Below.refl _ _) | (with_reducible assumption) | (with_reducible apply bd) | (with_reducible apply ba) | (with_reducible refine bp ?_ (by first | omega | (simp [pad_size]; done) | (simp [pad_size]; omega)) _ _) | (with_reducible refine bs ?_ (by first | omega | (simp [pad_size]; done) | (simp [pad_size]; omega)) _) | (with_reducible refine bt ?_ (by assumption)))))))) ((isb_src hv hne).kept (grown_none (by (repeat (first | (with_reducible exact Below.refl _ _) | (with_reducible assumption) | (with_reducible apply bd) | (with_reducible apply ba) | (with_reducible refine bp ?_ (by first | omega | (simp [pad_size]; done) | (simp [pad_size]; omega)) _ _) | (with_reducible refine bs ?_ (by first | omega | (simp [pad_size]; done) | (simp [pad_size]; omega)) _) | (with_reducible refine bt ?_ (by assumption))))))) hkb hgd.1 hkl (by omega) (.inr hua) (.inr fun g hg hA => by have h7 := ho g hg; have h8 := (h.foot g hA).2; (first | omega | (simp at h7; omega)))).mono ?_; rintro e w2 ⟨rfl, A1, h2, f1⟩))
    refine bodyPost_end (v := .tuple #[]) (by simp [results, Try.results56]) rfl ?_
    exact ⟨rfl, A1, _, h2, hU, (Fr.below hB1).trans f1⟩
end
theorem coin_app {W X : World} {v : Value} {l : List Cn} (hr : X.ownsRow W.heap.size 65 5 v l.length (cellsL l)) (hb : Below W.heap.size W X) (hl : l.length ≤ 1000) {x : Cn} {o : Oper} {a : Act} {K : Act → World → Prop} {Q : Exit → Act → World → Prop} (s y : Operand)
    (ho : o.op = .call { callee := .builtin .append, args := #[s, y], argTypes := #[29, 29] }) (hs : a.eval s = v) {g : Nat} (hx : a.eval y = .slice (some ⟨g, 0, none⟩) 1 1) (hc : X.heap[g]? = some (.cells #[.int .u8 x.d, .int .u64 x.a, .int .u64 x.b, .int .u64 x.c, .int .u64 x.e] 65 (0, 0)))
    (k : ∀ v' w', w'.ownsRow W.heap.size 65 5 v' (l ++ [x]).length (cellsL (l ++ [x])) → Below W.heap.size W w' → K (a.put o.dst v') w') : o.wp Try.prog a X K Q := by
  obtain ⟨i0, hi, hz0, hz1, hz2⟩ := info_parts coin_info
  refine wp_append_own_at X s y 29 ho W.heap.size 65 i0 _ 5 40 Try.underlying29 hi hz0 hz1 hz2 rfl (by decide) v l.length (cellsL l) hs hr ⟨g, 0, none⟩ 1 1 [.int .u8 x.d, .int .u64 x.a, .int .u64 x.b, .int .u64 x.c, .int .u64 x.e] hx rfl (fun j u hj => by rw [add_cell, Nat.zero_add, (cells_of_block hc).1]; simpa using hj) (by simp [Value.oneCell']) (by unfold maxLen; omega) (by omega) hb.size ?_
  intro u' w' hown hg _ hat
  refine k u' w' (by rw [List.length_append, cellsL_append]; exact hown) (hb.grown hg hb.size (fun k hk => (hr.lt k hk).1))
theorem kst_at {W : World} {v : Value} {D : List Nat} {p : Nat} (h : Kst W v (D.map (ky p))) {j : Nat} (hj : j < D.length) : ∃ g cap blk off c, v = .slice (some ⟨g, 0, none⟩) D.length cap ∧ g < W.heap.size ∧ W.cell? ⟨g, j, none⟩ = some (.slice (some ⟨blk, off, none⟩) ((plc p).length + 1) c) ∧ blk < W.heap.size ∧ IsBytes W (.slice (some ⟨blk, off, none⟩) ((plc p).length + 1) c) (ky p D[j]) ∧ W.cell? ⟨blk, off + (plc p).length, none⟩ = some (.int .u8 (D[j] : Int)) := by
  obtain ⟨g, cap, a, c, e, h1, h2, h3⟩ := h.2 j (by simpa using hj)
  simp only [List.getElem_map, List.length_map] at e h2 h3
  rcases h3 with ⟨h4, -⟩ | ⟨blk, off, c', e2, h4, h5, h6⟩
  · exact absurd h4 (ky_ne _ _)
  · simp at e2
    obtain ⟨rfl, rfl⟩ := e2
    rw [ky_len] at h2
    have h7 := h6 (plc p).length (D[j] : Int) (by unfold ky; simp)
    refine ⟨g, cap, blk, off, c, e, h1, h2, h5, .inr ⟨blk, off, c, by rw [ky_len], h4, h5, h6⟩, h7⟩
theorem src_cur {X : World} {g cap : Nat} {p : List Int} {cur : Array Value} {t : TypeId} {fz : Nat × Nat} (h : X.heap[g]? = some (.cells cur t fz)) (hc : cur.toList.take p.length = encB p) : Src X (.slice (some ⟨g, 0, none⟩) p.length cap) p := by
  refine .inr ⟨⟨g, 0, none⟩, cap, rfl, fun i x hi => ?_⟩
  rw [add_cell, Nat.zero_add, cell_of_row X g i cur t fz h]
  have h1 : (cur.toList.take p.length)[i]? = some (.int .u8 x) := by rw [hc]; simp [encB, hi]
  rw [List.getElem?_take] at h1
  split at h1
  · simpa using h1
  · cases h1
section
variable {W : World} {s base : Nat} {A : Nat → Prop} {L : List (List Int × List Int)} {ds : List (List (List Int × List Int))} {n : Nat} {b : Nat → Nat → Cn}
set_option maxHeartbeats 4000000 in
theorem kept_any {t : ByteArray} {p : Nat} (h : StD W s base A L ds n) (hB : BkL L b) (hn : n ≤ 1000) (hp : p ≤ 256) (ht : StrIs t (plc p)) :
    Calls Try.prog 35 #[.pointer (some ⟨s, 0, none⟩), .string t] W fun e w' => ∃ v, e = .returned v ∧ IsCoins w' v (lst (b p) 8) ∧ Below W.heap.size W w' := by
  have hpad := pads
  have hpur := hB.pur p hp
  obtain ⟨cap, cur, hcv, hc1, hc2, hc3⟩ := cv_str ht (byte_plc p) W
  replace hc3 : Hid _ := hc3
  have hpl : (plc p).length ≤ 1048576 := by have := plc_len p; omega
  have hK : Hid (∀ (X : World) (u : Value), Below W.heap.size W X → Src X u (plc p) → Calls Try.prog 51 #[.pointer (some ⟨s, 0, none⟩), u] X fun e w' => ∃ v, e = .returned v ∧ Kst w' v ((dsL (b p) 8).map (ky p)) ∧ Below X.heap.size X w') := fun X u hb hu => by rw [← hB.keys hp]; exact stdKeys (h.below hb) hn hu (byte_plc p) hpl
  have hL := lst_dsL hpur 8 (Nat.le_refl _)
  have hdl : (dsL (b p) 8).length ≤ 8 := by
    have : ((dsL (b p) 8).map (b p)).length ≤ 8 := by rw [← hL]; exact lst_len _ _
    simpa using this
  have hdm : ∀ d ∈ dsL (b p) 8, d < 8 ∧ vl (b p d) ≠ 0 := fun d hd => dsL_mem.1 hd
  rw [hL]
  generalize hds : dsL (b p) 8 = D at *
  clear hL hds
  go_enter Try.func35, Try.ntmps35
  go_wp2_with (go_at_call 51; refine (hK.out (W.alloc (.cells cur 5 (cap, cap + 1))).drew _ (by (repeat (first | (with_reducible exact Below.refl _ _) | (with_reducible assumption) | (with_reducible apply bd) | (with_reducible apply ba) | (with_reducible refine bp ?_ (by first | omega | (simp [pad_size]; done) | (simp [pad_size]; omega)) _ _) | (with_reducible refine bs ?_ (by first | omega | (simp [pad_size]; done) | (simp [pad_size]; omega)) _) | (with_reducible refine bt ?_ (by assumption))))) (src_cur (cap := cap) (fz := (cap, cap + 1)) ((dr_blk _ _).trans (al_at rfl)) hc3.out)).mono ?_; rintro e w1 ⟨v, rfl, hk, hb1⟩; have hB1 : Below W.heap.size W w1 := bt (by (repeat (first | (with_reducible exact Below.refl _ _) | (with_reducible assumption) | (with_reducible apply bd) | (with_reducible apply ba) | (with_reducible refine bp ?_ (by first | omega | (simp [pad_size]; done) | (simp [pad_size]; omega)) _ _) | (with_reducible refine bs ?_ (by first | omega | (simp [pad_size]; done) | (simp [pad_size]; omega)) _) | (with_reducible refine bt ?_ (by assumption))))) hb1; obtain ⟨ak, ck, rfl⟩ := hk.1; clear hb1)
  go_loopw [5, 13] (fun v5 v13 X => ∃ j : Nat, j ≤ D.length ∧ v13 = .int .i64 (j : Int) ∧ X.ownsRow w1.heap.size 65 5 v5 ((D.take j).map (b p)).length (cellsL ((D.take j).map (b p))) ∧ Below w1.heap.size w1 X) (fun _ v13 _ => D.length - (intOf v13).toNat)
  case atStart => exact ⟨0, by omega, rfl, World.ownsRow_nil _ _ _ _, Below.refl _ _⟩
  case round =>
    obtain ⟨j, hj, rfl, hrow, hX⟩ := hrel
    by_cases hlt : j < D.length
    · obtain ⟨g, cp, blk, off, c, ev, hg, hc0, hbl, hkb, hc1'⟩ := kst_at hk hlt
      simp at ev
      obtain ⟨rfl, rfl⟩ := ev
      obtain ⟨hd8, hdv⟩ := hdm _ (List.getElem_mem hlt)
      have hx := hpur _ hd8
      have hA : Hid (∀ X, Below w1.heap.size w1 X → Calls Try.prog 36 #[.pointer (some ⟨s, 0, none⟩), .slice (some ⟨blk, off, none⟩) ((plc p).length + 1) c] X fun e w' => e = .returned (.agg #[.int .u64 (b p D[j]).a, .int .u64 (b p D[j]).b, .int .u64 (b p D[j]).c, .int .u64 (b p D[j]).e]) ∧ Below X.heap.size X w') := fun X hX => by
        have := amt_any (h.below (bt hB1 hX)) hB hn hp (d := D[j]) (by omega) (isb_src (hkb.below hX) (ky_ne _ _))
        rwa [amt_full hpur hd8] at this
      have hq : Hid (eq4 (b p D[j]).a (b p D[j]).b (b p D[j]).c (b p D[j]).e 0 0 0 0 = false) := by show _ = _; rw [eq4_vl hx.1, decide_eq_false hdv]
      have htk : Hid ((D.take (j + 1)).map (b p) = (D.take j).map (b p) ++ [⟨(D[j] : Nat), (b p D[j]).a, (b p D[j]).b, (b p D[j]).c, (b p D[j]).e⟩]) := by
        show _ = _
        rw [List.take_succ_eq_append_getElem hlt, List.map_append]
        congr 1
        simp only [List.map_cons, List.map_nil]
        rw [← hx.2]
      have hl8 : ((D.take j).map (b p)).length ≤ 1000 := by simp; omega
      generalize (D.take j).map (b p) = l at *
      generalize b p D[j] = x at *
      generalize hdd : D[j] = d at *
      have hd8' : ¬ (8 : Int) ≤ (d : Int) := by omega
      have hKeep : Hid (∀ X, Below w1.heap.size w1 X → X.cell? ⟨blk, off + (plc p).length, none⟩ = some (.int .u8 (d : Int))) := fun X hX => (hX.cell (p := ⟨blk, off + (plc p).length, none⟩) hbl).trans hc1'
      have k0 := hKeep.out _ hX
      have c0 := (hX.cell (p := ⟨g, j, none⟩) hg).trans hc0
      have hdl : decide ((j : Int) < (D.length : Int)) = true := by simpa using hlt
      have hpm := plc_len p
      obtain ⟨m, hm⟩ : ∃ m, (plc p).length = m := ⟨_, rfl⟩
      rw [hm] at hpm hA hKeep k0 c0
      clear hc1' hc0 hkb hm hk hdd hdm
      obtain ⟨a5, c5, rfl⟩ := row_slice hrow
      obtain ⟨n1, hn1⟩ : ∃ n1, m + 1 = n1 := ⟨_, rfl⟩
      rw [hn1] at hA c0
      have hw1 : IntKind.i64.wrap ((n1 : Int) - 1) = (m : Int) := by rw [IntKind.wrap_i64]; omega
      have hm0 : (0 : Int) ≤ (m : Int) := by omega
      have hm1 : (m : Int) < (n1 : Int) := by omega
      clear hn1 hpm
      go_upto_region 5 with fail
      go_region_held2 (fun X => X.cell? ⟨blk, off + m, none⟩ = some (.int .u8 (d : Int))) (first | (with_reducible exact hKeep.out _ (by assumption)) | exact hKeep.out _ (bt hX (by (repeat (first | (with_reducible exact Below.refl _ _) | (with_reducible assumption) | (with_reducible apply bd) | (with_reducible apply ba) | (with_reducible refine bp ?_ (by first | omega | (simp [pad_size]; done) | (simp [pad_size]; omega)) _ _) | (with_reducible refine bs ?_ (by first | omega | (simp [pad_size]; done) | (simp [pad_size]; omega)) _) | (with_reducible refine bt ?_ (by assumption))))))) (first
        | (go_at_call 36; refine (hA.out _ (bt hX (by (repeat (first | (with_reducible exact Below.refl _ _) | (with_reducible assumption) | (with_reducible apply bd) | (with_reducible apply ba) | (with_reducible refine bp ?_ (by first | omega | (simp [pad_size]; done) | (simp [pad_size]; omega)) _ _) | (with_reducible refine bs ?_ (by first | omega | (simp [pad_size]; done) | (simp [pad_size]; omega)) _) | (with_reducible refine bt ?_ (by assumption))))))).mono ?_; rintro e w2 ⟨rfl, hb2⟩; obtain ⟨m1, g1, d1, hm1, rfl⟩ := pad_of hb2; clear hb2; (try simp [pad_size] at hm1))
        | (go_at_call 52; refine (one_some d x.a x.b x.c x.e (by omega) hq.out _).mono ?_; rintro e w3 ⟨rfl, rfl⟩)
        | (rw [if_pos (by rfl)]; refine coin_app (W := w1) (x := ⟨(d : Nat), x.a, x.b, x.c, x.e⟩) (own_below hrow (by (repeat (first | (with_reducible exact Below.refl _ _) | (with_reducible assumption) | (with_reducible apply bd) | (with_reducible apply ba) | (with_reducible refine bp ?_ (by first | omega | (simp [pad_size]; done) | (simp [pad_size]; omega)) _ _) | (with_reducible refine bs ?_ (by first | omega | (simp [pad_size]; done) | (simp [pad_size]; omega)) _) | (with_reducible refine bt ?_ (by assumption)))))) (bt hX (by (repeat (first | (with_reducible exact Below.refl _ _) | (with_reducible assumption) | (with_reducible apply bd) | (with_reducible apply ba) | (with_reducible refine bp ?_ (by first | omega | (simp [pad_size]; done) | (simp [pad_size]; omega)) _ _) | (with_reducible refine bs ?_ (by first | omega | (simp [pad_size]; done) | (simp [pad_size]; omega)) _) | (with_reducible refine bt ?_ (by assumption)))))) hl8 _ _ rfl rfl rfl (by (repeat (first | (with_reducible exact al_at (by simp [pad_size])) | (with_reducible refine Eq.trans (dr_blk _ _) ?_) | (with_reducible refine Eq.trans (al_old (by first | omega | (simp [pad_size]; done) | (simp [pad_size]; omega))) ?_) | (with_reducible refine Eq.trans (pad_block (by first | omega | (simp [pad_size]; done) | (simp [pad_size]; omega)) (by first | omega | (simp [pad_size]; done) | (simp [pad_size]; omega))) ?_) | (with_reducible assumption)))) ?_; intro v' w4 hr4 hb4))
      all_goals go_wp2
      all_goals go_roundw
      case rel => exact ⟨j + 1, by omega, by go_num, by rw [htk.out]; exact hr4, hb4⟩
      case measure => (simp [intOf] <;> omega)
    · have hjn : j = D.length := by omega
      subst hjn
      rw [List.take_length] at hrow
      go_wp2
      go_ret
      refine ⟨_, rfl, own_coins hrow (by simp; omega), bt hB1 hX⟩
end
end Go.Proofs.Ytgphdioolcfmmaa
