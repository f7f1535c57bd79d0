
/- num.Text. -/
import Derived.Test.YtbfpagmibjbbkaaE11
import Derived.Test.YtbfpagmibjbbkaaE12
set_option linter.unusedSimpArgs false
set_option linter.unusedVariables false
namespace Go.Proofs.Ytbfpagmibjbbkaa
open Go.RowKit

/-- The last t digits, as they are laid. -/
def digI (N : Int) : Nat → List Int
  | 0 => []
  | t + 1 => (48 + N / 10 ^ t % 10) :: digI N t
theorem digI_len (N : Int) : ∀ t, (digI N t).length = t
  | 0 => rfl
  | t + 1 => by simp [digI, digI_len N t]
theorem digI_tl (N : Int) : ∀ t, (digI N t).map (fun b => UInt8.ofNat b.toNat) = tl N t
  | 0 => rfl
  | t + 1 => by simp [digI, tl, digI_tl N t]
theorem fold_push (l : List Int) (r : ByteArray) : l.foldl (fun r n => r.push (UInt8.ofNat n.toNat)) r = ⟨r.data ++ (l.map fun b => UInt8.ofNat b.toNat).toArray⟩ := by
  induction l generalizing r with
  | nil => simp
  | cons b l ih =>
    rw [List.foldl_cons, ih]
    show ByteArray.mk ((r.data.push _) ++ _) = _
    congr 1
    apply Array.toList_inj.1
    simp
theorem conv_dig (W : World) (g off cap : Nat) (l : List Int) (n : Nat) (hn : l.length = n) (h : ∀ j v, l[j]? = some v → W.cell? ⟨g, off + j, none⟩ = some (.int .u8 v)) :
    (convert 35 9 (.slice (some ⟨g, off, none⟩) n cap)).run Try.prog W = .ok (.string ⟨(l.map fun b => UInt8.ofNat b.toNat).toArray⟩) W := by
  subst hn
  rw [run_convert_bytes_string _ 35 9 5 _ _ _ Try.underlying35 Try.underlying5 Try.underlying9]
  rw [run_bytesToString _ ⟨g, off, none⟩ l.length cap l (by
    have := run_loadCells_list (P := Try.prog) W ⟨g, off, none⟩ (l.map (Value.int .u8)) (fun j v hj => by
      have e : Addr.add ⟨g, off, none⟩ j = ⟨g, off + j, none⟩ := by
        unfold Addr.add; split
        · subst_vars; rfl
        · simp
      rw [e]
      rw [List.getElem?_map] at hj
      obtain ⟨x, hx, rfl⟩ := Option.map_eq_some_iff.1 hj
      exact h j x hx)
    simpa using this), fold_push]
  rw [show ByteArray.empty.data = #[] from rfl, Array.empty_append]
theorem set4 (Rc : Array Value) (hs : Rc.size = 4) (z0 z1 z2 z3 : Value) : (((Rc.setIfInBounds 0 z0).setIfInBounds 1 z1).setIfInBounds 2 z2).setIfInBounds 3 z3 = #[z0, z1, z2, z3] :=
  match Rc, hs with
  | ⟨[r0, r1, r2, r3]⟩, _ => by simp
theorem blk6 {W : World} {A B i : Nat} {Qc Rc : Array Value} {t t' : TypeId} (q z0 z1 z2 z3 : Value) (hQ : W.heap[A]? = some (.cells Qc t (0, 0))) (hR : W.heap[B]? = some (.cells Rc t' (0, 0))) (hs : Rc.size = 4) (hne : A ≠ B) :
    (((((W.setCell ⟨B, 0, none⟩ z0).setCell ⟨B, 1, none⟩ z1).setCell ⟨B, 2, none⟩ z2).setCell ⟨B, 3, none⟩ z3).setCell ⟨A, i, none⟩ q).heap[A]? = some (.cells (Qc.setIfInBounds i q) t (0, 0)) ∧
    (((((W.setCell ⟨B, 0, none⟩ z0).setCell ⟨B, 1, none⟩ z1).setCell ⟨B, 2, none⟩ z2).setCell ⟨B, 3, none⟩ z3).setCell ⟨A, i, none⟩ q).heap[B]? = some (.cells #[z0, z1, z2, z3] t' (0, 0)) ∧
    (((((W.setCell ⟨B, 0, none⟩ z0).setCell ⟨B, 1, none⟩ z1).setCell ⟨B, 2, none⟩ z2).setCell ⟨B, 3, none⟩ z3).setCell ⟨A, i, none⟩ q).heap.size = W.heap.size := by
  have h0 := block_set (i := 0) z0 hR
  have h1 := block_set (i := 1) z1 h0
  have h2 := block_set (i := 2) z2 h1
  have h3 := block_set (i := 3) z3 h2
  have hB := block_set_other (i := i) q h3 hne
  have k0 := block_set_other (i := 0) z0 hQ (by omega : ¬ B = A)
  have k1 := block_set_other (i := 1) z1 k0 (by omega : ¬ B = A)
  have k2 := block_set_other (i := 2) z2 k1 (by omega : ¬ B = A)
  have k3 := block_set_other (i := 3) z3 k2 (by omega : ¬ B = A)
  refine ⟨block_set q k3, ?_, by simp [World.setCell]⟩
  rw [hB]
  rw [set4 Rc hs]

theorem zero78 : ∃ c : Array Value, c.size = 78 ∧ ∀ W : World, (zeroValue 32).run Try.prog W = .ok (.agg c) W := by
  have h : (Try.prog.info? 32).map (fun i => i.zero) = some (some (.agg (Array.replicate 78 (.int .u8 0)))) := by kernel_rfl
  obtain ⟨i, hi, hz⟩ := Option.map_eq_some_iff.1 h
  refine ⟨Array.replicate 78 (.int .u8 0), by simp, fun W => ?_⟩
  simp [zeroValue, typeInfo, hi, hz]

theorem slice78 (W : World) (b k : Nat) (hk : k < 78) : (Instr.sliceAt 32 (.pointer (some ⟨b, 0, none⟩)) (some (.int .i64 (k : Int))) none none).run Try.prog W = .ok (.slice (some ⟨b, k, none⟩) (78 - k) (78 - k)) W := by
  have e : Try.prog.arrayLen 32 = 78 := by kernel_rfl
  have e2 : Try.prog.elem 32 = 5 := by kernel_rfl
  have hu : Try.prog.underlying 32 = some (.array (Try.prog.arrayLen 32) (Try.prog.elem 32)) := by rw [e, e2]; exact Try.underlying32
  obtain ⟨i0, hi, hz0, hz1, hz2⟩ := info_parts u8_info
  rw [run_sliceAt_array_l W 32 _ hu .i64 (k : Int) (by omega) (by rw [e]; omega), e, e2]
  have hs : (sizeOf 5).run Try.prog W = .ok 1 W := by simp [sizeOf, typeInfo, hi, hz1]
  rw [hs]
  have hne : ¬ 78 = k := by omega
  simp [Result.andThen, slicedAt, hne, Addr.add]
  intro h; exact h.symm
/-- One digit more. -/
theorem text_step {wr : World} {h k t m d : Nat} {g : Nat → Obj} {a0 a1 a2 a3 N r : Int} {c : Array Value} (q0 q1 q2 q3 : Int) (p1 : wr.heap[h]? = some (.cells #[.int .u64 a0, .int .u64 a1, .int .u64 a2, .int .u64 a3] 24 (0, 0))) (p2 : wr.heap[h + 1]? = some (.cells c 32 (0, 0))) (hcs : c.size = 78) (hk : t + (k + 1) = 78)
    (hdg : ∀ j v, (digI N t)[j]? = some v → c[k + 1 + j]? = some (.int .u8 v)) (hr : r = N / 10 ^ t % 10) (hm : wr.heap.size ≤ m) :
    (pad (((((wr.setCell ⟨h, 0, none⟩ (.int .u64 q0)).setCell ⟨h, 1, none⟩ (.int .u64 q1)).setCell ⟨h, 2, none⟩ (.int .u64 q2)).setCell ⟨h, 3, none⟩ (.int .u64 q3)).setCell ⟨h + 1, k, none⟩ (.int .u8 (48 + r))) m g d).heap[h]? = some (.cells #[.int .u64 q0, .int .u64 q1, .int .u64 q2, .int .u64 q3] 24 (0, 0)) ∧
    (pad (((((wr.setCell ⟨h, 0, none⟩ (.int .u64 q0)).setCell ⟨h, 1, none⟩ (.int .u64 q1)).setCell ⟨h, 2, none⟩ (.int .u64 q2)).setCell ⟨h, 3, none⟩ (.int .u64 q3)).setCell ⟨h + 1, k, none⟩ (.int .u8 (48 + r))) m g d).heap[h + 1]? = some (.cells (c.setIfInBounds k (.int .u8 (48 + r))) 32 (0, 0)) ∧
    (∀ j v, (digI N (t + 1))[j]? = some v → (c.setIfInBounds k (.int .u8 (48 + r)))[k + j]? = some (.int .u8 v)) ∧
    (convert 35 9 (.slice (some ⟨h + 1, k, none⟩) (78 - k) (78 - k))).run Try.prog (pad (((((wr.setCell ⟨h, 0, none⟩ (.int .u64 q0)).setCell ⟨h, 1, none⟩ (.int .u64 q1)).setCell ⟨h, 2, none⟩ (.int .u64 q2)).setCell ⟨h, 3, none⟩ (.int .u64 q3)).setCell ⟨h + 1, k, none⟩ (.int .u8 (48 + r))) m g d) = .ok (.string (txt N (t + 1))) (pad (((((wr.setCell ⟨h, 0, none⟩ (.int .u64 q0)).setCell ⟨h, 1, none⟩ (.int .u64 q1)).setCell ⟨h, 2, none⟩ (.int .u64 q2)).setCell ⟨h, 3, none⟩ (.int .u64 q3)).setCell ⟨h + 1, k, none⟩ (.int .u8 (48 + r))) m g d) := by
  obtain ⟨b1, b2, b3⟩ := blk6 (i := k) (.int .u8 (48 + r)) (.int .u64 q0) (.int .u64 q1) (.int .u64 q2) (.int .u64 q3) p2 p1 rfl (by omega)
  have l1 := (Array.getElem?_eq_some_iff.1 p1).1
  have l2 := (Array.getElem?_eq_some_iff.1 p2).1
  have c1 := (pad_block (g := g) (d := d) (m := m) (by rw [b3]; exact l1) (by omega)).trans b2
  have c2 := (pad_block (g := g) (d := d) (m := m) (by rw [b3]; exact l2) (by omega)).trans b1
  have hall : ∀ j v, (digI N (t + 1))[j]? = some v → (c.setIfInBounds k (.int .u8 (48 + r)))[k + j]? = some (.int .u8 v) := by
    intro j v hj
    cases j with
    | zero =>
      simp only [digI, List.getElem?_cons_zero, Option.some.injEq] at hj
      rw [Nat.add_zero, Array.getElem?_setIfInBounds, if_pos rfl, if_pos (by omega), ← hj, hr]
    | succ j =>
      simp only [digI, List.getElem?_cons_succ] at hj
      have e : k + (j + 1) = k + 1 + j := by omega
      rw [Array.getElem?_setIfInBounds, if_neg (by omega), e]
      exact hdg j v hj
  refine ⟨c1, c2, hall, ?_⟩
  rw [conv_dig _ (h + 1) k (78 - k) (digI N (t + 1)) (78 - k) (by rw [digI_len]; omega) (fun j v hj => by rw [(cells_of_block c2).1]; exact hall j v hj), digI_tl]
  rfl

set_option maxRecDepth 100000 in
set_option maxHeartbeats 8000000 in
theorem text_any (x0 x1 x2 x3 : Int) (hx : Lim x0 x1 x2 x3) (w : World) :
    Calls Try.prog 5 #[.agg #[.int .u64 x0, .int .u64 x1, .int .u64 x2, .int .u64 x3]] w fun e w' => ∃ t : Nat, e = .returned (.string (txt (val x0 x1 x2 x3) (t + 1))) ∧ Hid (Dgs (val x0 x1 x2 x3) t) ∧ Below w.heap.size w w' := by
  have hpad := pads
  have heq := eq_num
  obtain ⟨N, hN⟩ : ∃ N, Hid (val x0 x1 x2 x3 = N) := ⟨_, rfl⟩
  rw [hN.out]
  have hN0 : 0 ≤ N := by rw [← hN.out]; exact val_lo hx
  have hN1 : N < 115792089237316195423570985008687907853269984665640564039457584007913129639936 := by rw [← hN.out]; exact val_hi hx
  obtain ⟨cz, hcz, hzv⟩ := zero78
  go_enter Try.func5, Try.ntmps5
  go_wp2
  go_loopw [4] (fun f wr => ∃ (t k : Nat) (a0 a1 a2 a3 : Int) (c : Array Value), t + k = 78 ∧ f = .int .i64 (k : Int) ∧ Lim a0 a1 a2 a3 ∧ Hid (val a0 a1 a2 a3 = N / 10 ^ t) ∧ (t = 0 ∨ Hid (N / 10 ^ t ≠ 0)) ∧ wr.heap[w.heap.size]? = some (.cells #[.int .u64 a0, .int .u64 a1, .int .u64 a2, .int .u64 a3] 24 (0, 0)) ∧ wr.heap[w.heap.size + 1]? = some (.cells c 32 (0, 0)) ∧ c.size = 78 ∧ Hid (∀ j v, (digI N t)[j]? = some v → c[k + j]? = some (.int .u8 v)) ∧ Below w.heap.size w wr) (fun f _ => (intOf f).toNat)
  case atStart =>
    exact ⟨0, 78, x0, x1, x2, x3, cz, rfl, rfl, hx, by unfold Hid; rw [hN.out]; simp, .inl rfl, by (repeat (first | (with_reducible exact al_at (by simp [pad_size])) | (with_reducible refine Eq.trans (dr_blk _ _) ?_) | (with_reducible refine Eq.trans (al_old (by first | omega | (simp [pad_size]; done) | (simp [pad_size]; omega))) ?_) | (with_reducible refine Eq.trans (pad_block (by first | omega | (simp [pad_size]; done) | (simp [pad_size]; omega)) (by first | omega | (simp [pad_size]; done) | (simp [pad_size]; omega))) ?_) | (with_reducible assumption))), by (repeat (first | (with_reducible exact al_at (by simp [pad_size])) | (with_reducible refine Eq.trans (dr_blk _ _) ?_) | (with_reducible refine Eq.trans (al_old (by first | omega | (simp [pad_size]; done) | (simp [pad_size]; omega))) ?_) | (with_reducible refine Eq.trans (pad_block (by first | omega | (simp [pad_size]; done) | (simp [pad_size]; omega)) (by first | omega | (simp [pad_size]; done) | (simp [pad_size]; omega))) ?_) | (with_reducible assumption))), hcz, fun j v h => by simp [digI] at h, by (repeat (first | (with_reducible exact Below.refl _ _) | (with_reducible assumption) | (with_reducible apply bd) | (with_reducible apply ba) | (with_reducible refine bp ?_ (by first | omega | (simp [pad_size]; done) | (simp [pad_size]; omega)) _ _) | (with_reducible refine bs ?_ (by first | omega | (simp [pad_size]; done) | (simp [pad_size]; omega)) _) | (with_reducible refine bt ?_ (by assumption))))⟩
  case round =>
    obtain ⟨t, k', a0, a1, a2, a3, c, htk, rfl, ha, hv, htn, p1, p2, hcs, hdg, hB⟩ := hrel
    have ht78 : t < 78 := by
      rcases htn with h | h
      · omega
      · apply Nat.lt_of_not_le
        intro hh
        apply h.out
        apply Int.ediv_eq_zero_of_lt hN0
        have h3 := p10_le hh
        have h2 : (10 : Int) ^ 78 = 1000000000000000000000000000000000000000000000000000000000000000000000000000000 := by decide
        omega
    obtain ⟨k, rfl⟩ : ∃ k, k' = k + 1 := ⟨k' - 1, by omega⟩
    obtain ⟨f, hf⟩ : ∃ f : Int, f = ((k + 1 : Nat) : Int) := ⟨_, rfl⟩
    have hf1 : f - 1 = (k : Int) := by omega
    have hf2 : 1 ≤ f ∧ f ≤ 78 := by omega
    rw [← hf]
    have hk78 : k < 78 := by omega
    have hfk : Hid (f = ((k + 1 : Nat) : Int)) := hf
    have htk' : Hid (t + (k + 1) = 78) := htk
    clear hf htk
    obtain ⟨cA, fA⟩ := cells_of_block p1
    obtain ⟨cB0, fB⟩ := cells_of_block p2
    have cB : wr.cell? ⟨w.heap.size + 1, k, none⟩ = some (c[k]'(by omega)) := by rw [cB0]; simp [hcs, hk78]
    clear cB0
    have lA := (Array.getElem?_eq_some_iff.1 p1).1
    have lB := (Array.getElem?_eq_some_iff.1 p2).1
    have hsl := fun W => slice78 W (w.heap.size + 1) k hk78
    have hdiv : Hid (N / 10 ^ (t + 1) = val a0 a1 a2 a3 / 10 ∧ N / 10 ^ t % 10 = val a0 a1 a2 a3 % 10) := by
      have h1 := hv.out
      have e : N / 10 ^ (t + 1) = N / 10 ^ t / 10 := by
        rw [Int.pow_succ]
        first
          | exact (Int.ediv_ediv_eq_ediv_mul _ (Int.pow_nonneg (by decide))).symm
          | exact (Int.ediv_ediv (Int.pow_nonneg (by decide))).symm
          | exact (Int.ediv_ediv_of_nonneg (Int.pow_nonneg (by decide))).symm
      exact ⟨by rw [e, h1], by rw [h1]⟩
    go_wp2_with (go_at_call 10; refine (byTen_any _ _ _ _ ha _).mono ?_; rintro e w1 ⟨q0, q1, q2, q3, r, rfl, hq, hr, hqr, hb⟩; obtain ⟨m, g, d, hm, rfl⟩ := pad_of hb; clear hb; have lAm : w.heap.size < m := (by omega); have lBm : w.heap.size + 1 < m := (by omega); have hqd : Hid (val q0 q1 q2 q3 = N / 10 ^ (t + 1) ∧ r = N / 10 ^ t % 10) := (by have h1 := hqr.out; have h2 := hdiv.out; unfold Hid; omega); obtain ⟨n1, n2, n3, hcv⟩ := text_step (g := g) (d := d) q0 q1 q2 q3 p1 p2 hcs htk'.out hdg.out hqd.out.2 hm; have n3 : Hid _ := n3)
    · go_ret
      refine ⟨t, rfl, ⟨?_, ?_⟩, by (repeat (first | (with_reducible exact Below.refl _ _) | (with_reducible assumption) | (with_reducible apply bd) | (with_reducible apply ba) | (with_reducible refine bp ?_ (by first | omega | (simp [pad_size]; done) | (simp [pad_size]; omega)) _ _) | (with_reducible refine bs ?_ (by first | omega | (simp [pad_size]; done) | (simp [pad_size]; omega)) _) | (with_reducible refine bt ?_ (by assumption))))⟩
      · rw [← hqd.out.1]; rename_i hz; rw [eq4_zero hq, decide_eq_true_iff] at hz; exact hz
      · rcases htn with h | h
        · exact .inl h
        · exact .inr h.out
    · all_goals go_roundw
      case rel =>
        refine ⟨t + 1, k, q0, q1, q2, q3, _, by have := htk'.out; omega, rfl, hq, hqd.out.1, .inr ?_, n1, n2, by simpa using hcs, n3, by (repeat (first | (with_reducible exact Below.refl _ _) | (with_reducible assumption) | (with_reducible apply bd) | (with_reducible apply ba) | (with_reducible refine bp ?_ (by first | omega | (simp [pad_size]; done) | (simp [pad_size]; omega)) _ _) | (with_reducible refine bs ?_ (by first | omega | (simp [pad_size]; done) | (simp [pad_size]; omega)) _) | (with_reducible refine bt ?_ (by assumption))))⟩
        rename_i hz; rw [eq4_zero hq] at hz; rw [← hqd.out.1]; unfold Hid; simpa using hz
      case measure => (have := hfk.out; simp [intOf]; omega)
end Go.Proofs.Ytbfpagmibjbbkaa
