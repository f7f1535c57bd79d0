
/- The reference's Text. -/
import Derived.Test.YtbfpagmibjbbkaaE9
import Derived.Test.YtbfpagmibjbbkaaZ0
import Derived.Laws.BytesString
import Derived.Laws.Concat
set_option linter.unusedSimpArgs false
set_option linter.unusedVariables false
namespace Go.Proofs.Ytbfpagmibjbbkaa
open Go.RowKit

/-- The last t digits of a number, as text. -/
def tl (n : Int) : Nat → List UInt8
  | 0 => []
  | t + 1 => UInt8.ofNat (48 + n / 10 ^ t % 10).toNat :: tl n t
theorem tl_len (n : Int) : ∀ t, (tl n t).length = t
  | 0 => rfl
  | t + 1 => by simp [tl, tl_len n t]
def txt (n : Int) (t : Nat) : ByteArray := ⟨(tl n t).toArray⟩
theorem txt_succ (n : Int) (t : Nat) : (⟨#[UInt8.ofNat (48 + n / 10 ^ t % 10).toNat]⟩ : ByteArray) ++ txt n t = txt n (t + 1) := by
  apply ByteArray.ext
  simp [txt, tl]
theorem conv_one (W : World) (b : Int) : (convert 35 9 (.slice (some ⟨W.heap.size, 0, none⟩) 1 1)).run Try.prog (W.alloc (.cells #[.int .u8 b] 5)) = .ok (.string ⟨#[UInt8.ofNat b.toNat]⟩) (W.alloc (.cells #[.int .u8 b] 5)) := by
  rw [run_convert_bytes_string _ 35 9 5 _ _ _ Try.underlying35 Try.underlying5 Try.underlying9]
  rw [run_bytesToString _ ⟨W.heap.size, 0, none⟩ 1 1 [b] (run_loadCells_list _ ⟨W.heap.size, 0, none⟩ [.int .u8 b] (fun j v h => by
    have e : Addr.add ⟨W.heap.size, 0, none⟩ j = ⟨W.heap.size, j, none⟩ := by
      unfold Addr.add; split
      · subst_vars; rfl
      · simp
    rw [e, World.cell?_alloc_at _ _ _ _ (by simp)]
    simpa using h))]
  rfl
theorem text_chain {A B D : World} {m : Nat} {f : Nat → Obj} {dr n : Nat} (hn : n + 1 ≤ m) (h : Below m (pad A m f dr) B) (h6 : Below B.heap.size B D) (hA : A.heap.size = n + 1 := by simp) : Below A.heap.size A D := by
  have h1 : Below A.heap.size A (pad A m f dr) := bp (Below.refl _ _) (by omega) _ _
  exact bt (h1.trans (h.mono (show A.heap.size ≤ m by omega))) h6
def strLen : Value → Nat
  | .string s => s.size
  | _ => 0
theorem txt_size (n : Int) (t : Nat) : (txt n t).size = t := by simp [txt, ByteArray.size, tl_len]

set_option maxRecDepth 100000 in
set_option maxHeartbeats 8000000 in
theorem textR_any (x0 x1 x2 x3 : Int) (hx : Lim x0 x1 x2 x3) (w : World) :
    Calls Try.prog 8 #[.agg #[.int .u64 x0, .int .u64 x1, .int .u64 x2, .int .u64 x3]] w fun e w' => ∃ t : Nat, e = .returned (.string (txt (val x0 x1 x2 x3) (t + 1))) ∧ Hid (val x0 x1 x2 x3 / 10 ^ (t + 1) = 0 ∧ (t = 0 ∨ val x0 x1 x2 x3 / 10 ^ t ≠ 0)) ∧ Below w.heap.size w w' := by
  have hpad := pads
  obtain ⟨N, hN⟩ : ∃ N, Hid (val x0 x1 x2 x3 = N) := ⟨_, rfl⟩
  rw [hN.out]
  have hN0 : 0 ≤ N := by rw [← hN.out]; exact val_lo hx
  have hN1 : N < 115792089237316195423570985008687907853269984665640564039457584007913129639936 := by rw [← hN.out]; exact val_hi hx
  have hcv := conv_one
  go_enter Try.func8, Try.ntmps8
  go_wp2
  go_loopw [3] (fun sv wr => ∃ (t m : Nat) (f : Nat → Obj) (dr : Nat) (a0 a1 a2 a3 : Int), sv = .string (txt N t) ∧ Lim a0 a1 a2 a3 ∧ Hid (val a0 a1 a2 a3 = N / 10 ^ t) ∧ (t = 0 ∨ Hid (N / 10 ^ t ≠ 0)) ∧ w.heap.size + 1 ≤ m ∧ wr = pad (w.alloc (.cells #[.int .u64 a0, .int .u64 a1, .int .u64 a2, .int .u64 a3] 24)) m f dr) (fun sv _ => 100 - strLen sv)
  case atStart =>
    obtain ⟨m, f, dr, hm, e⟩ := pad_of (Below.refl _ (w.alloc (.cells #[.int .u64 x0, .int .u64 x1, .int .u64 x2, .int .u64 x3] 24)))
    exact ⟨0, m, f, dr, x0, x1, x2, x3, rfl, hx, by unfold Hid; rw [hN.out]; simp, .inl rfl, by simpa using hm, e⟩
  case round =>
    obtain ⟨t, m, f, dr, a0, a1, a2, a3, rfl, ha, hv, htn, hm, rfl⟩ := hrel
    have st := sz1 (n := w.heap.size) (m := m) hm
    have ht78 : t < 78 := by
      rcases htn with h | h
      · omega
      · apply Nat.lt_of_not_le
        intro hh
        apply h.out
        apply Int.ediv_eq_zero_of_lt hN0
        obtain ⟨d, rfl⟩ := Nat.exists_eq_add_of_le hh
        rw [Int.pow_add]
        have h1 : (0 : Int) < 10 ^ d := Int.pow_pos (by decide)
        have h2 : (10 : Int) ^ 78 = 1000000000000000000000000000000000000000000000000000000000000000000000000000000 := by decide
        have h3 : (10 : Int) ^ 78 * 1 ≤ 10 ^ 78 * 10 ^ d := Int.mul_le_mul_of_nonneg_left (by omega) (by rw [h2]; decide)
        omega
    go_wp2_with (go_at_call 16; refine (digits_o _ _ _ _ ha _).mono ?_; rintro e w1 ⟨g1, cap1, rfl, ho1, hl1, hg1, hb1⟩; rw [pad_size] at ho1 hl1 hb1)
    have hs1 : m ≤ w1.heap.size := by have := hb1.size; rw [pad_size] at this; exact this
    go_loopw [5, 6] (fun o i wz => ∃ (k : Nat) (r : Int) (dl : Nat → Int), k ≤ 16 ∧ o = .int .u64 r ∧ i = .int .i64 ((k : Int) - 1) ∧ (0 ≤ r ∧ r ≤ 9) ∧ wz.ownsRow m 22 1 (.slice (some ⟨g1, 0, none⟩) 16 cap1) 16 (encU (fl dl 16)) ∧ (∀ j, j < 16 → 0 ≤ dl j ∧ dl j < 65536) ∧ (∀ j, j < k → dl j = dg a0 a1 a2 a3 j) ∧ Hid (10 * (sm dl 16 - sm (dg a0 a1 a2 a3) k) + r * 65536 ^ k = val a0 a1 a2 a3 - sm (dg a0 a1 a2 a3) k) ∧ Below m (pad (w.alloc (.cells #[.int .u64 a0, .int .u64 a1, .int .u64 a2, .int .u64 a3] 24)) m f dr) wz) (fun _ i _ => (intOf i + 1).toNat)
    case atStart => exact ⟨16, 0, dg a0 a1 a2 a3, by omega, rfl, rfl, by omega, ho1, fun j _ => dg_lim j, fun j _ => rfl, by unfold Hid; rw [sm_dg ha]; omega, hb1⟩
    case round =>
      clear ho1 hb1
      obtain ⟨k, r, dl, hk, rfl, rfl, hr, hrow, hlim, hlo, hsm, hB⟩ := hrel
      obtain ⟨g1', c1', hv1, hgr, hgl, hcell, hfz⟩ := row_words (n := 15) hrow (fl_len _ _)
      cases hv1
      cases k with
      | zero =>
        have hval : Hid (val a0 a1 a2 a3 = 10 * sm dl 16 + r) := by
          have h := hsm.out
          rw [show sm (dg a0 a1 a2 a3) 0 = 0 from rfl, Int.pow_zero] at h
          unfold Hid
          generalize sm dl 16 = Q at *
          omega
        have hsl := sm_lim 16 hlim
        have e16 : (65536 : Int) ^ 16 = 115792089237316195423570985008687907853269984665640564039457584007913129639936 := by decide
        rw [e16] at hsl
        obtain ⟨b0, b1, b2, b3, hb, eb⟩ := limbs_of hsl.1 hsl.2
        have Heb : Hid _ := eb
        have hcs : ∀ k, k < 16 → wr.cell? ⟨g1, k, none⟩ = some (.int .u64 (dl k)) := fun k hk => by rw [hcell k hk]; simp [fl]
        have hpow : (10 : Int) ^ (t + 1) = 10 ^ t * 10 := Int.pow_succ _ _
        have hdiv : Hid (N / 10 ^ (t + 1) = sm dl 16 ∧ r = N / 10 ^ t % 10) := by
          have h := hval.out; have h1 := hv.out
          have e : N / 10 ^ (t + 1) = N / 10 ^ t / 10 := by
            rw [Int.pow_succ]
            first
              | exact (Int.ediv_ediv_eq_ediv_mul _ (Int.pow_nonneg (by decide))).symm
              | exact (Int.ediv_ediv (Int.pow_nonneg (by decide))).symm
              | exact (Int.ediv_ediv_of_nonneg (Int.pow_nonneg (by decide))).symm
          unfold Hid
          rw [e, ← h1, h]
          generalize sm dl 16 = Q at *
          omega
        have hw1 : IntKind.u64.wrap (48 + r) = 48 + r := by rw [IntKind.wrap_u64]; omega
        have hw2 : IntKind.u8.wrap (48 + r) = 48 + r := by rw [IntKind.wrap_u8]; omega
        have hcat : ∀ W, (Op.stringOp .add ⟨#[UInt8.ofNat (48 + r).toNat]⟩ (txt N t)).run Try.prog W = .ok (.string (txt N (t + 1))) W := by
          intro W
          rw [run_string_add_sum W _ _ (by rw [txt_size]; show 1 + t ≤ _; omega), hdiv.out.2, txt_succ]
        have hnv : Hid (val b0 b1 b2 b3 = N / 10 ^ (t + 1)) := by unfold Hid; rw [hdiv.out.1]; exact eb
        have hBa : Below m (pad (w.alloc (.cells #[.int .u64 a0, .int .u64 a1, .int .u64 a2, .int .u64 a3] 24)) m f dr) (wr.alloc (.cells #[.int .u8 (48 + r)] 5)) := hB.alloc (by have := hB.size; rw [pad_size] at this; exact this) _
        have hca : ∀ k, k < 16 → (wr.alloc (.cells #[.int .u8 (48 + r)] 5)).cell? ⟨g1, k, none⟩ = some (.int .u64 (dl k)) := fun k hk => (((Below.refl wr.heap.size wr).alloc (Nat.le_refl _) _).cell (p := ⟨g1, k, none⟩) hgl).trans (hcs k hk)
        clear hcell hfz eb hsl hpow hsm
        rcases Bool.eq_false_or_eq_true (eq4 b0 b1 b2 b3 0 0 0 0) with hz | hz
        · go_wp2_with (first
            | (go_at_call 17; refine (says_ofR (by omega) hlim hb Heb.out.symm g1 cap1 _ (by simp; omega) hca).mono ?_; rintro e w6 ⟨rfl, hb6⟩; have hch : Below (w.alloc (.cells #[.int .u64 a0, .int .u64 a1, .int .u64 a2, .int .u64 a3] 24)).heap.size (w.alloc (.cells #[.int .u64 a0, .int .u64 a1, .int .u64 a2, .int .u64 a3] 24)) w6 := (text_chain hm hBa hb6); obtain ⟨m1, f1, d1, hm1, rfl⟩ := pad_of hch; clear hb6 hch; simp at hm1; have st1 := sz1 (n := w.heap.size) (m := m1) (by omega))
            | (go_at_call 18; refine (zero_any _ _ _ _ _).mono ?_; rintro e w7 ⟨rfl, hb7⟩; rw [hz]; obtain ⟨m2, g2, d2, hm2, rfl⟩ := pad_of (bt (bp (Below.refl _ _) (by first | omega | (simp [pad_size]; omega)) _ _) hb7); clear hb7; (try simp [pad_size] at hm2); have st2_w := sz1 (n := w.heap.size) (m := m2) (by omega)))
          go_ret
          refine ⟨t, rfl, ⟨?_, ?_⟩, by (repeat (first | (with_reducible exact Below.refl _ _) | (with_reducible assumption) | (with_reducible apply bd) | (with_reducible apply ba) | (with_reducible refine bp ?_ (by first | omega | (simp [pad_size]; done) | (simp [pad_size]; omega)) _ _) | (with_reducible refine bs ?_ (by first | omega | (simp [pad_size]; done) | (simp [pad_size]; omega)) _) | (with_reducible refine bt ?_ (by assumption))))⟩
          · rw [← hnv.out]; rw [eq4_zero hb, decide_eq_true_iff] at hz; exact hz
          · rcases htn with h | h
            · exact .inl h
            · exact .inr h.out
        · go_wp2_with (first
            | (go_at_call 17; refine (says_ofR (by omega) hlim hb Heb.out.symm g1 cap1 _ (by simp; omega) hca).mono ?_; rintro e w6 ⟨rfl, hb6⟩; have hch : Below (w.alloc (.cells #[.int .u64 a0, .int .u64 a1, .int .u64 a2, .int .u64 a3] 24)).heap.size (w.alloc (.cells #[.int .u64 a0, .int .u64 a1, .int .u64 a2, .int .u64 a3] 24)) w6 := (text_chain hm hBa hb6); obtain ⟨m1, f1, d1, hm1, rfl⟩ := pad_of hch; clear hb6 hch; simp at hm1; have st1 := sz1 (n := w.heap.size) (m := m1) (by omega))
            | (go_at_call 18; refine (zero_any _ _ _ _ _).mono ?_; rintro e w7 ⟨rfl, hb7⟩; rw [hz]; obtain ⟨m2, g2, d2, hm2, rfl⟩ := pad_of (bt (bp (Below.refl _ _) (by first | omega | (simp [pad_size]; omega)) _ _) hb7); clear hb7; (try simp [pad_size] at hm2); have st2_w := sz1 (n := w.heap.size) (m := m2) (by omega)))
          all_goals go_roundw
          case rel =>
            refine ⟨t + 1, m2, g2, d2, b0, b1, b2, b3, rfl, hb, hnv, .inr ?_, by omega, rfl⟩
            unfold Hid; rw [← hnv.out]; rw [eq4_zero hb, decide_eq_false_iff_not] at hz; exact hz
          case measure => (simp only [strLen, txt_size]; omega)
      | succ k =>
        have e : (((k + 1 : Nat) : Int) - 1) = (k : Int) := by omega
        rw [e]
        clear e
        have hk16 : k < 16 := by omega
        have ck : wr.cell? ⟨g1, k, none⟩ = some (.int .u64 (dg a0 a1 a2 a3 k)) := by rw [hcell k hk16]; simp [fl, hlo k (by omega)]
        have fk := hfz k
        have p1 := @dg_lim a0 a1 a2 a3 k
        obtain ⟨p, hpe⟩ : ∃ p, Hid (dg a0 a1 a2 a3 k = p) := ⟨_, rfl⟩
        rw [hpe.out] at ck p1
        obtain ⟨t1, ht1⟩ : ∃ t, Hid (t = r * 65536) := ⟨_, rfl⟩
        obtain ⟨n, hne⟩ : ∃ t, Hid (t = r * 65536 + p) := ⟨_, rfl⟩
        have hw1 : IntKind.u64.wrap (r * 65536) = t1 := by rw [IntKind.wrap_u64]; have := ht1.out; omega
        have hw2 : IntKind.u64.wrap (t1 + p) = n := by rw [IntKind.wrap_u64]; have := ht1.out; have := hne.out; omega
        have hnb : 0 ≤ n ∧ n < 655360 := by have := hne.out; omega
        have hr1 : n.tmod 10 = n % 10 := Int.tmod_eq_emod_of_nonneg hnb.1
        have hr2 : n.tdiv 10 = n / 10 := Int.tdiv_eq_ediv_of_nonneg hnb.1
        have hnz : ¬ (10 : Int) = 0 := by omega
        have hkk0 : (0 : Int) ≤ (k : Int) := by omega
        clear hcell hfz
        go_wp2
        all_goals try go_region
        all_goals go_wp2
        all_goals go_roundw
        case rel =>
          refine ⟨k, n % 10, upd dl k (n / 10), by omega, rfl, by go_num, by omega, ?_, ?_, ?_, ?_, ?_⟩
          · rw [← fl_set]; exact row_set _ hrow hk16
          · intro j hj; unfold upd; split
            · omega
            · exact hlim j hj
          · intro j hj; rw [upd_ne (by omega)]; exact hlo j (by omega)
          · have h := hsm.out
            show _ = _
            rw [sm_put (n / 10) 16 hk16, hlo k (by omega)]
            rw [sm_succ (dg a0 a1 a2 a3) k, Int.pow_succ, hpe.out] at h
            generalize sm dl 16 = Q at *
            rw [hpe.out]
            have h2 : n % 10 + 10 * (n / 10) = r * 65536 + p := by have := hne.out; omega
            generalize (65536 : Int) ^ k = B at *
            have h3 : (n % 10 + 10 * (n / 10)) * B = (r * 65536 + p) * B := by rw [h2]
            grind
          · exact hB.setCell (p := ⟨g1, k, none⟩) hgr _
        case measure => (simp [intOf] <;> omega)
end Go.Proofs.Ytbfpagmibjbbkaa
