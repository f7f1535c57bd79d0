
/- The reference's Parse. -/
import Derived.Test.YtbfpagmibjbbkaaE5
set_option linter.unusedSimpArgs false
set_option linter.unusedVariables false
namespace Go.Proofs.Ytbfpagmibjbbkaa
open Go.RowKit

/-- The number that digits of text are. -/
def pv (l : List UInt8) : Int := l.foldl (fun v b => v * 10 + ((b.toNat : Int) - 48)) 0
theorem pv_snoc (l : List UInt8) (b : UInt8) : pv (l ++ [b]) = pv l * 10 + ((b.toNat : Int) - 48) := by simp [pv]
theorem take_snoc (s : ByteArray) (k : Nat) (h : k < s.size) : s.data.toList.take (k + 1) = s.data.toList.take k ++ [s[k]] := by
  rw [List.take_succ_eq_append_getElem (by simpa using h)]; rfl
/-- A text of digits. -/
def DigS (s : ByteArray) : Prop := ∀ i (h : i < s.size), 48 ≤ (s[i].toNat : Int) ∧ (s[i].toNat : Int) ≤ 57
theorem pv_up {s : ByteArray} (hd : DigS s) : ∀ d k, k + d ≤ s.size → 0 ≤ pv (s.data.toList.take k) → pv (s.data.toList.take k) ≤ pv (s.data.toList.take (k + d))
  | 0, k, _, _ => Int.le_refl _
  | d + 1, k, h, h0 => by
    have ih := pv_up hd d k (by omega) h0
    have hb := hd (k + d) (by omega)
    show _ ≤ pv (s.data.toList.take (k + d + 1))
    rw [take_snoc s (k + d) (by omega), pv_snoc]
    omega
theorem pv_pos {s : ByteArray} (hd : DigS s) : ∀ k, k ≤ s.size → 0 ≤ pv (s.data.toList.take k)
  | 0, _ => by simp [pv]
  | k + 1, h => by
    have ih := pv_pos hd k (by omega)
    have hb := hd k (by omega)
    rw [take_snoc s k (by omega), pv_snoc]
    omega
theorem pv_full {s : ByteArray} : s.data.toList.take s.size = s.data.toList := List.take_of_length_le (by simp)

set_option maxHeartbeats 2000000 in
theorem parseR_empty (w : World) : Calls Try.prog 9 #[.string ⟨#[]⟩] w fun e w' => e = .returned (.tuple #[.agg #[.int .u64 0, .int .u64 0, .int .u64 0, .int .u64 0], .int .i64 4]) ∧ Below w.heap.size w w' := by
  go_enter Try.func9, Try.ntmps9
  go_wp2
  refine bodyPost_ret (v := .tuple #[.agg #[.int .u64 0, .int .u64 0, .int .u64 0, .int .u64 0], .int .i64 4]) (by simp only [results, Try.results9]; go_simp) rfl ⟨rfl, by (repeat (first | (with_reducible exact Below.refl _ _) | (with_reducible assumption) | (with_reducible apply bd) | (with_reducible apply ba) | (with_reducible refine bp ?_ (by first | omega | (simp [pad_size]; done) | (simp [pad_size]; omega)) _ _) | (with_reducible refine bs ?_ (by first | omega | (simp [pad_size]; done) | (simp [pad_size]; omega)) _) | (with_reducible refine bt ?_ (by assumption))))⟩

theorem parse_chain {A B C D : World} {m : Nat} {f : Nat → Obj} {dr n : Nat} (hn : n + 1 + 1 ≤ m) (h : Below m (pad A m f dr) B) (h5 : Below m B C) (h6 : Below C.heap.size C D) (hA : A.heap.size = n + 1 + 1 := by simp) : Below A.heap.size A D := by
  have h1 : Below A.heap.size A (pad A m f dr) := bp (Below.refl _ _) (by omega) _ _
  have h2 := h1.trans ((h.trans h5).mono (show A.heap.size ≤ m by omega))
  exact bt h2 h6
theorem sm_times {a b : Nat → Int} {n : Nat} (h : ∀ j, j < n → a j = 10 * b j) : sm a n = 10 * sm b n := by
  induction n with
  | zero => rfl
  | succ n ih =>
    rw [sm_succ, sm_succ, ih (fun j hj => h j (by omega)), h n (by omega), Int.mul_assoc]; omega
theorem sm_put {dq : Nat → Int} {j : Nat} (u : Int) : ∀ n, j < n → sm (upd dq j u) n = sm dq n + (u - dq j) * 65536 ^ j
  | 0, h => by omega
  | n + 1, h => by
    rw [sm_succ, sm_succ]
    by_cases e : j = n
    · subst e
      rw [sm_upd_above (Nat.le_refl _), upd_at, Int.sub_mul]; omega
    · rw [sm_put u n (by omega), upd_ne (by omega)]; omega

set_option maxRecDepth 100000 in
set_option maxHeartbeats 8000000 in
theorem parseR_digits (s : ByteArray) (hs : 0 < s.size ∧ s.size ≤ 78) (hd : DigS s) (h0 : (s[0]'hs.1).toNat ≠ 48 ∨ s.size = 1) (w : World) :
    Calls Try.prog 9 #[.string s] w fun e w' => ((pv s.data.toList < 115792089237316195423570985008687907853269984665640564039457584007913129639936 ∧ ∃ z0 z1 z2 z3 : Int, Lim z0 z1 z2 z3 ∧ Hid (val z0 z1 z2 z3 = pv s.data.toList) ∧ e = .returned (.tuple #[.agg #[.int .u64 z0, .int .u64 z1, .int .u64 z2, .int .u64 z3], .int .i64 0])) ∨ (115792089237316195423570985008687907853269984665640564039457584007913129639936 ≤ pv s.data.toList ∧ e = .returned (.tuple #[.agg #[.int .u64 0, .int .u64 0, .int .u64 0, .int .u64 0], .int .i64 2]))) ∧ Below w.heap.size w w' := by
  have hpad := pads
  have hsz : (s.size : Int) ≤ 78 := by omega
  have hsp : (0 : Int) < (s.size : Int) := by omega
  have hne : ((s.size : Int) == 0) = false := by rw [beq_eq_false_iff_ne]; omega
  obtain ⟨c0, hc0⟩ : ∃ c : Int, Hid (((s[0]'hs.1).toNat : Int) = c) := ⟨_, rfl⟩
  have hcase : (c0 == 48) = false ∨ ((c0 == 48) = true ∧ decide ((1 : Int) < (s.size : Int)) = false) := by
    rcases h0 with h | h
    · left; rw [← hc0.out]; simp; omega
    · by_cases e : c0 = 48
      · right; exact ⟨by simp [e], by simp; omega⟩
      · left; simp [e]
  have hix : ((s[0]'hs.1).toNat : Int) = c0 := hc0.out
  clear h0 hc0
  rcases hcase with hq | ⟨hq, hq2⟩
  all_goals
    go_enter Try.func9, Try.ntmps9
    go_wp2
    go_loop [4] (fun i => ∃ k : Nat, k ≤ s.size ∧ i = .int .i64 k) (fun i => s.size - (intOf i).toNat)
    case atStart => exact ⟨0, by omega, rfl⟩
    case round =>
      obtain ⟨k, hk, rfl⟩ := hrel
      by_cases hlt : k < s.size
      · have hdk := hd k hlt
        have d1 : decide ((s[k].toNat : Int) < 48) = false := by simp; omega
        have d2 : decide (57 < (s[k].toNat : Int)) = false := by simp; omega
        go_wp2
        go_round
        case rel => exact ⟨k + 1, by omega, by go_num⟩
        case measure => (simp [intOf] <;> omega)
      · have hk' : k = s.size := by omega
        subst hk'
        go_wp2
        go_loopw [6] (fun i wr => ∃ (k m : Nat) (f : Nat → Obj) (dr : Nat) (a0 a1 a2 a3 : Int), k ≤ s.size ∧ i = .int .i64 k ∧ Lim a0 a1 a2 a3 ∧ Hid (val a0 a1 a2 a3 = pv (s.data.toList.take k)) ∧ w.heap.size + 1 + 1 ≤ m ∧ wr = pad ((w.alloc (.cells #[.int .u64 0, .int .u64 0, .int .u64 0, .int .u64 0] 24)).alloc (.cells #[.int .u64 a0, .int .u64 a1, .int .u64 a2, .int .u64 a3] 24)) m f dr) (fun i _ => s.size - (intOf i).toNat)
        case atStart =>
          obtain ⟨m, f, dr, hm, e⟩ := pad_of (Below.refl _ ((w.alloc (.cells #[.int .u64 0, .int .u64 0, .int .u64 0, .int .u64 0] 24)).alloc (.cells #[.int .u64 0, .int .u64 0, .int .u64 0, .int .u64 0] 24)))
          exact ⟨0, m, f, dr, 0, 0, 0, 0, by omega, rfl, lim_zero, by unfold Hid; rw [val0]; simp [pv], by simpa using hm, e⟩
        case round =>
          obtain ⟨k, m, f, dr, a0, a1, a2, a3, hk, rfl, ha, hv, hm, rfl⟩ := hrel
          have st := sz2 (n := w.heap.size) (m := m) hm
          by_cases hlt : k < s.size
          · have hdk := hd k hlt
            obtain ⟨c, hck⟩ : ∃ c : Int, (s[k].toNat : Int) = c := ⟨_, rfl⟩
            have hcb : 48 ≤ c ∧ c ≤ 57 := by omega
            have hnext : Hid (pv (s.data.toList.take (k + 1)) = val a0 a1 a2 a3 * 10 + (c - 48)) := by
              unfold Hid; rw [take_snoc s k hlt, pv_snoc, hv.out, hck]
            have hupp : Hid (pv (s.data.toList.take (k + 1)) ≤ pv s.data.toList) := by
              have h := pv_up hd (s.size - (k + 1)) (k + 1) (by omega) (pv_pos hd _ (by omega))
              rw [show k + 1 + (s.size - (k + 1)) = s.size by omega, pv_full] at h
              exact h
            go_wp2_with (go_at_call 16; refine (digits_o _ _ _ _ ha _).mono ?_; rintro e w1 ⟨g1, cap1, rfl, ho1, hl1, hg1, hb1⟩; rw [pad_size] at ho1 hl1 hb1)
            have hs1 : m ≤ w1.heap.size := by have := hb1.size; rw [pad_size] at this; exact this
            go_loopw [8] (fun i wz => ∃ (n : Nat) (dl : Nat → Int), n ≤ 16 ∧ i = .int .i64 n ∧ wz.ownsRow m 22 1 (.slice (some ⟨g1, 0, none⟩) 16 cap1) 16 (encU (fl dl 16)) ∧ (∀ j, j < n → dl j = 10 * dg a0 a1 a2 a3 j) ∧ (∀ j, n ≤ j → dl j = dg a0 a1 a2 a3 j) ∧ Below m (pad ((w.alloc (.cells #[.int .u64 0, .int .u64 0, .int .u64 0, .int .u64 0] 24)).alloc (.cells #[.int .u64 a0, .int .u64 a1, .int .u64 a2, .int .u64 a3] 24)) m f dr) wz) (fun i _ => 16 - (intOf i).toNat)
            case atStart => exact ⟨0, dg a0 a1 a2 a3, by omega, rfl, ho1, fun j h => by omega, fun j _ => rfl, hb1⟩
            case round =>
              clear ho1 hb1
              obtain ⟨n, dl, hn, rfl, hr, hlo, hhi, hB⟩ := hrel
              obtain ⟨g1', c1', hv1, hgr, hgl, hcell, hfz⟩ := row_words (n := 15) hr (fl_len _ _)
              cases hv1
              by_cases hln : n < 16
              · have ck : wr.cell? ⟨g1, n, none⟩ = some (.int .u64 (dg a0 a1 a2 a3 n)) := by rw [hcell n hln]; simp [fl, hhi n (Nat.le_refl _)]
                have fk := hfz n
                have p1 := @dg_lim a0 a1 a2 a3 n
                obtain ⟨t, hte⟩ : ∃ t, Hid (t = 10 * dg a0 a1 a2 a3 n) := ⟨_, rfl⟩
                have hw1 : IntKind.u64.wrap (dg a0 a1 a2 a3 n * 10) = t := by rw [IntKind.wrap_u64]; have := hte.out; omega
                clear hcell hfz
                go_wp2
                all_goals go_roundw
                case rel =>
                  refine ⟨n + 1, upd dl n t, by omega, by go_num, ?_, ?_, ?_, ?_⟩
                  · rw [← fl_set]; exact row_set _ hr hln
                  · intro j hj; unfold upd; split
                    · rename_i e; rw [e]; exact hte.out
                    · exact hlo j (by omega)
                  · intro j hj; unfold upd; rw [if_neg (by omega)]; exact hhi j (by omega)
                  · exact hB.setCell (p := ⟨g1, n, none⟩) hgr _
                case measure => (simp [intOf] <;> omega)
              · have hn' : n = 16 := by omega
                subst hn'
                have c0k : wr.cell? ⟨g1, 0, none⟩ = some (.int .u64 (dl 0)) := by rw [hcell 0 (by omega)]; simp [fl]
                have f0k := hfz 0
                have b0 : 0 ≤ dl 0 ∧ dl 0 ≤ 655350 := by rw [hlo 0 (by omega)]; have := @dg_lim a0 a1 a2 a3 0; omega
                obtain ⟨x, hx⟩ : ∃ x, Hid (dl 0 = x) := ⟨_, rfl⟩
                rw [hx.out] at c0k b0
                obtain ⟨t, hte⟩ : ∃ t, Hid (t = x + (c - 48)) := ⟨_, rfl⟩
                have hw0 : IntKind.u8.wrap (c - 48) = c - 48 := by rw [IntKind.wrap_u8]; omega
                have hw1 : IntKind.u64.wrap (x + (c - 48)) = t := by rw [IntKind.wrap_u64]; have := hte.out; omega
                have hdl : ∀ i, i < 16 → 0 ≤ upd dl 0 t i ∧ upd dl 0 t i ≤ 700000 := fun i hi => by
                  unfold upd; split
                  · have := hte.out; omega
                  · rw [hlo i hi]; have := @dg_lim a0 a1 a2 a3 i; omega
                have hsum : Hid (sm (upd dl 0 t) 16 = val a0 a1 a2 a3 * 10 + (c - 48)) := by
                  unfold Hid
                  have e : sm dl 16 = 10 * val a0 a1 a2 a3 := by rw [← sm_dg ha]; exact sm_times hlo
                  rw [sm_put t 16 (by omega), e, hx.out, hte.out]; simp; omega
                have hsz2 := hB.size
                rw [pad_size] at hsz2
                have hrow0 : (wr.setCell ⟨g1, 0, none⟩ (.int .u64 t)).ownsRow m 22 1 (.slice (some ⟨g1, 0, none⟩) 16 cap1) 16 (encU (fl (upd dl 0 t) 16)) := by rw [← fl_set]; exact row_set _ hr (by omega)
                have hrow : (wr.setCell ⟨g1, 0, none⟩ (.int .u64 t)).drew.ownsRow m 22 1 (.slice (some ⟨g1, 0, none⟩) 16 cap1) 16 (encU (fl (upd dl 0 t) 16)) := hrow0
                have hszd : m ≤ (wr.setCell ⟨g1, 0, none⟩ (.int .u64 t)).drew.heap.size := by have h := (hB.setCell (p := ⟨g1, 0, none⟩) hgr (.int .u64 t)).drew.size; rw [pad_size] at h; exact h
                have hC := carry10_any (upd dl 0 t) hdl m g1 cap1 (wr.setCell ⟨g1, 0, none⟩ (.int .u64 t)).drew hszd hrow
                have HC : Hid _ := hC
                clear hC hrow0
                have hBs : Below m (pad ((w.alloc (.cells #[.int .u64 0, .int .u64 0, .int .u64 0, .int .u64 0] 24)).alloc (.cells #[.int .u64 a0, .int .u64 a1, .int .u64 a2, .int .u64 a3] 24)) m f dr) (wr.setCell ⟨g1, 0, none⟩ (.int .u64 t)).drew := (hB.setCell (p := ⟨g1, 0, none⟩) hgr _).drew
                clear hcell hfz hlo hhi
                rcases Int.lt_or_le (val a0 a1 a2 a3 * 10 + (c - 48)) 115792089237316195423570985008687907853269984665640564039457584007913129639936 with hfit | hover
                · obtain ⟨b0', b1', b2', b3', hb', eb⟩ := limbs_of (n := val a0 a1 a2 a3 * 10 + (c - 48)) (by have := val_lo ha; omega) hfit
                  have Heb : Hid _ := eb
                  clear eb hfit
                  go_wp2_with fail
                  go_region
                  all_goals go_wp2_with (first
                    | (go_at_call 19; refine Calls.mono HC.out ?_; rintro e w5 ⟨d5, v5, rfl, hr5, hl5, hs5, hb5⟩; obtain ⟨g5, c5, rfl, hg5, hgl5, hc5', -⟩ := row_words (n := 16) hr5 (fl_len _ _); have hc5 : ∀ k, k < 17 → w5.cell? ⟨g5, k, none⟩ = some (.int .u64 (d5 k)) := (fun k hk => by rw [hc5' k hk]; simp [fl]); clear hc5'; have hs6 : sm d5 17 = val b0' b1' b2' b3' := (hs5.trans (hsum.out.trans Heb.out.symm)))
                    | (go_at_call 17; refine (says_ofR (by omega) hl5 hb' hs6 g5 c5 _ hgl5 hc5).mono ?_; rintro e w6 ⟨rfl, hb6⟩; have hch : Below ((w.alloc (.cells #[.int .u64 0, .int .u64 0, .int .u64 0, .int .u64 0] 24)).alloc (.cells #[.int .u64 a0, .int .u64 a1, .int .u64 a2, .int .u64 a3] 24)).heap.size ((w.alloc (.cells #[.int .u64 0, .int .u64 0, .int .u64 0, .int .u64 0] 24)).alloc (.cells #[.int .u64 a0, .int .u64 a1, .int .u64 a2, .int .u64 a3] 24)) w6 := (parse_chain hm hBs hb5 hb6); obtain ⟨m1, f1, d1, hm1, rfl⟩ := pad_of hch; clear hb6 hch; simp at hm1; have st1 := sz2 (n := w.heap.size) (m := m1) (by omega)))
                  all_goals go_roundw
                  case rel =>
                    obtain ⟨m2, f2, d2, hm2, e2⟩ := pad_of (ba (bp (Below.refl _ ((w.alloc (.cells #[.int .u64 0, .int .u64 0, .int .u64 0, .int .u64 0] 24)).alloc (.cells #[.int .u64 b0', .int .u64 b1', .int .u64 b2', .int .u64 b3'] 24))) (m := m1) (by simp; omega) f1 d1) (.cells #[.int .u64 b0', .int .u64 b1', .int .u64 b2', .int .u64 b3'] 24))
                    exact ⟨k + 1, m2, f2, d2, b0', b1', b2', b3', by omega, by go_num, hb', by unfold Hid; rw [Heb.out, hnext.out], by simpa using hm2, e2⟩
                  case measure => (simp [intOf] <;> omega)
                · have hov : Hid (115792089237316195423570985008687907853269984665640564039457584007913129639936 ≤ pv s.data.toList) := by
                    have h1 := hnext.out; have h2 := hupp.out
                    unfold Hid; omega
                  go_wp2_with fail
                  go_region
                  all_goals go_wp2_with (first
                    | (go_at_call 19; refine Calls.mono HC.out ?_; rintro e w5 ⟨d5, v5, rfl, hr5, hl5, hs5, hb5⟩; obtain ⟨g5, c5, rfl, hg5, hgl5, hc5', -⟩ := row_words (n := 16) hr5 (fl_len _ _); have hc5 : ∀ k, k < 17 → w5.cell? ⟨g5, k, none⟩ = some (.int .u64 (d5 k)) := (fun k hk => by rw [hc5' k hk]; simp [fl]); clear hc5'; have hs6 : 115792089237316195423570985008687907853269984665640564039457584007913129639936 ≤ sm d5 17 := (by rw [hs5, hsum.out]; exact hover))
                    | (go_at_call 17; refine (says_ofR_over (by omega) hl5 hs6 g5 c5 _ hgl5 hc5).mono ?_; rintro e w6 ⟨rfl, hb6⟩; have hch : Below ((w.alloc (.cells #[.int .u64 0, .int .u64 0, .int .u64 0, .int .u64 0] 24)).alloc (.cells #[.int .u64 a0, .int .u64 a1, .int .u64 a2, .int .u64 a3] 24)).heap.size ((w.alloc (.cells #[.int .u64 0, .int .u64 0, .int .u64 0, .int .u64 0] 24)).alloc (.cells #[.int .u64 a0, .int .u64 a1, .int .u64 a2, .int .u64 a3] 24)) w6 := (parse_chain hm hBs hb5 hb6); obtain ⟨m1, f1, d1, hm1, rfl⟩ := pad_of hch; clear hb6 hch; simp at hm1; have st1 := sz2 (n := w.heap.size) (m := m1) (by omega)))
                  all_goals
                    refine bodyPost_ret (v := .tuple #[.agg #[.int .u64 0, .int .u64 0, .int .u64 0, .int .u64 0], .int .i64 2]) (by simp only [results, Try.results9]; go_simp) rfl ⟨.inr ⟨hov.out, rfl⟩, by (repeat (first | (with_reducible exact Below.refl _ _) | (with_reducible assumption) | (with_reducible apply bd) | (with_reducible apply ba) | (with_reducible refine bp ?_ (by first | omega | (simp [pad_size]; done) | (simp [pad_size]; omega)) _ _) | (with_reducible refine bs ?_ (by first | omega | (simp [pad_size]; done) | (simp [pad_size]; omega)) _) | (with_reducible refine bt ?_ (by assumption))))⟩
          · have hk' : k = s.size := by omega
            subst hk'
            rw [pv_full] at hv
            go_wp2
            refine bodyPost_ret (v := .tuple #[.agg #[.int .u64 a0, .int .u64 a1, .int .u64 a2, .int .u64 a3], .int .i64 0]) (by simp only [results, Try.results9]; go_simp) rfl ⟨.inl ⟨by rw [← hv.out]; exact val_hi ha, a0, a1, a2, a3, ha, hv, rfl⟩, by (repeat (first | (with_reducible exact Below.refl _ _) | (with_reducible assumption) | (with_reducible apply bd) | (with_reducible apply ba) | (with_reducible refine bp ?_ (by first | omega | (simp [pad_size]; done) | (simp [pad_size]; omega)) _ _) | (with_reducible refine bs ?_ (by first | omega | (simp [pad_size]; done) | (simp [pad_size]; omega)) _) | (with_reducible refine bt ?_ (by assumption))))⟩
end Go.Proofs.Ytbfpagmibjbbkaa
