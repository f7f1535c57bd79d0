
/- num.Parse. -/
import Derived.Test.YtbfpagmibjbbkaaE7
import Derived.Laws.RangeAny
import Derived.Lib.OthersKept
set_option linter.unusedSimpArgs false
set_option linter.unusedVariables false
namespace Go.Proofs.Ytbfpagmibjbbkaa
open Go.RowKit

theorem iter_pad (X : World) (s : ByteArray) (k k' m : Nat) (f : Nat → Obj) (dr : Nat) (hm : X.heap.size + 1 ≤ m) : (pad (X.alloc (.stringIter s k)) m f dr).iterAt X.heap.size s k' = pad (X.alloc (.stringIter s k')) m f dr := by
  unfold World.iterAt pad World.alloc
  simp only [World.mk.injEq, and_true]
  apply Array.ext_getElem?
  intro i
  simp only [Array.getElem?_setIfInBounds, Array.getElem?_ofFn, Array.size_push, Array.size_ofFn]
  by_cases hi : i < m
  · by_cases e : X.heap.size = i
    · subst e; simp [hi]
    · by_cases h2 : i < X.heap.size + 1
      · have h3 : i < X.heap.size := by omega
        simp [e, hi, h2, Array.getElem_push, h3]
      · simp [e, hi, h2]
  · have e : ¬ X.heap.size = i := by omega
    simp [e, hi]
theorem next_yes (X : World) (s : ByteArray) (k m : Nat) (f : Nat → Obj) (dr : Nat) (hm : X.heap.size + 1 ≤ m) (h : k < s.size) (ty : TypeId) : (Instr.next (.pointer (some ⟨X.heap.size, 0, none⟩)) true ty).run Try.prog (pad (X.alloc (.stringIter s k)) m f dr) = .ok (.tuple #[.bool true, .int .i64 k, .int .i32 (Utf8.decode s k).1]) (pad (X.alloc (.stringIter s (k + (Utf8.decode s k).2))) m f dr) := by
  rw [Lib.run_next_any_at _ X.heap.size s k ty (by rw [pad_block (by simp) (by omega)]; exact World.alloc_heap_new X _) h, iter_pad X s k _ m f dr hm]
theorem next_no (X : World) (s : ByteArray) (k m : Nat) (f : Nat → Obj) (dr : Nat) (hm : X.heap.size + 1 ≤ m) (h : ¬ k < s.size) (ty : TypeId) : (Instr.next (.pointer (some ⟨X.heap.size, 0, none⟩)) true ty).run Try.prog (pad (X.alloc (.stringIter s k)) m f dr) = .ok (.tuple #[.bool false]) (pad (X.alloc (.stringIter s k)) m f dr) :=
  Lib.run_next_end_at _ X.heap.size s k ty (by rw [pad_block (by simp) (by omega)]; exact World.alloc_heap_new X _) h
theorem pos_pad (X : World) (s : ByteArray) (k m : Nat) (f : Nat → Obj) (dr : Nat) (hm : X.heap.size + 1 ≤ m) : (pad (X.alloc (.stringIter s k)) m f dr).iterPos X.heap.size = k := by
  unfold World.iterPos
  rw [pad_block (by simp) (by omega), World.alloc_heap_new X _]

set_option maxRecDepth 100000 in
set_option maxHeartbeats 8000000 in
theorem parse_digits (s : ByteArray) (hs : 0 < s.size ∧ s.size ≤ 300) (hd : DigS s) (h0 : ((s[0]'hs.1).toNat : Int) ≠ 48 ∨ s = ⟨#[48]⟩) (w : World) :
    Calls Try.prog 6 #[.string s] w fun e w' => ((pv s.data.toList < 115792089237316195423570985008687907853269984665640564039457584007913129639936 ∧ ∃ z0 z1 z2 z3 : Int, Lim z0 z1 z2 z3 ∧ Hid (val z0 z1 z2 z3 = pv s.data.toList) ∧ e = .returned (.tuple #[.agg #[.int .u64 z0, .int .u64 z1, .int .u64 z2, .int .u64 z3], .int .i64 0])) ∨ (115792089237316195423570985008687907853269984665640564039457584007913129639936 ≤ pv s.data.toList ∧ e = .returned (.tuple #[.agg #[.int .u64 0, .int .u64 0, .int .u64 0, .int .u64 0], .int .i64 2]))) ∧ Below w.heap.size w w' := by
  have hpad := pads
  have hl1 : ¬ s.toList = [] := by
    rw [ByteArray.toList_eq]; intro e
    have : s.size = 0 := by have := congrArg List.length e; simpa using this
    omega
  have hl2 : s.toList.isEmpty = false := by simpa using hl1
  have hs3 : (s.size : Int) ≤ 300 := by omega
  obtain ⟨c0, hc0⟩ : ∃ c : Int, ((s[0]'hs.1).toNat : Int) = c := ⟨_, rfl⟩
  have hcase : (c0 == 48) = false ∨ ((c0 == 48) = true ∧ (s.toList == [48]) = true) := by
    rcases h0 with h | h
    · left; rw [← hc0]; simp; omega
    · by_cases e : c0 = 48
      · right; exact ⟨by simp [e], by rw [h, ByteArray.toList_eq]; rfl⟩
      · left; simp [e]
  clear h0
  rcases hcase with hq | ⟨hq, hq2⟩
  all_goals
    go_enter Try.func6, Try.ntmps6
    go_wp2
    go_loopw [5] (fun o wr => ∃ (k m : Nat) (f : Nat → Obj) (dr : Nat) (a0 a1 a2 a3 c : Int), k ≤ s.size ∧ o = .int .u64 c ∧ Lim a0 a1 a2 a3 ∧ (0 ≤ c ∧ c < 18446744073709551616) ∧ Hid ((c = 0 ∧ val a0 a1 a2 a3 = pv (s.data.toList.take k)) ∨ (c ≠ 0 ∧ 115792089237316195423570985008687907853269984665640564039457584007913129639936 ≤ pv (s.data.toList.take k))) ∧ w.heap.size + 1 + 1 + 1 ≤ m ∧ wr = pad (((w.alloc (.cells #[.int .u64 0, .int .u64 0, .int .u64 0, .int .u64 0] 24)).alloc (.cells #[.int .u64 a0, .int .u64 a1, .int .u64 a2, .int .u64 a3] 24)).alloc (.stringIter s k)) m f dr) (fun _ wr => s.size - wr.iterPos (w.heap.size + 1 + 1))
    case atStart =>
      obtain ⟨m, f, dr, hm, e⟩ := pad_of (Below.refl _ (((w.alloc (.cells #[.int .u64 0, .int .u64 0, .int .u64 0, .int .u64 0] 24)).alloc (.cells #[.int .u64 0, .int .u64 0, .int .u64 0, .int .u64 0] 24)).alloc (.stringIter s 0)))
      exact ⟨0, m, f, dr, 0, 0, 0, 0, 0, by omega, rfl, lim_zero, by omega, .inl ⟨rfl, by rw [val0]; simp [pv]⟩, by simpa using hm, e⟩
    case round =>
      obtain ⟨k, m, f, dr, a0, a1, a2, a3, c, hk, rfl, ha, hc, hv, hm, rfl⟩ := hrel
      have st := sz3 (n := w.heap.size) (m := m) hm
      have eX : ((w.alloc (.cells #[.int .u64 0, .int .u64 0, .int .u64 0, .int .u64 0] 24)).alloc (.cells #[.int .u64 a0, .int .u64 a1, .int .u64 a2, .int .u64 a3] 24)).heap.size = w.heap.size + 1 + 1 := by simp
      have hpos : ∀ k m f dr, w.heap.size + 1 + 1 + 1 ≤ m → ∀ a0 a1 a2 a3 : Int, (pad (((w.alloc (.cells #[.int .u64 0, .int .u64 0, .int .u64 0, .int .u64 0] 24)).alloc (.cells #[.int .u64 a0, .int .u64 a1, .int .u64 a2, .int .u64 a3] 24)).alloc (.stringIter s k)) m f dr).iterPos (w.heap.size + 1 + 1) = k := by
        intro k m f dr h a0 a1 a2 a3
        have := pos_pad ((w.alloc (.cells #[.int .u64 0, .int .u64 0, .int .u64 0, .int .u64 0] 24)).alloc (.cells #[.int .u64 a0, .int .u64 a1, .int .u64 a2, .int .u64 a3] 24)) s k m f dr (by simp; omega)
        simpa using this
      by_cases hlt : k < s.size
      · have hdk := hd k hlt
        obtain ⟨d, hdd⟩ : ∃ d : Int, (s[k].toNat : Int) = d := ⟨_, rfl⟩
        rw [hdd] at hdk
        have hdec : Utf8.decode s k = (s[k].toNat, 1) := decode_ascii s k hlt (by omega)
        have hnx : ∀ ty, (Instr.next (.pointer (some ⟨w.heap.size + 1 + 1, 0, none⟩)) true ty).run Try.prog (pad (((w.alloc (.cells #[.int .u64 0, .int .u64 0, .int .u64 0, .int .u64 0] 24)).alloc (.cells #[.int .u64 a0, .int .u64 a1, .int .u64 a2, .int .u64 a3] 24)).alloc (.stringIter s k)) m f dr) = .ok (.tuple #[.bool true, .int .i64 k, .int .i32 d]) (pad (((w.alloc (.cells #[.int .u64 0, .int .u64 0, .int .u64 0, .int .u64 0] 24)).alloc (.cells #[.int .u64 a0, .int .u64 a1, .int .u64 a2, .int .u64 a3] 24)).alloc (.stringIter s (k + 1))) m f dr) := by
          intro ty
          have h := next_yes ((w.alloc (.cells #[.int .u64 0, .int .u64 0, .int .u64 0, .int .u64 0] 24)).alloc (.cells #[.int .u64 a0, .int .u64 a1, .int .u64 a2, .int .u64 a3] 24)) s k m f dr (by simp; omega) hlt ty
          rw [eX, hdec] at h
          simp only [hdd] at h
          exact h
        have d1 : decide (d < 48) = false := by simp; omega
        have d2 : decide (57 < d) = false := by simp; omega
        have hnext : Hid (pv (s.data.toList.take (k + 1)) = pv (s.data.toList.take k) * 10 + (d - 48)) := by
          unfold Hid; rw [take_snoc s k hlt, pv_snoc, hdd]
        have hpp : Hid (0 ≤ pv (s.data.toList.take k)) := pv_pos hd k hk
        have hms : Hid (∀ wz : World, wz.iterPos (w.heap.size + 1 + 1) = k + 1 → s.size - wz.iterPos (w.heap.size + 1 + 1) < s.size - k) := by intro wz e; rw [e]; omega
        by_cases hc0' : c = 0
        · subst hc0'
          have hva : Hid (val a0 a1 a2 a3 = pv (s.data.toList.take k)) := by
            rcases hv.out with ⟨-, h⟩ | ⟨h, -⟩
            · exact h
            · exact absurd rfl h
          clear hdec hdd
          go_wp2_with (go_at_call 11; refine (scale_any a0 a1 a2 a3 10 (d - 48) ha (by omega) (by omega) _).mono ?_; rintro e w1 ⟨b0, b1, b2, b3, c', rfl, hb, hc', he, hbw⟩; obtain ⟨m1, g1, d1, hm1, rfl⟩ := pad_of (bt (bp (Below.refl _ _) (by first | omega | (simp [pad_size]; omega)) _ _) hbw); clear hbw; (try simp [pad_size] at hm1); have st1_w := sz3 (n := w.heap.size) (m := m1) (by omega))
          all_goals go_roundw
          case rel =>
            refine ⟨k + 1, m1, g1, d1, b0, b1, b2, b3, c', by omega, rfl, hb, hc', ?_, by omega, rfl⟩
            have h1 := he.out; have h2 := hnext.out; have h3 := hva.out
            have h4 := val_lo hb; have h5 := val_hi hb
            show _ ∨ _
            by_cases e : c' = 0
            · left; refine ⟨e, ?_⟩; rw [h2, ← h3]; subst e; omega
            · right; refine ⟨e, ?_⟩; rw [h2, ← h3]; omega
          case measure => (rw [hpos _ m1 _ _ (by omega), hpos _ m _ _ hm]; omega)
        · have hcn : (c == 0) = false := by simp [hc0']
          have hva : Hid (115792089237316195423570985008687907853269984665640564039457584007913129639936 ≤ pv (s.data.toList.take k)) := by
            rcases hv.out with ⟨h, -⟩ | ⟨-, h⟩
            · exact absurd h hc0'
            · exact h
          clear hdec hdd
          go_wp2
          all_goals go_roundw
          case rel =>
            refine ⟨k + 1, m, f, dr, a0, a1, a2, a3, c, by omega, rfl, ha, hc, .inr ⟨hc0', ?_⟩, hm, rfl⟩
            have h2 := hnext.out; have h3 := hva.out
            rw [h2]; omega
          case measure => (rw [hpos _ m _ _ hm, hpos _ m _ _ hm]; omega)
      · have hk' : k = s.size := by omega
        have hfull : Hid (s.data.toList.take k = s.data.toList) := by unfold Hid; rw [hk', pv_full]
        have hnx : ∀ ty, (Instr.next (.pointer (some ⟨w.heap.size + 1 + 1, 0, none⟩)) true ty).run Try.prog (pad (((w.alloc (.cells #[.int .u64 0, .int .u64 0, .int .u64 0, .int .u64 0] 24)).alloc (.cells #[.int .u64 a0, .int .u64 a1, .int .u64 a2, .int .u64 a3] 24)).alloc (.stringIter s k)) m f dr) = .ok (.tuple #[.bool false]) (pad (((w.alloc (.cells #[.int .u64 0, .int .u64 0, .int .u64 0, .int .u64 0] 24)).alloc (.cells #[.int .u64 a0, .int .u64 a1, .int .u64 a2, .int .u64 a3] 24)).alloc (.stringIter s k)) m f dr) := by
          intro ty
          have h := next_no ((w.alloc (.cells #[.int .u64 0, .int .u64 0, .int .u64 0, .int .u64 0] 24)).alloc (.cells #[.int .u64 a0, .int .u64 a1, .int .u64 a2, .int .u64 a3] 24)) s k m f dr (by simp; omega) hlt ty
          rw [eX] at h
          exact h
        clear hk'
        by_cases hc0' : c = 0
        · subst hc0'
          have hva : Hid (val a0 a1 a2 a3 = pv s.data.toList) := by
            rcases hv.out with ⟨-, h⟩ | ⟨h, -⟩
            · rw [hfull.out] at h; exact h
            · exact absurd rfl h
          go_wp2
          refine bodyPost_ret (v := .tuple #[.agg #[.int .u64 a0, .int .u64 a1, .int .u64 a2, .int .u64 a3], .int .i64 0]) (by simp only [results, Try.results6]; go_simp) rfl ⟨.inl ⟨by rw [← hva.out]; exact val_hi ha, a0, a1, a2, a3, ha, hva, rfl⟩, by (repeat (first | (with_reducible exact Below.refl _ _) | (with_reducible assumption) | (with_reducible apply bd) | (with_reducible apply ba) | (with_reducible refine bp ?_ (by first | omega | (simp [pad_size]; done) | (simp [pad_size]; omega)) _ _) | (with_reducible refine bs ?_ (by first | omega | (simp [pad_size]; done) | (simp [pad_size]; omega)) _) | (with_reducible refine bt ?_ (by assumption))))⟩
        · have hcn : (c == 0) = false := by simp [hc0']
          have hcn' : (c != 0) = true := by simp [hc0']
          have hva : Hid (115792089237316195423570985008687907853269984665640564039457584007913129639936 ≤ pv s.data.toList) := by
            rcases hv.out with ⟨h, -⟩ | ⟨-, h⟩
            · exact absurd h hc0'
            · rw [hfull.out] at h; exact h
          go_wp2
          refine bodyPost_ret (v := .tuple #[.agg #[.int .u64 0, .int .u64 0, .int .u64 0, .int .u64 0], .int .i64 2]) (by simp only [results, Try.results6]; go_simp) rfl ⟨.inr ⟨hva.out, rfl⟩, by (repeat (first | (with_reducible exact Below.refl _ _) | (with_reducible assumption) | (with_reducible apply bd) | (with_reducible apply ba) | (with_reducible refine bp ?_ (by first | omega | (simp [pad_size]; done) | (simp [pad_size]; omega)) _ _) | (with_reducible refine bs ?_ (by first | omega | (simp [pad_size]; done) | (simp [pad_size]; omega)) _) | (with_reducible refine bt ?_ (by assumption))))⟩
end Go.Proofs.Ytbfpagmibjbbkaa
