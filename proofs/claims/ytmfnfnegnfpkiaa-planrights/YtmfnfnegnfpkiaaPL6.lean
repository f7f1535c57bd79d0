
/- plan.over and plan.together. -/
import Derived.Test.YtmfnfnegnfpkiaaPL5
set_option linter.unusedSimpArgs false
set_option linter.unusedVariables false
set_option maxRecDepth 20000
namespace Go.Proofs.Ytmfnfnegnfpkiaa
open Go.RowKit

theorem ovN_stop {l : List Pd} {i : Nat} (hi : i < l.length) {e t : Int} (h : t < e ∨ t - e < l[i].n) : ovN (l.drop i) e t = (0, e) := by
  rw [List.drop_eq_getElem_cons hi]; unfold ovN; rw [if_pos h]
theorem ovN_go {l : List Pd} {i : Nat} (hi : i < l.length) {e t : Int} (h : ¬ (t < e ∨ t - e < l[i].n)) : ovN (l.drop i) e t = ((ovN (l.drop (i + 1)) (e + l[i].n) t).1 + 1, (ovN (l.drop (i + 1)) (e + l[i].n) t).2) := by
  rw [List.drop_eq_getElem_cons hi]; conv => lhs; unfold ovN
  rw [if_neg h]
set_option maxRecDepth 20000 in
set_option maxHeartbeats 8000000 in
theorem over_any {x : Pn} {t : Int} (w : World) (h : PnAt w x) (ho : PnOk x) (ht : 0 ≤ t ∧ t < 18446744073709551616) :
    Calls Try.prog 49 #[pnV x, .int .u64 t] w fun e w' => e = .returned (.tuple #[.int .i64 ((ovN x.pl x.s t).1 : Int), .int .u64 (ovN x.pl x.s t).2]) ∧ Below w.heap.size w w' := by
  obtain ⟨k, s, u, av, pv, al, pl⟩ := x
  obtain ⟨-, h2⟩ := h
  obtain ⟨⟨-, hws, -, -⟩, hwp⟩ := ho
  simp only at h2 hws hwp ⊢
  obtain ⟨a2, c2, rfl⟩ := h2.slice
  show Calls Try.prog 49 #[.agg #[.int .u8 k, .int .u64 s, .int .u64 u, av, .slice a2 pl.length c2], .int .u64 t] w _
  have hb0 : Below w.heap.size w (w.alloc (.cells #[.int .u8 k, .int .u64 s, .int .u64 u, av, .slice a2 pl.length c2] 26)) := ba (Below.refl _ _) _
  have hlen := h2.len
  have hlen' : (pl.length : Int) ≤ 1048576 := by omega
  have hP : Hid (∀ i x, pl[i]? = some x → ∃ blk off, a2 = some ⟨blk, off, none⟩ ∧ blk < w.heap.size ∧ PdAt w blk (off + i * 2) x) := by
    rcases h2 with ⟨rfl, -⟩ | ⟨blk, off, cap, ev, hne, _, hbl, hall⟩
    · intro i x hi; simp at hi
    · simp at ev
      obtain ⟨rfl, rfl⟩ := ev
      exact fun i x hi => ⟨blk, off, rfl, hbl, hall i x hi⟩
  clear h2
  go_enter Try.func49, Try.ntmps49
  go_wp2
  generalize w.alloc (.cells #[.int .u8 k, .int .u64 s, .int .u64 u, av, .slice a2 pl.length c2] 26) = P at *
  go_loopw [4, 5, 13] (fun mv ev iv X => ∃ (i : Nat) (e : Int), i ≤ pl.length ∧ mv = .int .i64 (i : Int) ∧ ev = .int .u64 e ∧ iv = .int .i64 (i : Int) ∧ (0 ≤ e ∧ e < 18446744073709551616) ∧ Hid (ovN pl s t = ((ovN (pl.drop i) e t).1 + i, (ovN (pl.drop i) e t).2)) ∧ Below w.heap.size w X) (fun _ _ iv _ => pl.length - (intOf iv).toNat)
  case atStart => exact ⟨0, s, by omega, rfl, rfl, rfl, hws, by unfold Hid; simp, hb0⟩
  case round =>
    obtain ⟨i, e, hi, rfl, rfl, rfl, he, hc, hX⟩ := hrel
    by_cases hlt : i < pl.length
    · have hlt' : (i : Int) < (pl.length : Int) := by omega
      obtain ⟨blk, off, rfl, hbl, hA⟩ := hP.out i pl[i] (List.getElem?_eq_getElem hlt)
      obtain ⟨d0, d1, hxc⟩ := hA.below hbl hX
      obtain ⟨a1, c1, ev1⟩ := hxc.slice
      rw [ev1] at d1
      have hq := (hwp pl[i] (List.getElem_mem hlt)).n
      by_cases hs1 : t < e
      · have hst := ovN_stop (t := t) (e := e) hlt (.inl hs1)
        rw [hst] at hc
        clear hst
        go_wp2
        go_ret2
        rw [hc.out]
        exact ⟨by simp, by (repeat (first | (with_reducible exact Below.refl _ _) | (with_reducible assumption) | (with_reducible apply bd) | (with_reducible apply ba) | (with_reducible refine bp ?_ (by first | omega | (simp [pad_size]; done) | (simp [pad_size]; omega)) _ _) | (with_reducible refine bs ?_ (by first | omega | (simp [pad_size]; done) | (simp [pad_size]; omega)) _) | (with_reducible refine bt ?_ (by assumption))))⟩
      · by_cases hs2 : t - e < pl[i].n
        · have hst := ovN_stop (t := t) (e := e) hlt (.inr hs2)
          rw [hst] at hc
          have hw1 : IntKind.u64.wrap (t - e) = t - e := by rw [IntKind.wrap_u64]; omega
          clear hst
          go_wp2
          go_ret2
          rw [hc.out]
          exact ⟨by simp, by (repeat (first | (with_reducible exact Below.refl _ _) | (with_reducible assumption) | (with_reducible apply bd) | (with_reducible apply ba) | (with_reducible refine bp ?_ (by first | omega | (simp [pad_size]; done) | (simp [pad_size]; omega)) _ _) | (with_reducible refine bs ?_ (by first | omega | (simp [pad_size]; done) | (simp [pad_size]; omega)) _) | (with_reducible refine bt ?_ (by assumption))))⟩
        · have hst := ovN_go (t := t) (e := e) hlt (by omega)
          rw [hst] at hc
          have hw1 : IntKind.u64.wrap (t - e) = t - e := by rw [IntKind.wrap_u64]; omega
          have hw2 : IntKind.u64.wrap (e + pl[i].n) = e + pl[i].n := by rw [IntKind.wrap_u64]; omega
          have hc2 : Hid (ovN pl s t = ((ovN (pl.drop (i + 1)) (e + pl[i].n) t).1 + (i + 1), (ovN (pl.drop (i + 1)) (e + pl[i].n) t).2)) := by
            unfold Hid; rw [hc.out]; simp only [Prod.mk.injEq, and_true]; omega
          clear hst hc
          go_wp2
          all_goals go_roundw
          case rel => exact ⟨i + 1, e + pl[i].n, by omega, by go_num, rfl, by go_num, by omega, hc2, by (repeat (first | (with_reducible exact Below.refl _ _) | (with_reducible assumption) | (with_reducible apply bd) | (with_reducible apply ba) | (with_reducible refine bp ?_ (by first | omega | (simp [pad_size]; done) | (simp [pad_size]; omega)) _ _) | (with_reducible refine bs ?_ (by first | omega | (simp [pad_size]; done) | (simp [pad_size]; omega)) _) | (with_reducible refine bt ?_ (by assumption))))⟩
          case measure => (simp [intOf]; omega)
    · obtain rfl : i = pl.length := by omega
      have hc3 : Hid (ovN pl s t = (pl.length, e)) := by unfold Hid; rw [hc.out, List.drop_length]; simp [ovN]
      clear hc
      go_wp2
      go_ret2
      rw [hc3.out]
      exact ⟨rfl, by (repeat (first | (with_reducible exact Below.refl _ _) | (with_reducible assumption) | (with_reducible apply bd) | (with_reducible apply ba) | (with_reducible refine bp ?_ (by first | omega | (simp [pad_size]; done) | (simp [pad_size]; omega)) _ _) | (with_reducible refine bs ?_ (by first | omega | (simp [pad_size]; done) | (simp [pad_size]; omega)) _) | (with_reducible refine bt ?_ (by assumption))))⟩
end Go.Proofs.Ytmfnfnegnfpkiaa
