
/- plan.together, plan.stepsRight. -/
import Derived.Test.YtmfnfnegnfpkiaaPL6
set_option linter.unusedSimpArgs false
set_option linter.unusedVariables false
set_option maxRecDepth 20000
namespace Go.Proofs.Ytmfnfnegnfpkiaa
open Go.RowKit

theorem IsCoins.sl {W : World} {v : Value} {l : List Cn} (h : IsCoins W v l) : ∃ a cap, v = .slice a l.length cap := by
  rcases h with ⟨rfl, a, cap, rfl⟩ | ⟨blk, off, cap, hv, -⟩
  · exact ⟨a, cap, rfl⟩
  · exact ⟨_, _, hv⟩
theorem sum_next {l : List Pd} {i : Nat} (hi : i < l.length) : opP (· + ·) (sumP (l.take i)) (amP l[i].l) = sumP (l.take (i + 1)) := by
  rw [sumP_snoc, List.take_succ_eq_append_getElem hi]
theorem tot_next {l : List Pd} {i : Nat} (hi : i < l.length) (d : Nat) : tot (l.take (i + 1)) d = vl (sumP (l.take i) d) + vl (amP l[i].l d) := by
  rw [sumP_vl, List.take_succ_eq_append_getElem hi, tot_snoc]
theorem pds_at {W : World} {a : Option Addr} {n c : Nat} {l : List Pd} (h : IsPds W (.slice a n c) l) : ∀ i x, l[i]? = some x → ∃ blk off, a = some ⟨blk, off, none⟩ ∧ blk < W.heap.size ∧ PdAt W blk (off + i * 2) x := by
  rcases h with ⟨rfl, -⟩ | ⟨blk, off, cap, ev, hne, _, hbl, hall⟩
  · intro i x hi; simp at hi
  · simp at ev
    obtain ⟨rfl, rfl, rfl⟩ := ev
    exact fun i x hi => ⟨blk, off, rfl, hbl, hall i x hi⟩
set_option maxRecDepth 20000 in
set_option maxHeartbeats 8000000 in
theorem together_any {v : Value} {l : List Pd} (w : World) (h : IsPds w v l) (hw : ∀ q ∈ l, PdWf q) (hs : ∀ q ∈ l, rightFrom 0 q.l = true) :
    Calls Try.prog 50 #[v] w fun e w' =>
      ((∀ d, d < 8 → tot l d < 115792089237316195423570985008687907853269984665640564039457584007913129639936) ∧ ∃ u, e = .returned (.tuple #[u, .int .i64 0]) ∧ IsCoins w' u (lst (sumP l) 8) ∧ Below w.heap.size w w') ∨
      ((∃ d, d < 8 ∧ 115792089237316195423570985008687907853269984665640564039457584007913129639936 ≤ tot l d) ∧ e = .returned (.tuple #[.slice none 0 0, .int .i64 2]) ∧ Below w.heap.size w w') := by
  obtain ⟨a2, c2, rfl⟩ := h.slice
  have hlen := h.len
  have hlen' : (l.length : Int) ≤ 1048576 := by omega
  have hP : Hid _ := pds_at h
  clear h
  go_enter Try.func50, Try.ntmps50
  go_wp2
  go_loopw [2, 3, 8] (fun av ev iv X => ∃ (i n c : Nat) (a : Option Addr), i ≤ l.length ∧ av = .slice a n c ∧ ev = .int .i64 0 ∧ iv = .int .i64 (i : Int) ∧ Hid (∀ d, d < 8 → tot (l.take i) d < 115792089237316195423570985008687907853269984665640564039457584007913129639936) ∧ Hid (IsCoins X (.slice a n c) (lst (sumP (l.take i)) 8)) ∧ Below w.heap.size w X) (fun _ _ iv _ => l.length - (intOf iv).toNat)
  case atStart => exact ⟨0, 0, 0, none, by omega, rfl, rfl, rfl, fun d _ => by simp [tot], by unfold Hid; rw [List.take_zero, sumP_nil]; exact .inl ⟨rfl, _, _, rfl⟩, Below.refl _ _⟩
  case round =>
    obtain ⟨i, n, c, a, hi, rfl, rfl, rfl, hf, hc, hX⟩ := hrel
    by_cases hlt : i < l.length
    · have hlt' : (i : Int) < (l.length : Int) := by omega
      obtain ⟨blk, off, rfl, hbl, hA⟩ := hP.out i l[i] (List.getElem?_eq_getElem hlt)
      obtain ⟨d0, d1, hxc⟩ := hA.below hbl hX
      have hxr := hxc.lst (hs l[i] (List.getElem_mem hlt))
      obtain ⟨a1, c1, ev1⟩ := hxc.slice
      rw [ev1] at d1 hxr
      have hbx : Below wr.heap.size wr (wr.alloc (.cells #[.int .u64 l[i].n, .slice a1 l[i].l.length c1] 73)) := ba (Below.refl _ _) _
      have hz := sumP_purse (l := l.take i) (fun q hq => hw q (List.mem_of_mem_take hq)) hf.out
      have hy := amP_purse (hw l[i] (List.getElem_mem hlt)).l
      by_cases hff : ∀ d, d < 8 → tot (l.take (i + 1)) d < 115792089237316195423570985008687907853269984665640564039457584007913129639936
      · have hC := addC_fit hz hy (fun d hd => by rw [← tot_next hlt]; exact hff d hd) _ (hc.out.below hbx) (hxr.below hbx)
        rw [sum_next hlt] at hC
        have hff : Hid _ := hff
        clear hz hy hxr hxc hA hf hc ev1
        go_wp2_with (go_at_call 82; refine hC.mono ?_; rintro e w1 ⟨u, rfl, hu, hb1⟩; obtain ⟨au, cu, rfl⟩ := hu.sl; have hu : Hid _ := hu)
        all_goals go_roundw
        case rel => exact ⟨i + 1, _, _, _, by omega, rfl, rfl, by go_num, hff, hu, bt (ba hX _) hb1⟩
        case measure => (simp [intOf]; omega)
      · have hex : ∃ d, d < 8 ∧ 115792089237316195423570985008687907853269984665640564039457584007913129639936 ≤ tot (l.take (i + 1)) d := Classical.byContradiction fun hn => hff fun d hd => Int.not_le.1 fun e => hn ⟨d, hd, e⟩
        have hC := addC_no hz hy (by obtain ⟨d, hd, e⟩ := hex; exact ⟨d, hd, by rw [← tot_next hlt]; exact e⟩) _ (hc.out.below hbx) (hxr.below hbx)
        have hex2 : Hid (∃ d, d < 8 ∧ 115792089237316195423570985008687907853269984665640564039457584007913129639936 ≤ tot l d) := by
          obtain ⟨d, hd, e⟩ := hex
          have := tot_take hw (i + 1) hd
          exact ⟨d, hd, by omega⟩
        clear hz hy hxr hxc hA hf hc ev1 hff hex
        go_wp2_with (go_at_call 82; refine hC.mono ?_; rintro e w1 ⟨rfl, hb1⟩)
        go_ret2
        exact .inr ⟨hex2.out, rfl, bt (ba hX _) hb1⟩
    · obtain rfl : i = l.length := by omega
      rw [List.take_length] at hf hc
      go_wp2
      go_ret2
      exact .inl ⟨hf.out, _, rfl, hc.out, hX⟩
end Go.Proofs.Ytmfnfnegnfpkiaa
