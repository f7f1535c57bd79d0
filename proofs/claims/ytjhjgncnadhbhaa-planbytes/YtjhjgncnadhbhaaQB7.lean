
/- Several texts, one behind the other: PL6, PL7, W1, W2, Y1, Y2, Z1, PL3, PL9, PL4. -/
import Derived.Test.YtjhjgncnadhbhaaQB6
import Derived.Test.YtjhjgncnadhbhaaH
import Derived.Deep.RegionWith
import Derived.Test.YtjhjgncnadhbhaaPL2
import Derived.Test.YtjhjgncnadhbhaaS
/- plan.over and plan.together. -/
set_option linter.unusedSimpArgs false
set_option linter.unusedVariables false
set_option maxRecDepth 20000
namespace Go.Proofs.Ytjhjgncnadhbhaa
open Go.RowKit

theorem ovN_stop {l : List Pd} {i : Nat} (hi : i < l.length) {e t : Int} (h : t < e ∨ t - e < l[i].n) : ovN (l.drop i) e t = (0, e) := by
  rw [List.drop_eq_getElem_cons hi]; unfold ovN; rw [if_pos h]
theorem ovN_go {l : List Pd} {i : Nat} (hi : i < l.length) {e t : Int} (h : ¬ (t < e ∨ t - e < l[i].n)) : ovN (l.drop i) e t = ((ovN (l.drop (i + 1)) (e + l[i].n) t).1 + 1, (ovN (l.drop (i + 1)) (e + l[i].n) t).2) := by
  rw [List.drop_eq_getElem_cons hi]; conv => lhs; unfold ovN
  rw [if_neg h]
set_option maxRecDepth 20000 in
set_option maxHeartbeats 8000000 in
theorem over_any {x : Pn} {t : Int} (w : World) (h : PnAt w x) (ho : PnOk x) (ht : 0 ≤ t ∧ t < 18446744073709551616) :
    Calls Try.prog 34 #[pnV x, .int .u64 t] w fun e w' => e = .returned (.tuple #[.int .i64 ((ovN x.pl x.s t).1 : Int), .int .u64 (ovN x.pl x.s t).2]) ∧ Below w.heap.size w w' := by
  obtain ⟨k, s, u, av, pv, al, pl⟩ := x
  obtain ⟨-, h2⟩ := h
  obtain ⟨⟨-, hws, -, -⟩, hwp⟩ := ho
  simp only at h2 hws hwp ⊢
  obtain ⟨a2, c2, rfl⟩ := h2.slice
  show Calls Try.prog 34 #[.agg #[.int .u8 k, .int .u64 s, .int .u64 u, av, .slice a2 pl.length c2], .int .u64 t] w _
  have hb0 : Below w.heap.size w (w.alloc (.cells #[.int .u8 k, .int .u64 s, .int .u64 u, av, .slice a2 pl.length c2] 33)) := ba (Below.refl _ _) _
  have hlen := h2.len
  have hlen' : (pl.length : Int) ≤ 9223372036854775807 := by omega
  have hP : Hid (∀ i x, pl[i]? = some x → ∃ blk off, a2 = some ⟨blk, off, none⟩ ∧ blk < w.heap.size ∧ PdAt w blk (off + i * 2) x) := by
    rcases h2 with ⟨rfl, -⟩ | ⟨blk, off, cap, ev, hne, _, hbl, hall⟩
    · intro i x hi; simp at hi
    · simp at ev
      obtain ⟨rfl, rfl⟩ := ev
      exact fun i x hi => ⟨blk, off, rfl, hbl, hall i x hi⟩
  clear h2
  go_enter Try.func34, Try.ntmps34
  go_wp2
  generalize w.alloc (.cells #[.int .u8 k, .int .u64 s, .int .u64 u, av, .slice a2 pl.length c2] 33) = P at *
  go_loopw [4, 5, 13] (fun mv ev iv X => ∃ (i : Nat) (e : Int), i ≤ pl.length ∧ mv = .int .i64 (i : Int) ∧ ev = .int .u64 e ∧ iv = .int .i64 (i : Int) ∧ (0 ≤ e ∧ e < 18446744073709551616) ∧ Hid (ovN pl s t = ((ovN (pl.drop i) e t).1 + i, (ovN (pl.drop i) e t).2)) ∧ Below w.heap.size w X) (fun _ _ iv _ => pl.length - (intOf iv).toNat)
  case atStart => exact ⟨0, s, by omega, rfl, rfl, rfl, hws, by unfold Hid; simp, hb0⟩
  case round =>
    obtain ⟨i, e, hi, rfl, rfl, rfl, he, hc, hX⟩ := hrel
    by_cases hlt : i < pl.length
    · have hlt' : (i : Int) < (pl.length : Int) := by omega
      obtain ⟨blk, off, rfl, hbl, hA⟩ := hP.out i pl[i] (List.getElem?_eq_getElem hlt)
      obtain ⟨d0, d1, hxc⟩ := hA.below hbl hX
      obtain ⟨a1, c1, ev1⟩ := hxc.slice
      rw [ev1] at d1
      have hq := (hwp pl[i] (List.getElem_mem hlt)).n
      by_cases hs1 : t < e
      · have hst := ovN_stop (t := t) (e := e) hlt (.inl hs1)
        rw [hst] at hc
        clear hst
        go_wp2
        go_ret2
        rw [hc.out]
        exact ⟨by simp, by (repeat (first | (with_reducible exact Below.refl _ _) | (with_reducible assumption) | (with_reducible apply bd) | (with_reducible apply ba) | (with_reducible refine bp ?_ (by first | omega | (simp [pad_size]; done) | (simp [pad_size]; omega)) _ _) | (with_reducible refine bs ?_ (by first | omega | (simp [pad_size]; done) | (simp [pad_size]; omega)) _) | (with_reducible refine bt ?_ (by assumption))))⟩
      · by_cases hs2 : t - e < pl[i].n
        · have hst := ovN_stop (t := t) (e := e) hlt (.inr hs2)
          rw [hst] at hc
          have hw1 : IntKind.u64.wrap (t - e) = t - e := by rw [IntKind.wrap_u64]; omega
          clear hst
          go_wp2
          go_ret2
          rw [hc.out]
          exact ⟨by simp, by (repeat (first | (with_reducible exact Below.refl _ _) | (with_reducible assumption) | (with_reducible apply bd) | (with_reducible apply ba) | (with_reducible refine bp ?_ (by first | omega | (simp [pad_size]; done) | (simp [pad_size]; omega)) _ _) | (with_reducible refine bs ?_ (by first | omega | (simp [pad_size]; done) | (simp [pad_size]; omega)) _) | (with_reducible refine bt ?_ (by assumption))))⟩
        · have hst := ovN_go (t := t) (e := e) hlt (by omega)
          rw [hst] at hc
          have hw1 : IntKind.u64.wrap (t - e) = t - e := by rw [IntKind.wrap_u64]; omega
          have hw2 : IntKind.u64.wrap (e + pl[i].n) = e + pl[i].n := by rw [IntKind.wrap_u64]; omega
          have hc2 : Hid (ovN pl s t = ((ovN (pl.drop (i + 1)) (e + pl[i].n) t).1 + (i + 1), (ovN (pl.drop (i + 1)) (e + pl[i].n) t).2)) := by
            unfold Hid; rw [hc.out]; simp only [Prod.mk.injEq, and_true]; omega
          clear hst hc
          go_wp2
          all_goals go_roundw
          case rel => exact ⟨i + 1, e + pl[i].n, by omega, by go_num, rfl, by go_num, by omega, hc2, by (repeat (first | (with_reducible exact Below.refl _ _) | (with_reducible assumption) | (with_reducible apply bd) | (with_reducible apply ba) | (with_reducible refine bp ?_ (by first | omega | (simp [pad_size]; done) | (simp [pad_size]; omega)) _ _) | (with_reducible refine bs ?_ (by first | omega | (simp [pad_size]; done) | (simp [pad_size]; omega)) _) | (with_reducible refine bt ?_ (by assumption))))⟩
          case measure => (simp [intOf]; omega)
    · obtain rfl : i = pl.length := by omega
      have hc3 : Hid (ovN pl s t = (pl.length, e)) := by unfold Hid; rw [hc.out, List.drop_length]; simp [ovN]
      clear hc
      go_wp2
      go_ret2
      rw [hc3.out]
      exact ⟨rfl, by (repeat (first | (with_reducible exact Below.refl _ _) | (with_reducible assumption) | (with_reducible apply bd) | (with_reducible apply ba) | (with_reducible refine bp ?_ (by first | omega | (simp [pad_size]; done) | (simp [pad_size]; omega)) _ _) | (with_reducible refine bs ?_ (by first | omega | (simp [pad_size]; done) | (simp [pad_size]; omega)) _) | (with_reducible refine bt ?_ (by assumption))))⟩
end Go.Proofs.Ytjhjgncnadhbhaa

/- plan.together, plan.stepsRight. -/
namespace Go.Proofs.Ytjhjgncnadhbhaa
open Go.RowKit

theorem IsCoins.sl {W : World} {v : Value} {l : List Cn} (h : IsCoins W v l) : ∃ a cap, v = .slice a l.length cap := by
  rcases h with ⟨rfl, a, cap, rfl⟩ | ⟨blk, off, cap, hv, -⟩
  · exact ⟨a, cap, rfl⟩
  · exact ⟨_, _, hv⟩
theorem sum_next {l : List Pd} {i : Nat} (hi : i < l.length) : opP (· + ·) (sumP (l.take i)) (amP l[i].l) = sumP (l.take (i + 1)) := by
  rw [sumP_snoc, List.take_succ_eq_append_getElem hi]
theorem tot_next {l : List Pd} {i : Nat} (hi : i < l.length) (d : Nat) : tot (l.take (i + 1)) d = vl (sumP (l.take i) d) + vl (amP l[i].l d) := by
  rw [sumP_vl, List.take_succ_eq_append_getElem hi, tot_snoc]
theorem pds_at {W : World} {a : Option Addr} {n c : Nat} {l : List Pd} (h : IsPds W (.slice a n c) l) : ∀ i x, l[i]? = some x → ∃ blk off, a = some ⟨blk, off, none⟩ ∧ blk < W.heap.size ∧ PdAt W blk (off + i * 2) x := by
  rcases h with ⟨rfl, -⟩ | ⟨blk, off, cap, ev, hne, _, hbl, hall⟩
  · intro i x hi; simp at hi
  · simp at ev
    obtain ⟨rfl, rfl, rfl⟩ := ev
    exact fun i x hi => ⟨blk, off, rfl, hbl, hall i x hi⟩
set_option maxRecDepth 20000 in
set_option maxHeartbeats 8000000 in
theorem together_any {v : Value} {l : List Pd} (w : World) (h : IsPds w v l) (hw : ∀ q ∈ l, PdWf q) (hs : ∀ q ∈ l, rightFrom 0 q.l = true) :
    Calls Try.prog 41 #[v] w fun e w' =>
      ((∀ d, d < 8 → tot l d < 115792089237316195423570985008687907853269984665640564039457584007913129639936) ∧ ∃ u, e = .returned (.tuple #[u, .int .i64 0]) ∧ IsCoins w' u (lst (sumP l) 8) ∧ Below w.heap.size w w') ∨
      ((∃ d, d < 8 ∧ 115792089237316195423570985008687907853269984665640564039457584007913129639936 ≤ tot l d) ∧ e = .returned (.tuple #[.slice none 0 0, .int .i64 2]) ∧ Below w.heap.size w w') := by
  obtain ⟨a2, c2, rfl⟩ := h.slice
  have hlen := h.len
  have hlen' : (l.length : Int) ≤ 9223372036854775807 := by omega
  have hP : Hid _ := pds_at h
  clear h
  go_enter Try.func41, Try.ntmps41
  go_wp2
  go_loopw [2, 3, 8] (fun av ev iv X => ∃ (i n c : Nat) (a : Option Addr), i ≤ l.length ∧ av = .slice a n c ∧ ev = .int .i64 0 ∧ iv = .int .i64 (i : Int) ∧ Hid (∀ d, d < 8 → tot (l.take i) d < 115792089237316195423570985008687907853269984665640564039457584007913129639936) ∧ Hid (IsCoins X (.slice a n c) (lst (sumP (l.take i)) 8)) ∧ Below w.heap.size w X) (fun _ _ iv _ => l.length - (intOf iv).toNat)
  case atStart => exact ⟨0, 0, 0, none, by omega, rfl, rfl, rfl, fun d _ => by simp [tot], by unfold Hid; rw [List.take_zero, sumP_nil]; exact .inl ⟨rfl, _, _, rfl⟩, Below.refl _ _⟩
  case round =>
    obtain ⟨i, n, c, a, hi, rfl, rfl, rfl, hf, hc, hX⟩ := hrel
    by_cases hlt : i < l.length
    · have hlt' : (i : Int) < (l.length : Int) := by omega
      obtain ⟨blk, off, rfl, hbl, hA⟩ := hP.out i l[i] (List.getElem?_eq_getElem hlt)
      obtain ⟨d0, d1, hxc⟩ := hA.below hbl hX
      have hxr := hxc.lst (hs l[i] (List.getElem_mem hlt))
      obtain ⟨a1, c1, ev1⟩ := hxc.slice
      rw [ev1] at d1 hxr
      have hbx : Below wr.heap.size wr (wr.alloc (.cells #[.int .u64 l[i].n, .slice a1 l[i].l.length c1] 71)) := ba (Below.refl _ _) _
      have hz := sumP_purse (l := l.take i) (fun q hq => hw q (List.mem_of_mem_take hq)) hf.out
      have hy := amP_purse (hw l[i] (List.getElem_mem hlt)).l
      by_cases hff : ∀ d, d < 8 → tot (l.take (i + 1)) d < 115792089237316195423570985008687907853269984665640564039457584007913129639936
      · have hC := addC_fit hz hy (fun d hd => by rw [← tot_next hlt]; exact hff d hd) _ (hc.out.below hbx) (hxr.below hbx)
        rw [sum_next hlt] at hC
        have hff : Hid _ := hff
        clear hz hy hxr hxc hA hf hc ev1
        go_wp2_with (go_at_call 67; refine hC.mono ?_; rintro e w1 ⟨u, rfl, hu, hb1⟩; obtain ⟨au, cu, rfl⟩ := hu.sl; have hu : Hid _ := hu)
        all_goals go_roundw
        case rel => exact ⟨i + 1, _, _, _, by omega, rfl, rfl, by go_num, hff, hu, bt (ba hX _) hb1⟩
        case measure => (simp [intOf]; omega)
      · have hex : ∃ d, d < 8 ∧ 115792089237316195423570985008687907853269984665640564039457584007913129639936 ≤ tot (l.take (i + 1)) d := Classical.byContradiction fun hn => hff fun d hd => Int.not_le.1 fun e => hn ⟨d, hd, e⟩
        have hC := addC_no hz hy (by obtain ⟨d, hd, e⟩ := hex; exact ⟨d, hd, by rw [← tot_next hlt]; exact e⟩) _ (hc.out.below hbx) (hxr.below hbx)
        have hex2 : Hid (∃ d, d < 8 ∧ 115792089237316195423570985008687907853269984665640564039457584007913129639936 ≤ tot l d) := by
          obtain ⟨d, hd, e⟩ := hex
          have := tot_take hw (i + 1) hd
          exact ⟨d, hd, by omega⟩
        clear hz hy hxr hxc hA hf hc ev1 hff hex
        go_wp2_with (go_at_call 67; refine hC.mono ?_; rintro e w1 ⟨rfl, hb1⟩)
        go_ret2
        exact .inr ⟨hex2.out, rfl, bt (ba hX _) hb1⟩
    · obtain rfl : i = l.length := by omega
      rw [List.take_length] at hf hc
      go_wp2
      go_ret2
      exact .inl ⟨hf.out, _, rfl, hc.out, hX⟩
end Go.Proofs.Ytjhjgncnadhbhaa

/- math/bits.Div64 whole; num.dividePart. -/
namespace Go.Proofs.Ytjhjgncnadhbhaa
open Go.RowKit

set_option maxHeartbeats 1000000 in
theorem div64_lo (lo y : Int) (h1 : 0 < y) (hy : y < 18446744073709551616) (hlo : 0 ≤ lo ∧ lo < 18446744073709551616) (w : World) :
    Calls Try.prog 112 #[.int .u64 0, .int .u64 lo, .int .u64 y] w fun e w' => ∃ q r : Int, e = .returned (.tuple #[.int .u64 q, .int .u64 r]) ∧ (0 ≤ q ∧ q < 18446744073709551616) ∧ (0 ≤ r ∧ r < y) ∧ Hid (0 * 18446744073709551616 + lo = q * y + r) ∧ Below w.heap.size w w' := by
  have hy0 : ¬ y = 0 := by omega
  have hyb : (y == 0) = false := by simp; omega
  have hyle : ¬ y ≤ 0 := by omega
  have e1 := Int.emod_add_mul_ediv lo y
  have e2 := Int.emod_nonneg lo hy0
  have e3 := Int.emod_lt_of_pos lo h1
  have e4 : 0 ≤ lo / y := Int.ediv_nonneg hlo.1 (by omega)
  have e5 : lo / y ≤ lo := Int.ediv_le_self _ hlo.1
  obtain ⟨q, hq⟩ : ∃ q, lo / y = q := ⟨_, rfl⟩
  obtain ⟨r, hr⟩ : ∃ r, lo % y = r := ⟨_, rfl⟩
  have hd : Hid (0 * 18446744073709551616 + lo = q * y + r) := by
    show _ = _
    rw [hq, hr, Int.mul_comm] at e1; omega
  rw [hq] at e4 e5; rw [hr] at e2 e3
  clear e1
  go_enter Try.func112, Try.ntmps112
  go_wp2
  go_region
  all_goals go_wp2
  all_goals go_ret2
  all_goals exact ⟨q, r, by first | rfl | (simp [hq, hr]; done), ⟨e4, by omega⟩, ⟨e2, e3⟩, hd, by (repeat (first | (with_reducible exact Below.refl _ _) | (with_reducible assumption) | (with_reducible apply bd) | (with_reducible apply ba) | (with_reducible refine bp ?_ (by first | omega | (simp [pad_size]; done) | (simp [pad_size]; omega)) _ _) | (with_reducible refine bs ?_ (by first | omega | (simp [pad_size]; done) | (simp [pad_size]; omega)) _) | (with_reducible refine bt ?_ (by assumption))))⟩

theorem div64_any (hi lo y : Int) (h0 : 0 ≤ hi) (h1 : hi < y) (hy : y < 18446744073709551616) (hlo : 0 ≤ lo ∧ lo < 18446744073709551616) (w : World) :
    Calls Try.prog 112 #[.int .u64 hi, .int .u64 lo, .int .u64 y] w fun e w' => ∃ q r : Int, e = .returned (.tuple #[.int .u64 q, .int .u64 r]) ∧ (0 ≤ q ∧ q < 18446744073709551616) ∧ (0 ≤ r ∧ r < y) ∧ Hid (hi * 18446744073709551616 + lo = q * y + r) ∧ Below w.heap.size w w' := by
  by_cases e : hi = 0
  · subst e; exact div64_lo lo y h1 hy hlo w
  · exact div64_hi hi lo y (by omega) h1 hy hlo w

/-- The guess of a part isn't too small. -/
theorem guess_ok {n r0 r1 r2 r3 c0 c1 c2 c3 g t : Int} (hr : Lim r0 r1 r2 r3) (hc : Lim c0 c1 c2 c3) (hn : 0 ≤ n ∧ n < 18446744073709551616) (hC : 9223372036854775808 ≤ c3) (hlt : val r0 r1 r2 r3 < val c0 c1 c2 c3)
    (hg : (r3 < c3 ∧ r3 * 18446744073709551616 + r2 = g * c3 + t ∧ 0 ≤ t ∧ t < c3 ∧ 0 ≤ g) ∨ (c3 ≤ r3 ∧ g = 18446744073709551615)) :
    val r0 r1 r2 r3 * 18446744073709551616 + n < (g + 1) * val c0 c1 c2 c3 := by
  rcases hg with ⟨h1, h2, h3, h4, h5⟩ | ⟨h1, rfl⟩
  · have e1 : c3 * 6277101735386680763835789423207666416102355444464034512896 ≤ val c0 c1 c2 c3 := by unfold val; unfold Lim at hc; omega
    have e2 : (g + 1) * (c3 * 6277101735386680763835789423207666416102355444464034512896) ≤ (g + 1) * val c0 c1 c2 c3 := Int.mul_le_mul_of_nonneg_left e1 (by omega)
    have e3 : (g + 1) * (c3 * 6277101735386680763835789423207666416102355444464034512896) = (g * c3 + c3) * 6277101735386680763835789423207666416102355444464034512896 := by grind
    rw [e3] at e2
    unfold Lim at hr
    unfold val at *
    generalize g * c3 = G at *
    omega
  · have e1 : (18446744073709551615 + 1) * val c0 c1 c2 c3 = val c0 c1 c2 c3 * 18446744073709551616 := by omega
    rw [e1]; omega
end Go.Proofs.Ytjhjgncnadhbhaa

/- num.dividePart. -/
namespace Go.Proofs.Ytjhjgncnadhbhaa
open Go.RowKit

/-- Between two rounds: what is left is told by the low parts, the top one, and whether it is below nought. -/
def PInv (N C g l t un : Int) : Prop := 0 ≤ g ∧ N < (g + 1) * C ∧ N - g * C = l + t * 115792089237316195423570985008687907853269984665640564039457584007913129639936 - un * 2135987035920910082395021706169552114602704522356652769947041607822219725780640550022962086936576

theorem part_start {r0 r1 r2 r3 n c0 c1 c2 c3 g k0 k1 k2 k3 tp l0 l1 l2 l3 bo tv un : Int}
    (e1 : Hid (val c0 c1 c2 c3 * g + 0 = val k0 k1 k2 k3 + tp * 115792089237316195423570985008687907853269984665640564039457584007913129639936))
    (e2 : Hid (val n r0 r1 r2 - val k0 k1 k2 k3 = val l0 l1 l2 l3 - bo * 115792089237316195423570985008687907853269984665640564039457584007913129639936))
    (e3 : Hid (r3 - tp - bo = tv - un * 18446744073709551616)) (hg : 0 ≤ g) (hk : val r0 r1 r2 r3 * 18446744073709551616 + n < (g + 1) * val c0 c1 c2 c3) :
    PInv (val r0 r1 r2 r3 * 18446744073709551616 + n) (val c0 c1 c2 c3) g (val l0 l1 l2 l3) tv un := by
  unfold Hid at *
  refine ⟨hg, hk, ?_⟩
  rw [Int.mul_comm g]
  generalize val c0 c1 c2 c3 * g = A at *
  unfold val at *
  omega

theorem part_next {N C g l t l' t' ca cb : Int} (h : PInv N C g l t 1) (hN : 0 ≤ N) (hC : 0 < C) (hl : 0 ≤ l ∧ l < 115792089237316195423570985008687907853269984665640564039457584007913129639936) (ht : 0 ≤ t ∧ t < 18446744073709551616)
    (e1 : Hid (l + C = l' + ca * 115792089237316195423570985008687907853269984665640564039457584007913129639936)) (e2 : Hid (t + 0 + ca = t' + cb * 18446744073709551616)) :
    1 ≤ g ∧ PInv N C (g - 1) l' t' (1 - cb) := by
  obtain ⟨h1, h2, h3⟩ := h
  unfold Hid at *
  have hneg : N - g * C < 0 := by rw [h3]; omega
  have hg : 1 ≤ g := by
    by_cases e : g = 0
    · subst e; omega
    · omega
  have e3 : (g - 1) * C = g * C - C := by rw [Int.sub_mul]; omega
  refine ⟨hg, by omega, ?_, ?_⟩
  · rw [show g - 1 + 1 = g by omega]; omega
  · rw [e3]
    generalize g * C = A at *
    omega

theorem part_pos {N C g l t : Int} (h : PInv N C g l t 1) (hN : 0 ≤ N) (hl : 0 ≤ l ∧ l < 115792089237316195423570985008687907853269984665640564039457584007913129639936) (ht : 0 ≤ t ∧ t < 18446744073709551616) : 1 ≤ g := by
  obtain ⟨h1, h2, h3⟩ := h
  by_cases e : g = 0
  · subst e; omega
  · omega

theorem part_done {N C g l t : Int} (h : PInv N C g l t 0) (hC : C < 115792089237316195423570985008687907853269984665640564039457584007913129639936) (hl : 0 ≤ l ∧ l < 115792089237316195423570985008687907853269984665640564039457584007913129639936) (ht : 0 ≤ t) :
    N = g * C + l ∧ l < C := by
  obtain ⟨h1, h2, h3⟩ := h
  rw [Int.add_mul] at h2
  generalize g * C = A at *
  have : t = 0 := by omega
  subst this
  omega

set_option maxHeartbeats 4000000 in
theorem part_any (r0 r1 r2 r3 n c0 c1 c2 c3 : Int) (hr : Lim r0 r1 r2 r3) (hn : 0 ≤ n ∧ n < 18446744073709551616) (hc : Lim c0 c1 c2 c3) (hC : 9223372036854775808 ≤ c3) (hlt : val r0 r1 r2 r3 < val c0 c1 c2 c3) (w : World) :
    Calls Try.prog 105 #[.agg #[.int .u64 r0, .int .u64 r1, .int .u64 r2, .int .u64 r3], .int .u64 n, .agg #[.int .u64 c0, .int .u64 c1, .int .u64 c2, .int .u64 c3]] w fun e w' =>
      ∃ q z0 z1 z2 z3 : Int, e = .returned (.tuple #[.int .u64 q, .agg #[.int .u64 z0, .int .u64 z1, .int .u64 z2, .int .u64 z3]]) ∧ (0 ≤ q ∧ q < 18446744073709551616) ∧ Lim z0 z1 z2 z3 ∧
        Hid (val r0 r1 r2 r3 * 18446744073709551616 + n = q * val c0 c1 c2 c3 + val z0 z1 z2 z3 ∧ val z0 z1 z2 z3 < val c0 c1 c2 c3) ∧ Below w.heap.size w w' := by
  have hpad := pads
  have hr' := hr; have hc' := hc
  obtain ⟨hr0, hr1, hr2, hr3⟩ := hr
  obtain ⟨hc0, hc1, hc2, hc3⟩ := hc
  have hlt' : Hid _ := hlt
  by_cases h3 : r3 < c3
  · go_enter Try.func105, Try.ntmps105
    go_wp2_with (first
      | (go_at_call 112; refine (div64_any r3 r2 c3 hr3.1 h3 hc3.2 hr2 _).mono ?_; rintro e w1 ⟨g, t, rfl, hg, ht, eg, hb⟩; obtain ⟨m1, g1, d1, hm1, rfl⟩ := pad_of hb; clear hb; (try simp [pad_size] at hm1); have st1_w := sz3 (n := w.heap.size) (m := m1) (by omega); have hk : Hid _ := guess_ok (g := g) hr' hc' hn hC hlt'.out (.inl ⟨h3, eg.out, ht.1, ht.2, hg.1⟩))
      | (go_at_call 98; refine (scale_any c0 c1 c2 c3 g 0 hc' hg ⟨by omega, by omega⟩ _).mono ?_; rintro e w1 ⟨k0, k1, k2, k3, tp, rfl, bk, btp, e1, hb⟩; obtain ⟨m2, g2, d2, hm2, rfl⟩ := pad_of (bt (bp (Below.refl _ _) (by first | omega | (simp [pad_size]; omega)) _ _) hb); clear hb; (try simp [pad_size] at hm2); have st2_w := sz3 (n := w.heap.size) (m := m2) (by omega); clear st1_w hm1)
      | (go_at_call 106; refine (minus_any n r0 r1 r2 k0 k1 k2 k3 ⟨hn, hr0, hr1, hr2⟩ bk _).mono ?_; rintro e w1 ⟨l0, l1, l2, l3, bo, rfl, bl, bo0, bo1, e2, hb⟩; obtain ⟨m3, g3, d3, hm3, rfl⟩ := pad_of (bt (ba (bp (Below.refl _ _) (by first | omega | (simp [pad_size]; omega)) _ _) _) hb); clear hb; (try simp [pad_size] at hm3); have st3_w := sz3 (n := w.heap.size) (m := m3) (by omega); clear st2_w hm2; obtain ⟨tv, un, btv, un0, un1, e3, ks⟩ := sub64_ex r3 tp bo hr3 btp bo0 bo1; have hI := part_start e1 e2 e3 hg.1 hk.out))
    go_loopw [8, 13, 14] (fun x8 x13 x14 wr => ∃ (g t un a0 a1 a2 a3 : Int) (m4 : Nat) (g4 : Nat → Obj) (d4 : Nat), x8 = .int .u64 g ∧ x13 = .int .u64 t ∧ x14 = .int .u64 un ∧ (0 ≤ g ∧ g < 18446744073709551616) ∧ (0 ≤ t ∧ t < 18446744073709551616) ∧ 0 ≤ un ∧ un ≤ 1 ∧ Lim a0 a1 a2 a3 ∧ m3 + 1 ≤ m4 ∧ wr = pad ((pad (((w.alloc (.cells #[.int .u64 r0, .int .u64 r1, .int .u64 r2, .int .u64 r3] 64)).alloc (.cells #[.int .u64 c0, .int .u64 c1, .int .u64 c2, .int .u64 c3] 64)).alloc (.cells #[.int .u64 0, .int .u64 0, .int .u64 0, .int .u64 0] 64)) m3 g3 d3).alloc (.cells #[.int .u64 a0, .int .u64 a1, .int .u64 a2, .int .u64 a3] 64)) m4 g4 d4 ∧ PInv (val r0 r1 r2 r3 * 18446744073709551616 + n) (val c0 c1 c2 c3) g (val a0 a1 a2 a3) t un) (fun x8 _ _ _ => (intOf x8).toNat)
    case atStart =>
      obtain ⟨m4, g4, d4, hm4, e4⟩ := pad_of (Below.refl _ ((pad (((w.alloc (.cells #[.int .u64 r0, .int .u64 r1, .int .u64 r2, .int .u64 r3] 64)).alloc (.cells #[.int .u64 c0, .int .u64 c1, .int .u64 c2, .int .u64 c3] 64)).alloc (.cells #[.int .u64 0, .int .u64 0, .int .u64 0, .int .u64 0] 64)) m3 g3 d3).alloc (.cells #[.int .u64 l0, .int .u64 l1, .int .u64 l2, .int .u64 l3] 64)))
      exact ⟨_, tv, un, l0, l1, l2, l3, m4, g4, d4, rfl, rfl, rfl, hg, btv, un0, un1, bl, by simpa [pad_size] using hm4, e4, hI⟩
    case round =>
      clear hI ks e1 e2 e3
      obtain ⟨g', t', un', a0, a1, a2, a3, m4, g4, d4, rfl, rfl, rfl, hg', ht', un0', un1', ba', hm4, rfl, hI⟩ := hrel
      have st4 := sz1 (n := m3) (m := m4) hm4
      have st5 := sz3 (n := w.heap.size) (m := m4) (by omega)
      rcases (show un' = 0 ∨ un' = 1 by omega) with rfl | rfl
      · obtain ⟨f1, f2⟩ := part_done hI (val_hi hc') ⟨val_lo ba', val_hi ba'⟩ ht'.1
        have f1 : Hid _ := f1
        go_wp2
        go_region
        all_goals go_wp2
        all_goals refine bodyPost_ret (v := .tuple #[.int .u64 g', .agg #[.int .u64 a0, .int .u64 a1, .int .u64 a2, .int .u64 a3]]) (by simp only [results, Try.results105]; go_simp) rfl ⟨g', a0, a1, a2, a3, rfl, hg', ba', ⟨f1.out, f2⟩, ?_⟩
        all_goals (repeat (first | (with_reducible exact Below.refl _ _) | (with_reducible assumption) | (with_reducible apply bd) | (with_reducible apply ba) | (with_reducible refine bp ?_ (by first | omega | (simp [pad_size]; done) | (simp [pad_size]; omega)) _ _) | (with_reducible refine bs ?_ (by first | omega | (simp [pad_size]; done) | (simp [pad_size]; omega)) _) | (with_reducible refine bt ?_ (by assumption))))
      · have hCpos : 0 < val c0 c1 c2 c3 := by have := val_lo hr'; omega
        have n0 : 1 ≤ g' := part_pos hI (by have := val_lo hr'; omega) ⟨val_lo ba', val_hi ba'⟩ ht'
        go_wp2_with (first
          | (go_at_call 99; refine (plus_any a0 a1 a2 a3 c0 c1 c2 c3 ba' hc' _).mono ?_; rintro e w1 ⟨b0, b1, b2, b3, ca, rfl, bb, ca0, ca1, e5, hb⟩; obtain ⟨m5, g5, d5, hm5, rfl⟩ := pad_of (bt (bp (Below.refl _ ((pad (((w.alloc (.cells #[.int .u64 r0, .int .u64 r1, .int .u64 r2, .int .u64 r3] 64)).alloc (.cells #[.int .u64 c0, .int .u64 c1, .int .u64 c2, .int .u64 c3] 64)).alloc (.cells #[.int .u64 0, .int .u64 0, .int .u64 0, .int .u64 0] 64)) m3 g3 d3).alloc (.cells #[.int .u64 a0, .int .u64 a1, .int .u64 a2, .int .u64 a3] 64))) (by simp [pad_size]; omega) g4 d4) hb); clear hb; simp [pad_size] at hm5; have st6 := sz1 (n := m3) (m := m5) (by omega); have st7 := sz3 (n := w.heap.size) (m := m5) (by omega); obtain ⟨t2, cb, bt2, cb0, cb1, e6, ks2⟩ := add64_ex t' 0 ca ht' ⟨by omega, by omega⟩ ca0 ca1; obtain ⟨n1, hI2⟩ := part_next hI (by have := val_lo hr'; omega) hCpos ⟨val_lo ba', val_hi ba'⟩ ht' e5 e6))
        go_roundw
        case rel => exact ⟨g' - 1, t2, 1 - cb, b0, b1, b2, b3, m5, g5, _, rfl, rfl, rfl, ⟨by omega, by omega⟩, bt2, by omega, by omega, bb, hm5, rfl, hI2⟩
        case measure => simp [intOf]; omega
  · go_enter Try.func105, Try.ntmps105
    have hk : Hid _ := guess_ok (g := 18446744073709551615) (t := 0) hr' hc' hn hC hlt'.out (.inr ⟨by omega, rfl⟩)
    go_wp2_with (first
      | (go_at_call 98; refine (scale_any c0 c1 c2 c3 18446744073709551615 0 hc' ⟨by omega, by omega⟩ ⟨by omega, by omega⟩ _).mono ?_; rintro e w1 ⟨k0, k1, k2, k3, tp, rfl, bk, btp, e1, hb⟩; obtain ⟨m2, g2, d2, hm2, rfl⟩ := pad_of hb; clear hb; (try simp [pad_size] at hm2); have st2_w := sz3 (n := w.heap.size) (m := m2) (by omega))
      | (go_at_call 106; refine (minus_any n r0 r1 r2 k0 k1 k2 k3 ⟨hn, hr0, hr1, hr2⟩ bk _).mono ?_; rintro e w1 ⟨l0, l1, l2, l3, bo, rfl, bl, bo0, bo1, e2, hb⟩; obtain ⟨m3, g3, d3, hm3, rfl⟩ := pad_of (bt (ba (bp (Below.refl _ _) (by first | omega | (simp [pad_size]; omega)) _ _) _) hb); clear hb; (try simp [pad_size] at hm3); have st3_w := sz3 (n := w.heap.size) (m := m3) (by omega); clear st2_w hm2; obtain ⟨tv, un, btv, un0, un1, e3, ks⟩ := sub64_ex r3 tp bo hr3 btp bo0 bo1; have hI := part_start e1 e2 e3 (by omega) hk.out))
    go_loopw [8, 13, 14] (fun x8 x13 x14 wr => ∃ (g t un a0 a1 a2 a3 : Int) (m4 : Nat) (g4 : Nat → Obj) (d4 : Nat), x8 = .int .u64 g ∧ x13 = .int .u64 t ∧ x14 = .int .u64 un ∧ (0 ≤ g ∧ g < 18446744073709551616) ∧ (0 ≤ t ∧ t < 18446744073709551616) ∧ 0 ≤ un ∧ un ≤ 1 ∧ Lim a0 a1 a2 a3 ∧ m3 + 1 ≤ m4 ∧ wr = pad ((pad (((w.alloc (.cells #[.int .u64 r0, .int .u64 r1, .int .u64 r2, .int .u64 r3] 64)).alloc (.cells #[.int .u64 c0, .int .u64 c1, .int .u64 c2, .int .u64 c3] 64)).alloc (.cells #[.int .u64 0, .int .u64 0, .int .u64 0, .int .u64 0] 64)) m3 g3 d3).alloc (.cells #[.int .u64 a0, .int .u64 a1, .int .u64 a2, .int .u64 a3] 64)) m4 g4 d4 ∧ PInv (val r0 r1 r2 r3 * 18446744073709551616 + n) (val c0 c1 c2 c3) g (val a0 a1 a2 a3) t un) (fun x8 _ _ _ => (intOf x8).toNat)
    case atStart =>
      obtain ⟨m4, g4, d4, hm4, e4⟩ := pad_of (Below.refl _ ((pad (((w.alloc (.cells #[.int .u64 r0, .int .u64 r1, .int .u64 r2, .int .u64 r3] 64)).alloc (.cells #[.int .u64 c0, .int .u64 c1, .int .u64 c2, .int .u64 c3] 64)).alloc (.cells #[.int .u64 0, .int .u64 0, .int .u64 0, .int .u64 0] 64)) m3 g3 d3).alloc (.cells #[.int .u64 l0, .int .u64 l1, .int .u64 l2, .int .u64 l3] 64)))
      exact ⟨_, tv, un, l0, l1, l2, l3, m4, g4, d4, rfl, rfl, rfl, ⟨by omega, by omega⟩, btv, un0, un1, bl, by simpa [pad_size] using hm4, e4, hI⟩
    case round =>
      clear hI ks e1 e2 e3
      obtain ⟨g', t', un', a0, a1, a2, a3, m4, g4, d4, rfl, rfl, rfl, hg', ht', un0', un1', ba', hm4, rfl, hI⟩ := hrel
      have st4 := sz1 (n := m3) (m := m4) hm4
      have st5 := sz3 (n := w.heap.size) (m := m4) (by omega)
      rcases (show un' = 0 ∨ un' = 1 by omega) with rfl | rfl
      · obtain ⟨f1, f2⟩ := part_done hI (val_hi hc') ⟨val_lo ba', val_hi ba'⟩ ht'.1
        have f1 : Hid _ := f1
        go_wp2
        go_region
        all_goals go_wp2
        all_goals refine bodyPost_ret (v := .tuple #[.int .u64 g', .agg #[.int .u64 a0, .int .u64 a1, .int .u64 a2, .int .u64 a3]]) (by simp only [results, Try.results105]; go_simp) rfl ⟨g', a0, a1, a2, a3, rfl, hg', ba', ⟨f1.out, f2⟩, ?_⟩
        all_goals (repeat (first | (with_reducible exact Below.refl _ _) | (with_reducible assumption) | (with_reducible apply bd) | (with_reducible apply ba) | (with_reducible refine bp ?_ (by first | omega | (simp [pad_size]; done) | (simp [pad_size]; omega)) _ _) | (with_reducible refine bs ?_ (by first | omega | (simp [pad_size]; done) | (simp [pad_size]; omega)) _) | (with_reducible refine bt ?_ (by assumption))))
      · have hCpos : 0 < val c0 c1 c2 c3 := by have := val_lo hr'; omega
        have n0 : 1 ≤ g' := part_pos hI (by have := val_lo hr'; omega) ⟨val_lo ba', val_hi ba'⟩ ht'
        go_wp2_with (first
          | (go_at_call 99; refine (plus_any a0 a1 a2 a3 c0 c1 c2 c3 ba' hc' _).mono ?_; rintro e w1 ⟨b0, b1, b2, b3, ca, rfl, bb, ca0, ca1, e5, hb⟩; obtain ⟨m5, g5, d5, hm5, rfl⟩ := pad_of (bt (bp (Below.refl _ ((pad (((w.alloc (.cells #[.int .u64 r0, .int .u64 r1, .int .u64 r2, .int .u64 r3] 64)).alloc (.cells #[.int .u64 c0, .int .u64 c1, .int .u64 c2, .int .u64 c3] 64)).alloc (.cells #[.int .u64 0, .int .u64 0, .int .u64 0, .int .u64 0] 64)) m3 g3 d3).alloc (.cells #[.int .u64 a0, .int .u64 a1, .int .u64 a2, .int .u64 a3] 64))) (by simp [pad_size]; omega) g4 d4) hb); clear hb; simp [pad_size] at hm5; have st6 := sz1 (n := m3) (m := m5) (by omega); have st7 := sz3 (n := w.heap.size) (m := m5) (by omega); obtain ⟨t2, cb, bt2, cb0, cb1, e6, ks2⟩ := add64_ex t' 0 ca ht' ⟨by omega, by omega⟩ ca0 ca1; obtain ⟨n1, hI2⟩ := part_next hI (by have := val_lo hr'; omega) hCpos ⟨val_lo ba', val_hi ba'⟩ ht' e5 e6))
        go_roundw
        case rel => exact ⟨g' - 1, t2, 1 - cb, b0, b1, b2, b3, m5, g5, _, rfl, rfl, rfl, ⟨by omega, by omega⟩, bt2, by omega, by omega, bb, hm5, rfl, hI2⟩
        case measure => simp [intOf]; omega
end Go.Proofs.Ytjhjgncnadhbhaa

/- num.divide: the plain part. -/
namespace Go.Proofs.Ytjhjgncnadhbhaa
open Go.RowKit Go.Shelf

/-- Parts of a number that is a multiple of 2^k, and of one below 2^k, are laid over one another as they are added. -/
theorem or4 {a0 a1 a2 a3 b0 b1 b2 b3 k : Int} (ha : Lim a0 a1 a2 a3) (hb : Lim b0 b1 b2 b3) (h0 : 0 ≤ k) (h1 : k < 256) (hm : val a0 a1 a2 a3 % 2 ^ k.toNat = 0) (hl : val b0 b1 b2 b3 < 2 ^ k.toNat) :
    (bits .or .u64 a0 b0 = a0 + b0 ∧ a0 + b0 < 18446744073709551616) ∧ (bits .or .u64 a1 b1 = a1 + b1 ∧ a1 + b1 < 18446744073709551616) ∧ (bits .or .u64 a2 b2 = a2 + b2 ∧ a2 + b2 < 18446744073709551616) ∧ (bits .or .u64 a3 b3 = a3 + b3 ∧ a3 + b3 < 18446744073709551616) := by
  have orz : ∀ x : Int, 0 ≤ x ∧ x < 18446744073709551616 → bits .or .u64 x 0 = x + 0 ∧ x + 0 < 18446744073709551616 := fun x hx => shl_or (r := 0) ⟨by omega, by omega⟩ hx (show _ = _ by simp) (by omega) (show _ < _ by simp) (by omega)
  have zor : ∀ x : Int, 0 ≤ x ∧ x < 18446744073709551616 → bits .or .u64 0 x = 0 + x ∧ 0 + x < 18446744073709551616 := fun x hx => by
    have hc : bits .or .u64 0 x = bits .or .u64 x 0 := by simp only [bits, BitVec.or_comm]
    rw [hc, (orz x hx).1]; omega
  obtain ⟨r, hr⟩ : ∃ r, k % 64 = r := ⟨_, rfl⟩
  obtain ⟨t, ht⟩ : ∃ t : Nat, r = t := ⟨r.toNat, by omega⟩
  subst ht
  have ht63 : t ≤ 63 := by omega
  obtain ⟨hTU, hT, hU, hT2⟩ := pow_split t ht63
  obtain ⟨ha0, ha1, ha2, ha3⟩ := ha
  obtain ⟨hb0, hb1, hb2, hb3⟩ := hb
  have join : ∀ x y : Int, 0 ≤ x ∧ x < 18446744073709551616 → x % 2 ^ t = 0 → 0 ≤ y → y < 2 ^ t → bits .or .u64 x y = x + y ∧ x + y < 18446744073709551616 := fun x y hx hxm hy0 hy1 =>
    shl_or (r := (t : Int)) ⟨by omega, by omega⟩ hx (show _ = _ by simpa using hxm) hy0 (show _ < _ by simpa using hy1) (by omega)
  rcases (show k / 64 = 0 ∨ k / 64 = 1 ∨ k / 64 = 2 ∨ k / 64 = 3 by omega) with h | h | h | h
  · have ek : (2 : Int) ^ k.toNat = 1 * 2 ^ t := by
      rw [show k.toNat = 0 + t by omega, Int.pow_add]; rfl
    rw [ek] at hm hl
    have eU : (18446744073709551616 : Int) = 2 ^ t * 2 ^ (64 - t) := hTU.symm
    obtain ⟨z, hz⟩ := Int.dvd_of_emod_eq_zero hm
    unfold val at hz hl
    generalize hTe : (2 : Int) ^ t = T at *
    generalize hUe : (2 : Int) ^ (64 - t) = U at *
    have hz' : a0 + a1 * 18446744073709551616 + a2 * 340282366920938463463374607431768211456 + a3 * 6277101735386680763835789423207666416102355444464034512896 = (T * z) * 1 := by rw [show (T * z) * 1 = 1 * T * z by grind]; exact hz
    have zb1 : b1 = 0 := by omega
    have zb2 : b2 = 0 := by omega
    have zb3 : b3 = 0 := by omega
    have hap : a0 = T * (z - U * (a1 + a2 * 18446744073709551616 + a3 * 340282366920938463463374607431768211456)) := by
      rw [Int.mul_sub, ← Int.mul_assoc, hTU]
      generalize T * z = Y at *
      omega
    have hmp : a0 % T = 0 := by rw [hap]; exact Int.mul_emod_right _ _
    exact ⟨join a0 b0 ha0 hmp hb0.1 (by omega), by rw [zb1]; exact orz a1 ha1, by rw [zb2]; exact orz a2 ha2, by rw [zb3]; exact orz a3 ha3⟩
  · have ek : (2 : Int) ^ k.toNat = 18446744073709551616 * 2 ^ t := by
      rw [show k.toNat = 64 + t by omega, Int.pow_add]; rfl
    rw [ek] at hm hl
    have eU : (18446744073709551616 : Int) = 2 ^ t * 2 ^ (64 - t) := hTU.symm
    obtain ⟨z, hz⟩ := Int.dvd_of_emod_eq_zero hm
    unfold val at hz hl
    generalize hTe : (2 : Int) ^ t = T at *
    generalize hUe : (2 : Int) ^ (64 - t) = U at *
    have hz' : a0 + a1 * 18446744073709551616 + a2 * 340282366920938463463374607431768211456 + a3 * 6277101735386680763835789423207666416102355444464034512896 = (T * z) * 18446744073709551616 := by rw [show (T * z) * 18446744073709551616 = 18446744073709551616 * T * z by grind]; exact hz
    have za0 : a0 = 0 := by generalize T * z = Y at *; omega
    have zb2 : b2 = 0 := by omega
    have zb3 : b3 = 0 := by omega
    have hap : a1 = T * (z - U * (a2 + a3 * 18446744073709551616)) := by
      rw [Int.mul_sub, ← Int.mul_assoc, hTU]
      generalize T * z = Y at *
      omega
    have hmp : a1 % T = 0 := by rw [hap]; exact Int.mul_emod_right _ _
    exact ⟨by rw [za0]; exact zor b0 hb0, join a1 b1 ha1 hmp hb1.1 (by omega), by rw [zb2]; exact orz a2 ha2, by rw [zb3]; exact orz a3 ha3⟩
  · have ek : (2 : Int) ^ k.toNat = 340282366920938463463374607431768211456 * 2 ^ t := by
      rw [show k.toNat = 128 + t by omega, Int.pow_add]; rfl
    rw [ek] at hm hl
    have eU : (18446744073709551616 : Int) = 2 ^ t * 2 ^ (64 - t) := hTU.symm
    obtain ⟨z, hz⟩ := Int.dvd_of_emod_eq_zero hm
    unfold val at hz hl
    generalize hTe : (2 : Int) ^ t = T at *
    generalize hUe : (2 : Int) ^ (64 - t) = U at *
    have hz' : a0 + a1 * 18446744073709551616 + a2 * 340282366920938463463374607431768211456 + a3 * 6277101735386680763835789423207666416102355444464034512896 = (T * z) * 340282366920938463463374607431768211456 := by rw [show (T * z) * 340282366920938463463374607431768211456 = 340282366920938463463374607431768211456 * T * z by grind]; exact hz
    have za0 : a0 = 0 := by generalize T * z = Y at *; omega
    have za1 : a1 = 0 := by generalize T * z = Y at *; omega
    have zb3 : b3 = 0 := by omega
    have hap : a2 = T * (z - U * (a3)) := by
      rw [Int.mul_sub, ← Int.mul_assoc, hTU]
      generalize T * z = Y at *
      omega
    have hmp : a2 % T = 0 := by rw [hap]; exact Int.mul_emod_right _ _
    exact ⟨by rw [za0]; exact zor b0 hb0, by rw [za1]; exact zor b1 hb1, join a2 b2 ha2 hmp hb2.1 (by omega), by rw [zb3]; exact orz a3 ha3⟩
  · have ek : (2 : Int) ^ k.toNat = 6277101735386680763835789423207666416102355444464034512896 * 2 ^ t := by
      rw [show k.toNat = 192 + t by omega, Int.pow_add]; rfl
    rw [ek] at hm hl
    have eU : (18446744073709551616 : Int) = 2 ^ t * 2 ^ (64 - t) := hTU.symm
    obtain ⟨z, hz⟩ := Int.dvd_of_emod_eq_zero hm
    unfold val at hz hl
    generalize hTe : (2 : Int) ^ t = T at *
    generalize hUe : (2 : Int) ^ (64 - t) = U at *
    have hz' : a0 + a1 * 18446744073709551616 + a2 * 340282366920938463463374607431768211456 + a3 * 6277101735386680763835789423207666416102355444464034512896 = (T * z) * 6277101735386680763835789423207666416102355444464034512896 := by rw [show (T * z) * 6277101735386680763835789423207666416102355444464034512896 = 6277101735386680763835789423207666416102355444464034512896 * T * z by grind]; exact hz
    have za0 : a0 = 0 := by generalize T * z = Y at *; omega
    have za1 : a1 = 0 := by generalize T * z = Y at *; omega
    have za2 : a2 = 0 := by generalize T * z = Y at *; omega
    have hap : a3 = T * (z - U * (0)) := by
      rw [Int.mul_sub, ← Int.mul_assoc, hTU]
      generalize T * z = Y at *
      omega
    have hmp : a3 % T = 0 := by rw [hap]; exact Int.mul_emod_right _ _
    exact ⟨by rw [za0]; exact zor b0 hb0, by rw [za1]; exact zor b1 hb1, by rw [za2]; exact zor b2 hb2, join a3 b3 ha3 hmp hb3.1 (by omega)⟩

theorem div_pre {h l c k a b : Int} (hh : 0 ≤ h) (hl : 0 ≤ l ∧ l < 115792089237316195423570985008687907853269984665640564039457584007913129639936) (hhc : h < c) (hk0 : 0 ≤ k) (hk1 : k < 256)
    (hn : Hid (57896044618658097711785492504343953926634992332820282019728792003956564819968 ≤ c * 2 ^ k.toNat ∧ c * 2 ^ k.toNat < 115792089237316195423570985008687907853269984665640564039457584007913129639936)) (ha : 0 ≤ a) (hb : 0 ≤ b) (s1 : ShlS h k a) (s2 : ShrS l (256 - k) b) : a % 2 ^ k.toNat = 0 ∧ b < 2 ^ k.toNat := by
  obtain ⟨t, rfl⟩ := Int.eq_ofNat_of_zero_le hk0
  have e256 : ((256 : Int) - (t : Int)).toNat = 256 - t := by omega
  obtain ⟨q1, q10, e1⟩ := s1
  obtain ⟨m, m0, m1, e2⟩ := s2
  rw [e256] at m1 e2
  have hn := hn.out
  rw [Int.toNat_natCast] at *
  have hTU : (2 : Int) ^ t * 2 ^ (256 - t) = 115792089237316195423570985008687907853269984665640564039457584007913129639936 := by
    rw [← Int.pow_add, show t + (256 - t) = 256 by omega]; rfl
  have hT : (0 : Int) < 2 ^ t := Int.pow_pos (by omega)
  have hU : (0 : Int) < 2 ^ (256 - t) := Int.pow_pos (by omega)
  generalize (2 : Int) ^ t = T at *
  generalize (2 : Int) ^ (256 - t) = U at *
  have h1 : (h + 1) * T ≤ c * T := Int.mul_le_mul_of_nonneg_right (by omega) (by omega)
  rw [Int.add_mul] at h1
  have f1 : h * T = a := by
    have : 0 ≤ h * T := Int.mul_nonneg hh (by omega)
    generalize h * T = A at *; generalize c * T = B at *; omega
  refine ⟨by rw [← f1]; exact Int.mul_emod_left _ _, ?_⟩
  apply Int.lt_of_mul_lt_mul_right (a := U) _ (by omega)
  rw [hTU]
  generalize b * U = B at *
  omega

/-- What the shifts make of what is divided, and of what divides it. -/
theorem div_setup {h l c k a b cc d : Int} (hh : 0 ≤ h) (hl : 0 ≤ l ∧ l < 115792089237316195423570985008687907853269984665640564039457584007913129639936) (hhc : h < c) (hk0 : 0 ≤ k) (hk1 : k < 256)
    (hn : Hid (57896044618658097711785492504343953926634992332820282019728792003956564819968 ≤ c * 2 ^ k.toNat ∧ c * 2 ^ k.toNat < 115792089237316195423570985008687907853269984665640564039457584007913129639936))
    (ha : 0 ≤ a) (hb : 0 ≤ b) (hcc : 0 ≤ cc ∧ cc < 115792089237316195423570985008687907853269984665640564039457584007913129639936) (hd : 0 ≤ d ∧ d < 115792089237316195423570985008687907853269984665640564039457584007913129639936)
    (s1 : ShlS h k a) (s2 : ShrS l (256 - k) b) (s3 : ShlS c k cc) (s4 : ShlS l k d) :
    a % 2 ^ k.toNat = 0 ∧ b < 2 ^ k.toNat ∧ 57896044618658097711785492504343953926634992332820282019728792003956564819968 ≤ cc ∧ a + b < cc ∧ Hid (cc = c * 2 ^ k.toNat) ∧ Hid ((h * 115792089237316195423570985008687907853269984665640564039457584007913129639936 + l) * 2 ^ k.toNat = (a + b) * 115792089237316195423570985008687907853269984665640564039457584007913129639936 + d) := by
  obtain ⟨t, rfl⟩ := Int.eq_ofNat_of_zero_le hk0
  have e256 : ((256 : Int) - (t : Int)).toNat = 256 - t := by omega
  obtain ⟨q1, q10, e1⟩ := s1
  obtain ⟨m, m0, m1, e2⟩ := s2
  obtain ⟨q3, q30, e3⟩ := s3
  obtain ⟨q4, q40, e4⟩ := s4
  rw [e256] at m1 e2
  have hn := hn.out
  rw [Int.toNat_natCast] at *
  have hTU : (2 : Int) ^ t * 2 ^ (256 - t) = 115792089237316195423570985008687907853269984665640564039457584007913129639936 := by
    rw [← Int.pow_add, show t + (256 - t) = 256 by omega]; rfl
  have hT : (0 : Int) < 2 ^ t := Int.pow_pos (by omega)
  have hU : (0 : Int) < 2 ^ (256 - t) := Int.pow_pos (by omega)
  generalize (2 : Int) ^ t = T at *
  generalize (2 : Int) ^ (256 - t) = U at *
  have h1 : (h + 1) * T ≤ c * T := Int.mul_le_mul_of_nonneg_right (by omega) (by omega)
  rw [Int.add_mul] at h1
  have f1 : h * T = a := by
    have : 0 ≤ h * T := Int.mul_nonneg hh (by omega)
    generalize h * T = A at *; generalize c * T = B at *; omega
  have f3 : c * T = cc := by generalize c * T = B at *; omega
  have f4 : l * T = b * 115792089237316195423570985008687907853269984665640564039457584007913129639936 + m * T := by
    rw [e2, Int.add_mul, Int.mul_assoc, Int.mul_comm U T, hTU]
  have g1 : 0 ≤ m * T := Int.mul_nonneg m0 (by omega)
  have g2 : m * T < U * T := Int.mul_lt_mul_of_pos_right m1 hT
  rw [Int.mul_comm U T, hTU] at g2
  have f5 : b = q4 ∧ m * T = d := by
    rw [e4] at f4
    generalize m * T = B at *
    omega
  have f6 : b < T := by
    apply Int.lt_of_mul_lt_mul_right (a := U) _ (by omega)
    rw [hTU]
    generalize b * U = B at *
    omega
  refine ⟨by rw [← f1]; exact Int.mul_emod_left _ _, f6, by rw [← f3]; exact hn.1, ?_, f3.symm, ?_⟩
  · rw [← f1, ← f3]; omega
  · show _ = _
    have : (h * 115792089237316195423570985008687907853269984665640564039457584007913129639936 + l) * T = h * T * 115792089237316195423570985008687907853269984665640564039457584007913129639936 + l * T := by rw [Int.add_mul, Int.mul_right_comm]
    rw [this, f1, f4, f5.2]
    generalize m * T = B at *
    omega

/-- The first parts of a number, from the highest one on. -/
def topn (n : Nat) (d0 d1 d2 d3 : Int) : Int := match n with
  | 0 => 0
  | 1 => d3
  | 2 => d3 * 18446744073709551616 + d2
  | 3 => (d3 * 18446744073709551616 + d2) * 18446744073709551616 + d1
  | _ => ((d3 * 18446744073709551616 + d2) * 18446744073709551616 + d1) * 18446744073709551616 + d0

theorem topn4 (d0 d1 d2 d3 : Int) : topn 4 d0 d1 d2 d3 = val d0 d1 d2 d3 := by
  show ((d3 * 18446744073709551616 + d2) * 18446744073709551616 + d1) * 18446744073709551616 + d0 = _
  unfold val; omega

def powM (n : Nat) : Int := match n with
  | 0 => 1
  | 1 => 18446744073709551616
  | 2 => 340282366920938463463374607431768211456
  | 3 => 6277101735386680763835789423207666416102355444464034512896
  | _ => 115792089237316195423570985008687907853269984665640564039457584007913129639936

theorem pref_last {d0 d1 d2 d3 : Int} (hd : Lim d0 d1 d2 d3) {pre : List Limb} {x : Limb} (h : pre ++ [x] <+: limbsDown hd) : pre <+: limbsDown hd ∧ pre.length = 3 - x.1.1 ∧ x.1.2 = at4 d0 d1 d2 d3 x.1.1 := by
  refine ⟨List.IsPrefix.trans (List.prefix_append _ _) h, ?_⟩
  obtain ⟨t, ht⟩ := h
  unfold limbsDown at ht
  match pre, ht with
  | [], ht => simp at ht; obtain ⟨rfl, -⟩ := ht; exact ⟨rfl, rfl⟩
  | [a], ht => simp at ht; obtain ⟨rfl, rfl, -⟩ := ht; exact ⟨rfl, rfl⟩
  | [a, b], ht => simp at ht; obtain ⟨rfl, rfl, rfl, -⟩ := ht; exact ⟨rfl, rfl⟩
  | [a, b, c], ht => simp at ht; obtain ⟨rfl, rfl, rfl, rfl, -⟩ := ht; exact ⟨rfl, rfl⟩
  | a :: b :: c :: d :: r, ht =>
    have := congrArg List.length ht
    simp at this

theorem blk5 {W : World} {A B i : Nat} {Qc Rc : Array Value} {t t' : TypeId} (q z0 z1 z2 z3 : Value) (hQ : W.heap[A]? = some (.cells Qc t (0, 0))) (hR : W.heap[B]? = some (.cells Rc t' (0, 0))) (hs : Rc.size = 4) (hne : A ≠ B) :
    (((((W.setCell ⟨A, i, none⟩ q).setCell ⟨B, 0, none⟩ z0).setCell ⟨B, 1, none⟩ z1).setCell ⟨B, 2, none⟩ z2).setCell ⟨B, 3, none⟩ z3).heap[A]? = some (.cells (Qc.setIfInBounds i q) t (0, 0)) ∧
    (((((W.setCell ⟨A, i, none⟩ q).setCell ⟨B, 0, none⟩ z0).setCell ⟨B, 1, none⟩ z1).setCell ⟨B, 2, none⟩ z2).setCell ⟨B, 3, none⟩ z3).heap[B]? = some (.cells #[z0, z1, z2, z3] t' (0, 0)) ∧
    (∀ k, k ≠ A → k ≠ B → (((((W.setCell ⟨A, i, none⟩ q).setCell ⟨B, 0, none⟩ z0).setCell ⟨B, 1, none⟩ z1).setCell ⟨B, 2, none⟩ z2).setCell ⟨B, 3, none⟩ z3).heap[k]? = W.heap[k]?) ∧
    (((((W.setCell ⟨A, i, none⟩ q).setCell ⟨B, 0, none⟩ z0).setCell ⟨B, 1, none⟩ z1).setCell ⟨B, 2, none⟩ z2).setCell ⟨B, 3, none⟩ z3).heap.size = W.heap.size ∧
    KeepsOthers W (((((W.setCell ⟨A, i, none⟩ q).setCell ⟨B, 0, none⟩ z0).setCell ⟨B, 1, none⟩ z1).setCell ⟨B, 2, none⟩ z2).setCell ⟨B, 3, none⟩ z3) := by
  have h1 := block_set (i := i) q hQ
  have h2 := block_set_other (i := i) q hR hne
  refine ⟨?_, ?_, fun k h3 h4 => ?_, by simp [World.setCell], (((((KeepsOthers.setCell _ _ _).trans (KeepsOthers.setCell _ _ _)).trans (KeepsOthers.setCell _ _ _)).trans (KeepsOthers.setCell _ _ _)).trans (KeepsOthers.setCell _ _ _))⟩
  · exact block_set_other z3 (block_set_other z2 (block_set_other z1 (block_set_other z0 h1 (Ne.symm hne)) (Ne.symm hne)) (Ne.symm hne)) (Ne.symm hne)
  · have := block_set (i := 3) z3 (block_set (i := 2) z2 (block_set (i := 1) z1 (block_set (i := 0) z0 h2)))
    rw [this]
    match Rc, hs with
    | ⟨[r0, r1, r2, r3]⟩, _ => simp
  · rw [Below.heap_setCell _ _ _ _ h4, Below.heap_setCell _ _ _ _ h4, Below.heap_setCell _ _ _ _ h4, Below.heap_setCell _ _ _ _ h4, Below.heap_setCell _ _ _ _ h3]

theorem wpIn_calm {F : Fence} {n : Nat} {P : Program} {c : Code} {K : Act → World → Prop} {Q : Exit → Act → World → Prop} {a : Act} {w : World} (h : c.wpIn F n P (Exit.then K (fun _ _ _ => False)) a w) : c.wpIn F n P (Exit.then K Q) a w :=
  Go.wpIn_mono h (fun e a w hq => by cases e <;> first | exact hq | exact hq.elim)

theorem blkSame {W : World} {A : Nat} {t : TypeId} {q0 q1 q2 q3 : Value} (hQ : W.heap[A]? = some (.cells #[q0, q1, q2, q3] t (0, 0))) :
    ((((W.setCell ⟨A, 0, none⟩ q0).setCell ⟨A, 1, none⟩ q1).setCell ⟨A, 2, none⟩ q2).setCell ⟨A, 3, none⟩ q3).drew.heap[A]? = some (.cells #[q0, q1, q2, q3] t (0, 0)) ∧
    KeepsOthers W ((((W.setCell ⟨A, 0, none⟩ q0).setCell ⟨A, 1, none⟩ q1).setCell ⟨A, 2, none⟩ q2).setCell ⟨A, 3, none⟩ q3).drew := by
  refine ⟨?_, (((((KeepsOthers.setCell _ _ _).trans (KeepsOthers.setCell _ _ _)).trans (KeepsOthers.setCell _ _ _)).trans (KeepsOthers.setCell _ _ _)).trans (KeepsOthers.drew _))⟩
  rw [dr_blk, block_set (i := 3) q3 (block_set (i := 2) q2 (block_set (i := 1) q1 (block_set (i := 0) q0 hQ)))]
  simp

theorem step_eq {RI C pw te tq R v q z : Int} (h : RI * pw + te = tq * C + R) (h2 : R * 18446744073709551616 + v = q * C + z) : RI * (pw * 18446744073709551616) + (te * 18446744073709551616 + v) = (tq * 18446744073709551616 + q) * C + z := by
  have e1 : RI * (pw * 18446744073709551616) = RI * pw * 18446744073709551616 := by rw [Int.mul_assoc]
  have e2 : (tq * 18446744073709551616 + q) * C = tq * C * 18446744073709551616 + q * C := by rw [Int.add_mul, Int.mul_right_comm]
  rw [e1, e2]
  generalize RI * pw = A at *
  generalize tq * C = B at *
  generalize q * C = D at *
  omega

theorem div_end {N Q c k CC R : Int} (h1 : Hid (CC = c * 2 ^ k.toNat)) (h2 : N * 2 ^ k.toNat = Q * CC + R) (h3 : 0 ≤ R) (h4 : R < CC) : ∃ r, 0 ≤ r ∧ r < c ∧ N = Q * c + r ∧ (r = 0 ↔ R = 0) := by
  have h1 := h1.out
  have hT : (0 : Int) < 2 ^ k.toNat := Int.pow_pos (by omega)
  generalize (2 : Int) ^ k.toNat = T at *
  subst h1
  have e : R = (N - Q * c) * T := by rw [Int.sub_mul, h2, Int.mul_assoc]; omega
  have e1 : 0 ≤ N - Q * c := by
    by_cases c1 : 0 ≤ N - Q * c
    · exact c1
    · have : (N - Q * c) * T ≤ (-1) * T := Int.mul_le_mul_of_nonneg_right (by omega) (by omega)
      omega
  have e2 : N - Q * c < c := by
    apply Int.lt_of_mul_lt_mul_right (a := T) _ (by omega)
    rw [← e]; exact h4
  refine ⟨N - Q * c, e1, e2, by omega, ?_⟩
  constructor
  · intro h; rw [e, h]; omega
  · intro h
    rw [e] at h
    rcases Int.mul_eq_zero.1 h with h | h
    · exact h
    · omega

theorem keeps_below {W W' : World} (h : Below W.heap.size W W') : KeepsOthers W W' := by
  refine ⟨h.size, fun k o ho hc => ?_⟩
  rw [h.block k (Array.getElem?_eq_some_iff.1 ho).1]; exact ho
end Go.Proofs.Ytjhjgncnadhbhaa

/- num.divide. -/
namespace Go.Proofs.Ytjhjgncnadhbhaa
open Go.RowKit Go.Shelf
attribute [local go_sem] Oper.semAt_some

set_option maxRecDepth 100000 in
set_option maxHeartbeats 8000000 in
theorem divide_any (h0 h1 h2 h3 l0 l1 l2 l3 c0 c1 c2 c3 : Int) (hh : Lim h0 h1 h2 h3) (hl : Lim l0 l1 l2 l3) (hc : Lim c0 c1 c2 c3) (hlt : val h0 h1 h2 h3 < val c0 c1 c2 c3) (w : World) :
    Calls Try.prog 87 #[.agg #[.int .u64 h0, .int .u64 h1, .int .u64 h2, .int .u64 h3], .agg #[.int .u64 l0, .int .u64 l1, .int .u64 l2, .int .u64 l3], .agg #[.int .u64 c0, .int .u64 c1, .int .u64 c2, .int .u64 c3]] w fun e w' =>
      ∃ q0 q1 q2 q3 r : Int, e = .returned (.tuple #[.agg #[.int .u64 q0, .int .u64 q1, .int .u64 q2, .int .u64 q3], .bool (decide (r = 0))]) ∧ Lim q0 q1 q2 q3 ∧ 0 ≤ r ∧ r < val c0 c1 c2 c3 ∧
        Hid (val h0 h1 h2 h3 * 115792089237316195423570985008687907853269984665640564039457584007913129639936 + val l0 l1 l2 l3 = val q0 q1 q2 q3 * val c0 c1 c2 c3 + r) ∧ Below w.heap.size w w' := by
  refine (callsIn_wide (n := 8)).1 ?_
  have hpad := pads
  have ix := ix_num
  have heq := eq_num
  have hfn : ∀ f, Fence.wide.fn f := fun _ => trivial
  have hcp : 0 < val c0 c1 c2 c3 := by have := val_lo hh; omega
  have hlt' : Hid _ := hlt
  clear hlt
  refine callsIn_of_wp_marks Try.func87 rfl trivial ?_ rfl
  simp only [Try.ntmps87, List.size_toArray, List.length_cons, List.length_nil, Nat.reduceAdd, Nat.reduceSub, Array.replicate_succ, Array.replicate_zero, List.push_toArray, List.append_toArray, List.nil_append, List.cons_append]
  gi_wp2_with (first
    | (gi_at_call 102; with_reducible refine (callsIn_wide.2 (noughts_any c0 c1 c2 c3 hc hcp _)).mono ?_; rintro e w1 ⟨k, rfl, hk0, hk1, hkn, hb⟩; obtain ⟨m1, g1, d1, hm1, rfl⟩ := pad_of hb; clear hb; (try simp [pad_size] at hm1); have st1_w := sz4 (n := w.heap.size) (m := m1) (by omega))
    | (gi_at_call 103; with_reducible refine (callsIn_wide.2 (shl_any h0 h1 h2 h3 k hh hk0 hk1 _)).mono ?_; rintro e w1 ⟨a0, a1, a2, a3, rfl, hal, s1, hb⟩; obtain ⟨m2, g2, d2, hm2, rfl⟩ := pad_of (bt (bp (Below.refl _ _) (by first | omega | (simp [pad_size]; omega)) _ _) hb); clear hb; (try simp [pad_size] at hm2); have st2_w := sz4 (n := w.heap.size) (m := m2) (by omega); clear st1_w hm1)
    | (gi_at_call 104; with_reducible refine (callsIn_wide.2 (shr_any l0 l1 l2 l3 (256 - k) hl (by omega) (by omega) _)).mono ?_; rintro e w1 ⟨b0, b1, b2, b3, rfl, hbl, s2, hb⟩; obtain ⟨m3, g3, d3, hm3, rfl⟩ := pad_of hb; clear hb; (try simp [pad_size] at hm3); have st3_w := sz4 (n := w.heap.size) (m := m3) (by omega); have st3_2 := sz1 (n := m2) (m := m3) (by omega)))
  obtain ⟨pm, pl⟩ := div_pre (val_lo hh) ⟨val_lo hl, val_hi hl⟩ hlt'.out hk0 hk1 hkn (val_lo hal) (val_lo hbl) s1 s2
  obtain ⟨⟨o0, u0⟩, ⟨o1, u1⟩, ⟨o2, u2⟩, ⟨o3, u3⟩⟩ := or4 hal hbl hk0 hk1 pm pl
  clear pm pl
  apply wpIn_loop_rounds 5
  simp only [Code.roundsIn]
  gi_wp2_with (first
    | (gi_at_call 103; with_reducible refine (callsIn_wide.2 (shl_any c0 c1 c2 c3 k hc hk0 hk1 _)).mono ?_; rintro e w1 ⟨cc0, cc1, cc2, cc3, rfl, hccl, s3, hb⟩; obtain ⟨m4, g4, d4, hm4, rfl⟩ := pad_of (bt (bp (Below.refl _ _) (by first | omega | (simp [pad_size]; omega)) _ _) hb); clear hb; (try simp [pad_size] at hm4); have st4_w := sz4 (n := w.heap.size) (m := m4) (by omega); have st4_2 := sz1 (n := m2) (m := m4) (by omega); clear st3_w hm3; clear st3_2)
    | (gi_at_call 103; with_reducible refine (callsIn_wide.2 (shl_any l0 l1 l2 l3 k hl hk0 hk1 _)).mono ?_; rintro e w1 ⟨e0, e1, e2, e3, rfl, hel, s4, hb⟩; obtain ⟨m5, g5, d5, hm5, rfl⟩ := pad_of (bt (bp (Below.refl _ _) (by first | omega | (simp [pad_size]; omega)) _ _) hb); clear hb; (try simp [pad_size] at hm5); have st5_w := sz4 (n := w.heap.size) (m := m5) (by omega); have st5_2 := sz1 (n := m2) (m := m5) (by omega); clear st4_w hm4; clear st4_2)
    | (gi_at_call 100; refine (callsIn_wide.2 (down_any _ _ _ _ _)).mono ?_; rintro e w' ⟨rfl, rfl⟩))
  obtain ⟨-, -, v3, v4, v5, v6⟩ := div_setup (val_lo hh) ⟨val_lo hl, val_hi hl⟩ hlt'.out hk0 hk1 hkn (val_lo hal) (val_lo hbl) ⟨val_lo hccl, val_hi hccl⟩ ⟨val_lo hel, val_hi hel⟩ s1 s2 s3 s4
  have hC3 : 9223372036854775808 ≤ cc3 := by unfold val at v3; unfold Lim at hccl; omega
  have hRl : Lim (a0 + b0) (a1 + b1) (a2 + b2) (a3 + b3) := by unfold Lim at hal hbl ⊢; omega
  have hRv : Hid (val (a0 + b0) (a1 + b1) (a2 + b2) (a3 + b3) = val a0 a1 a2 a3 + val b0 b1 b2 b3) := by unfold Hid val; omega
  have hRc : val (a0 + b0) (a1 + b1) (a2 + b2) (a3 + b3) < val cc0 cc1 cc2 cc3 := by rw [hRv.out]; exact v4
  clear s1 s2 s3 s4 v4 o0 o1 o2 o3 u0 u1 u2 u3
  refine wpIn_rangeFunc_ownF rfl (by omega) (gf := 109) (lb := #[.pointer (some ⟨m5, 0, none⟩)]) rfl trivial (enters_of Try.func109 (by kernel_rfl) rfl)
    (down_stops 7 (by omega) m5 hel 64 _ (by (repeat (first | (with_reducible exact al_at (by simp [pad_size])) | (with_reducible refine Eq.trans (dr_blk _ _) ?_) | (with_reducible refine Eq.trans (al_old (by first | omega | (simp [pad_size]; done) | (simp [pad_size]; omega))) ?_) | (with_reducible refine Eq.trans (pad_block (by first | omega | (simp [pad_size]; done) | (simp [pad_size]; omega)) (by first | omega | (simp [pad_size]; done) | (simp [pad_size]; omega))) ?_) | (with_reducible assumption))))) (fun h k => Eq.trans k h) (fun W l o o' hl h _ _ => ?hkb) (Below.refl _ _) (fun _ => rfl)
    (fun pre W => (∃ Q0 Q1 Q2 Q3 R0 R1 R2 R3 : Int, W.heap[w.heap.size + 1 + 1 + 1]? = some (.cells #[.int .u64 Q0, .int .u64 Q1, .int .u64 Q2, .int .u64 Q3] 64 (0, 0)) ∧ W.heap[m2]? = some (.cells #[.int .u64 R0, .int .u64 R1, .int .u64 R2, .int .u64 R3] 64 (0, 0)) ∧ W.heap[w.heap.size + 1 + 1]? = some (.cells #[.int .u64 cc0, .int .u64 cc1, .int .u64 cc2, .int .u64 cc3] 64 (0, 0)) ∧ W.heap[m5]? = some (.cells #[.int .u64 e0, .int .u64 e1, .int .u64 e2, .int .u64 e3] 64 (0, 0)) ∧ Lim Q0 Q1 Q2 Q3 ∧ Lim R0 R1 R2 R3 ∧ val R0 R1 R2 R3 < val cc0 cc1 cc2 cc3 ∧
      (pre <+: limbsDown hel → val (a0 + b0) (a1 + b1) (a2 + b2) (a3 + b3) * powM pre.length + topn pre.length e0 e1 e2 e3 = topn pre.length Q0 Q1 Q2 Q3 * val cc0 cc1 cc2 cc3 + val R0 R1 R2 R3)) ∧ Below w.heap.size w W)
    (fun _ _ _ => False)
    (OwnFrom.and (Own.from (fun s A B row hs hg hr => by obtain ⟨Q0, Q1, Q2, Q3, R0, R1, R2, R3, p1, p2, p3, p4, p5⟩ := hs; exact ⟨Q0, Q1, Q2, Q3, R0, R1, R2, R3, block_kept p1 hg hr, block_kept p2 hg hr, block_kept p3 hg hr, block_kept p4 hg hr, p5⟩) _) (ownFrom_below (Nat.le_refl _) (by simp [pad_size]; omega)))
    (fun _ _ _ _ _ hs _ _ => hs)
    ⟨⟨0, 0, 0, 0, a0 + b0, a1 + b1, a2 + b2, a3 + b3, by (repeat (first | (with_reducible exact al_at (by simp [pad_size])) | (with_reducible refine Eq.trans (dr_blk _ _) ?_) | (with_reducible refine Eq.trans (al_old (by first | omega | (simp [pad_size]; done) | (simp [pad_size]; omega))) ?_) | (with_reducible refine Eq.trans (pad_block (by first | omega | (simp [pad_size]; done) | (simp [pad_size]; omega)) (by first | omega | (simp [pad_size]; done) | (simp [pad_size]; omega))) ?_) | (with_reducible assumption))), by (repeat (first | (with_reducible exact al_at (by simp [pad_size])) | (with_reducible refine Eq.trans (dr_blk _ _) ?_) | (with_reducible refine Eq.trans (al_old (by first | omega | (simp [pad_size]; done) | (simp [pad_size]; omega))) ?_) | (with_reducible refine Eq.trans (pad_block (by first | omega | (simp [pad_size]; done) | (simp [pad_size]; omega)) (by first | omega | (simp [pad_size]; done) | (simp [pad_size]; omega))) ?_) | (with_reducible assumption))), by (repeat (first | (with_reducible exact al_at (by simp [pad_size])) | (with_reducible refine Eq.trans (dr_blk _ _) ?_) | (with_reducible refine Eq.trans (al_old (by first | omega | (simp [pad_size]; done) | (simp [pad_size]; omega))) ?_) | (with_reducible refine Eq.trans (pad_block (by first | omega | (simp [pad_size]; done) | (simp [pad_size]; omega)) (by first | omega | (simp [pad_size]; done) | (simp [pad_size]; omega))) ?_) | (with_reducible assumption))), by (repeat (first | (with_reducible exact al_at (by simp [pad_size])) | (with_reducible refine Eq.trans (dr_blk _ _) ?_) | (with_reducible refine Eq.trans (al_old (by first | omega | (simp [pad_size]; done) | (simp [pad_size]; omega))) ?_) | (with_reducible refine Eq.trans (pad_block (by first | omega | (simp [pad_size]; done) | (simp [pad_size]; omega)) (by first | omega | (simp [pad_size]; done) | (simp [pad_size]; omega))) ?_) | (with_reducible assumption))), lim_zero, hRl, hRc, fun _ => by show _ * 1 + 0 = 0 * _ + _; omega⟩, by (repeat (first | (with_reducible exact Below.refl _ _) | (with_reducible assumption) | (with_reducible apply bd) | (with_reducible apply ba) | (with_reducible refine bp ?_ (by first | omega | (simp [pad_size]; done) | (simp [pad_size]; omega)) _ _) | (with_reducible refine bs ?_ (by first | omega | (simp [pad_size]; done) | (simp [pad_size]; omega)) _) | (with_reducible refine bt ?_ (by assumption))))⟩
    (fun x => { tmps := #[.agg #[.int .u64 h0, .int .u64 h1, .int .u64 h2, .int .u64 h3], .agg #[.int .u64 l0, .int .u64 l1, .int .u64 l2, .int .u64 l3], .agg #[.int .u64 c0, .int .u64 c1, .int .u64 c2, .int .u64 c3], .pointer (some ⟨w.heap.size, 0, none⟩), .pointer (some ⟨w.heap.size + 1, 0, none⟩), .pointer (some ⟨w.heap.size + 1 + 1, 0, none⟩), .pointer (some ⟨w.heap.size + 1 + 1 + 1, 0, none⟩), .bool false, .int .i64 k, .pointer (some ⟨m2, 0, none⟩), .int .i64 3, .int .u64 b3, .int .i64 (x.1.1 : Int), .int .u64 x.1.2, .agg #[.int .u64 c0, .int .u64 c1, .int .u64 c2, .int .u64 c3], .int .i64 k, .agg #[.int .u64 h0, .int .u64 h1, .int .u64 h2, .int .u64 h3], .int .i64 k, .agg #[.int .u64 a0, .int .u64 a1, .int .u64 a2, .int .u64 a3], .agg #[.int .u64 l0, .int .u64 l1, .int .u64 l2, .int .u64 l3], .int .i64 k, .int .i64 (256 - k), .agg #[.int .u64 b0, .int .u64 b1, .int .u64 b2, .int .u64 b3], .int .i64 4, .bool false, .int .i64 3, .int .u64 b3, .int .i64 3, .pointer (some ⟨m2, 3, none⟩), .int .u64 a3, .int .u64 b3, .int .u64 (a3 + b3), .pointer (some ⟨m2, 3, none⟩), .int .i64 4, .agg #[.int .u64 c0, .int .u64 c1, .int .u64 c2, .int .u64 c3], .int .i64 k, .agg #[.int .u64 cc0, .int .u64 cc1, .int .u64 cc2, .int .u64 cc3], .agg #[.int .u64 l0, .int .u64 l1, .int .u64 l2, .int .u64 l3], .int .i64 k, .agg #[.int .u64 e0, .int .u64 e1, .int .u64 e2, .int .u64 e3], .func (.func 109) #[] #[.pointer (some ⟨m5, 0, none⟩)], .int .i64 (x.1.1 : Int), .int .u64 x.1.2, undef, undef, undef, undef, undef, undef, undef, undef, undef, undef, undef, undef, undef], defers := [] }) ?assign ?body ?done ?stop
  case hkb =>
    unfold KpB
    rw [World.putObj_heap_other]
    intro e; simp [pad_size] at hl; omega
  case assign =>
    intro l x W K hK
    gi_wp2
    exact hK
  case body =>
    rintro l pre ⟨⟨i, v⟩, hi, hv⟩ W ⟨⟨Q0, Q1, Q2, Q3, R0, R1, R2, R3, p1, p2, p3, p4, hQ, hR, hRlt, hq⟩, hB⟩ hlen
    obtain ⟨cA, fA⟩ := cells_of_block p1
    obtain ⟨cB, fB⟩ := cells_of_block p2
    obtain ⟨cC, fC⟩ := cells_of_block p3
    have lA := (Array.getElem?_eq_some_iff.1 p1).1
    have lB := (Array.getElem?_eq_some_iff.1 p2).1
    have lC := (Array.getElem?_eq_some_iff.1 p3).1
    have lD := (Array.getElem?_eq_some_iff.1 p4).1
    have hq : Hid _ := hq
    dsimp only at hi hv
    rcases (show i = 0 ∨ i = 1 ∨ i = 2 ∨ i = 3 by omega) with rfl | rfl | rfl | rfl
    all_goals
      gi_wp2_with (gi_at_call 105; refine (CallsIn.inRound l (callsIn_wide.2 (part_any R0 R1 R2 R3 v cc0 cc1 cc2 cc3 hR hv hccl hC3 hRlt _))).mono ?_; rintro e w1 ⟨q, z0, z1, z2, z3, rfl, hq1, hz, hqz, hb⟩; obtain ⟨m6, g6, d6, hm6, rfl⟩ := pad_of hb; clear hb; have lA6 : w.heap.size + 1 + 1 + 1 < m6 := (by omega); have lB6 : m2 < m6 := (by omega); have lC6 : w.heap.size + 1 + 1 < m6 := (by omega))
    · obtain ⟨x1, x2, x3, x4, x5⟩ := blk5 (i := 0) (.int .u64 q) (.int .u64 z0) (.int .u64 z1) (.int .u64 z2) (.int .u64 z3) p1 p2 rfl (by omega)
      refine ⟨x5.trans (keeps_below (bp (Below.refl _ _) (by rw [x4]; exact hm6) _ _)), (pad_block (by rw [x4]; exact lD) (by omega)).trans (x3 m5 (by omega) (by omega)), ⟨q, Q1, Q2, Q3, z0, z1, z2, z3, (pad_block (by rw [x4]; exact lA) lA6).trans x1, (pad_block (by rw [x4]; exact lB) lB6).trans x2, (pad_block (by rw [x4]; exact lC) lC6).trans ((x3 _ (by omega) (by omega)).trans p3), (pad_block (by rw [x4]; exact lD) (by omega)).trans ((x3 _ (by omega) (by omega)).trans p4), ⟨hq1, hQ.2.1, hQ.2.2.1, hQ.2.2.2⟩, hz, hqz.out.2, fun hpre => ?_⟩, ?_⟩
      · obtain ⟨hp, hn', hval⟩ := pref_last hel hpre
        have hn : pre.length = 3 := hn'
        have hq0 := hq.out hp
        rw [hn] at hq0
        rw [List.length_append, hn]
        have hve : v = e0 := hval
        have := step_eq hq0 (hve ▸ hqz.out.1)
        refine Eq.trans ?_ (this.trans ?_)
        · rw [← hve]; simp only [powM, topn, List.length_cons, List.length_nil]; omega
        · simp only [topn, List.length_cons, List.length_nil, Int.zero_mul, Int.zero_add]
      · (repeat (first | (with_reducible exact Below.refl _ _) | (with_reducible assumption) | (with_reducible apply bd) | (with_reducible apply ba) | (with_reducible refine bp ?_ (by first | omega | (simp [pad_size]; done) | (simp [pad_size]; omega)) _ _) | (with_reducible refine bs ?_ (by first | omega | (simp [pad_size]; done) | (simp [pad_size]; omega)) _) | (with_reducible refine bt ?_ (by assumption))))
    · obtain ⟨x1, x2, x3, x4, x5⟩ := blk5 (i := 1) (.int .u64 q) (.int .u64 z0) (.int .u64 z1) (.int .u64 z2) (.int .u64 z3) p1 p2 rfl (by omega)
      refine ⟨x5.trans (keeps_below (bp (Below.refl _ _) (by rw [x4]; exact hm6) _ _)), (pad_block (by rw [x4]; exact lD) (by omega)).trans (x3 m5 (by omega) (by omega)), ⟨Q0, q, Q2, Q3, z0, z1, z2, z3, (pad_block (by rw [x4]; exact lA) lA6).trans x1, (pad_block (by rw [x4]; exact lB) lB6).trans x2, (pad_block (by rw [x4]; exact lC) lC6).trans ((x3 _ (by omega) (by omega)).trans p3), (pad_block (by rw [x4]; exact lD) (by omega)).trans ((x3 _ (by omega) (by omega)).trans p4), ⟨hQ.1, hq1, hQ.2.2.1, hQ.2.2.2⟩, hz, hqz.out.2, fun hpre => ?_⟩, ?_⟩
      · obtain ⟨hp, hn', hval⟩ := pref_last hel hpre
        have hn : pre.length = 2 := hn'
        have hq0 := hq.out hp
        rw [hn] at hq0
        rw [List.length_append, hn]
        have hve : v = e1 := hval
        have := step_eq hq0 (hve ▸ hqz.out.1)
        refine Eq.trans ?_ (this.trans ?_)
        · rw [← hve]; simp only [powM, topn, List.length_cons, List.length_nil]; omega
        · simp only [topn, List.length_cons, List.length_nil, Int.zero_mul, Int.zero_add]
      · (repeat (first | (with_reducible exact Below.refl _ _) | (with_reducible assumption) | (with_reducible apply bd) | (with_reducible apply ba) | (with_reducible refine bp ?_ (by first | omega | (simp [pad_size]; done) | (simp [pad_size]; omega)) _ _) | (with_reducible refine bs ?_ (by first | omega | (simp [pad_size]; done) | (simp [pad_size]; omega)) _) | (with_reducible refine bt ?_ (by assumption))))
    · obtain ⟨x1, x2, x3, x4, x5⟩ := blk5 (i := 2) (.int .u64 q) (.int .u64 z0) (.int .u64 z1) (.int .u64 z2) (.int .u64 z3) p1 p2 rfl (by omega)
      refine ⟨x5.trans (keeps_below (bp (Below.refl _ _) (by rw [x4]; exact hm6) _ _)), (pad_block (by rw [x4]; exact lD) (by omega)).trans (x3 m5 (by omega) (by omega)), ⟨Q0, Q1, q, Q3, z0, z1, z2, z3, (pad_block (by rw [x4]; exact lA) lA6).trans x1, (pad_block (by rw [x4]; exact lB) lB6).trans x2, (pad_block (by rw [x4]; exact lC) lC6).trans ((x3 _ (by omega) (by omega)).trans p3), (pad_block (by rw [x4]; exact lD) (by omega)).trans ((x3 _ (by omega) (by omega)).trans p4), ⟨hQ.1, hQ.2.1, hq1, hQ.2.2.2⟩, hz, hqz.out.2, fun hpre => ?_⟩, ?_⟩
      · obtain ⟨hp, hn', hval⟩ := pref_last hel hpre
        have hn : pre.length = 1 := hn'
        have hq0 := hq.out hp
        rw [hn] at hq0
        rw [List.length_append, hn]
        have hve : v = e2 := hval
        have := step_eq hq0 (hve ▸ hqz.out.1)
        refine Eq.trans ?_ (this.trans ?_)
        · rw [← hve]; simp only [powM, topn, List.length_cons, List.length_nil]; omega
        · simp only [topn, List.length_cons, List.length_nil, Int.zero_mul, Int.zero_add]
      · (repeat (first | (with_reducible exact Below.refl _ _) | (with_reducible assumption) | (with_reducible apply bd) | (with_reducible apply ba) | (with_reducible refine bp ?_ (by first | omega | (simp [pad_size]; done) | (simp [pad_size]; omega)) _ _) | (with_reducible refine bs ?_ (by first | omega | (simp [pad_size]; done) | (simp [pad_size]; omega)) _) | (with_reducible refine bt ?_ (by assumption))))
    · obtain ⟨x1, x2, x3, x4, x5⟩ := blk5 (i := 3) (.int .u64 q) (.int .u64 z0) (.int .u64 z1) (.int .u64 z2) (.int .u64 z3) p1 p2 rfl (by omega)
      refine ⟨x5.trans (keeps_below (bp (Below.refl _ _) (by rw [x4]; exact hm6) _ _)), (pad_block (by rw [x4]; exact lD) (by omega)).trans (x3 m5 (by omega) (by omega)), ⟨Q0, Q1, Q2, q, z0, z1, z2, z3, (pad_block (by rw [x4]; exact lA) lA6).trans x1, (pad_block (by rw [x4]; exact lB) lB6).trans x2, (pad_block (by rw [x4]; exact lC) lC6).trans ((x3 _ (by omega) (by omega)).trans p3), (pad_block (by rw [x4]; exact lD) (by omega)).trans ((x3 _ (by omega) (by omega)).trans p4), ⟨hQ.1, hQ.2.1, hQ.2.2.1, hq1⟩, hz, hqz.out.2, fun hpre => ?_⟩, ?_⟩
      · obtain ⟨hp, hn', hval⟩ := pref_last hel hpre
        have hn : pre.length = 0 := hn'
        have hq0 := hq.out hp
        rw [hn] at hq0
        rw [List.length_append, hn]
        have hve : v = e3 := hval
        have := step_eq hq0 (hve ▸ hqz.out.1)
        refine Eq.trans ?_ (this.trans ?_)
        · rw [← hve]; simp only [powM, topn, List.length_cons, List.length_nil]; omega
        · simp only [topn, List.length_cons, List.length_nil, Int.zero_mul, Int.zero_add]
      · (repeat (first | (with_reducible exact Below.refl _ _) | (with_reducible assumption) | (with_reducible apply bd) | (with_reducible apply ba) | (with_reducible refine bp ?_ (by first | omega | (simp [pad_size]; done) | (simp [pad_size]; omega)) _ _) | (with_reducible refine bs ?_ (by first | omega | (simp [pad_size]; done) | (simp [pad_size]; omega)) _) | (with_reducible refine bt ?_ (by assumption))))
  case done =>
    rintro D ys W hD rfl ⟨⟨Q0, Q1, Q2, Q3, R0, R1, R2, R3, p1, p2, p3, p4, hQ, hR, hRlt, hq⟩, hB⟩ hK
    have hmx : Try.prog.follows .mixedOrders = true := by kernel_rfl
    obtain ⟨cA, fA⟩ := cells_of_block p1
    obtain ⟨cB, fB⟩ := cells_of_block p2
    have hq : Hid _ := hq
    gi_wp2
    apply wpIn_calm
    gi_region_with_o (fail)
    all_goals gi_wp2
    all_goals
      obtain ⟨y1, y2⟩ := blkSame p1
      have hK' := y2.same D _ hK rfl
      refine ⟨by simp [Act.put], .inl ⟨_, _, rfl, run_takeDeferred hK', ?_⟩⟩
      have hb3 := putObj_block (o'' := .deferred none) y1 hK' (by simp)
      obtain ⟨c3, f3⟩ := cells_of_block hb3
      have hq4 := hq.out (List.prefix_refl _)
      have e4 : (limbsDown hel).length = 4 := rfl
      rw [e4, topn4, topn4, hRv.out] at hq4
      obtain ⟨r, r0, r1, r2, r3⟩ := div_end v5 (v6.out.trans hq4) (val_lo hR) hRlt
      refine ⟨.tuple #[.agg #[.int .u64 Q0, .int .u64 Q1, .int .u64 Q2, .int .u64 Q3], .bool (eq4 R0 R1 R2 R3 0 0 0 0)], ?_, Q0, Q1, Q2, Q3, r, ?_, hQ, r0, r1, r2, ?_⟩
      · simp [results, Try.results87, go_sem, c3, Act.put]
      · rw [eq4_zero hR, decide_eq_decide.2 r3]
      · refine Below.trans ?_ (belowK_b (w := w) (Nat.le_refl _) _ D _ _ (by simp [pad_size] at hD; omega) hK' rfl rfl)
        (repeat (first | (with_reducible exact Below.refl _ _) | (with_reducible assumption) | (with_reducible apply bd) | (with_reducible apply ba) | (with_reducible refine bp ?_ (by first | omega | (simp [pad_size]; done) | (simp [pad_size]; omega)) _ _) | (with_reducible refine bs ?_ (by first | omega | (simp [pad_size]; done) | (simp [pad_size]; omega)) _) | (with_reducible refine bt ?_ (by assumption))))
  case stop =>
    rintro D c pre W hD hpre h hK
    exact h.elim
end Go.Proofs.Ytjhjgncnadhbhaa

/- num.MulDiv. -/
namespace Go.Proofs.Ytjhjgncnadhbhaa
open Go.RowKit

def upI (up : Bool) (q r : Int) : Int := if up = true ∧ r ≠ 0 then q + 1 else q
def MdS (a b c : Int) (up : Bool) (z e : Int) : Prop := (c = 0 ∧ e = 1 ∧ z = 0) ∨
  (0 < c ∧ ∃ q r : Int, a * b = q * c + r ∧ 0 ≤ r ∧ r < c ∧ 0 ≤ q ∧ ((upI up q r < 115792089237316195423570985008687907853269984665640564039457584007913129639936 ∧ e = 0 ∧ z = upI up q r) ∨ (115792089237316195423570985008687907853269984665640564039457584007913129639936 ≤ upI up q r ∧ e = 2 ∧ z = 0)))

set_option maxHeartbeats 2000000 in
theorem muldiv_zero (x0 x1 x2 x3 y0 y1 y2 y3 c0 c1 c2 c3 : Int) (up : Bool) (hq : eq4 c0 c1 c2 c3 0 0 0 0 = true) (w : World) :
    Calls Try.prog 64 #[.agg #[.int .u64 x0, .int .u64 x1, .int .u64 x2, .int .u64 x3], .agg #[.int .u64 y0, .int .u64 y1, .int .u64 y2, .int .u64 y3], .agg #[.int .u64 c0, .int .u64 c1, .int .u64 c2, .int .u64 c3], .bool up] w fun e w' =>
      e = .returned (.tuple #[.agg #[.int .u64 0, .int .u64 0, .int .u64 0, .int .u64 0], .int .i64 1]) ∧ Below w.heap.size w w' := by
  have heq := eq_num
  go_enter Try.func64, Try.ntmps64
  go_wp2
  refine bodyPost_ret (v := .tuple #[.agg #[.int .u64 0, .int .u64 0, .int .u64 0, .int .u64 0], .int .i64 1]) (by simp only [results, Try.results64]; go_simp) rfl ⟨rfl, ?_⟩
  (repeat (first | (with_reducible exact Below.refl _ _) | (with_reducible assumption) | (with_reducible apply bd) | (with_reducible apply ba) | (with_reducible refine bp ?_ (by first | omega | (simp [pad_size]; done) | (simp [pad_size]; omega)) _ _) | (with_reducible refine bs ?_ (by first | omega | (simp [pad_size]; done) | (simp [pad_size]; omega)) _) | (with_reducible refine bt ?_ (by assumption))))

theorem md_over {a b c h l : Int} {up : Bool} (hc : 0 < c) (ha : 0 ≤ a) (hb : 0 ≤ b) (hl : 0 ≤ l) (e : Hid (a * b = h * 115792089237316195423570985008687907853269984665640564039457584007913129639936 + l)) (hh : c ≤ h) : MdS a b c up 0 2 := by
  have e := e.out
  have h1 := Int.emod_add_mul_ediv (a * b) c
  have h2 := Int.emod_nonneg (a * b) (show c ≠ 0 by omega)
  have h3 := Int.emod_lt_of_pos (a * b) hc
  have hp : 0 ≤ a * b := Int.mul_nonneg ha hb
  have h4 : 0 ≤ a * b / c := Int.ediv_nonneg hp (by omega)
  have h5 : 115792089237316195423570985008687907853269984665640564039457584007913129639936 ≤ a * b / c := by
    apply (Int.le_ediv_iff_mul_le hc).2
    rw [e]
    omega
  refine .inr ⟨hc, a * b / c, a * b % c, by rw [Int.mul_comm (a * b / c) c]; omega, h2, h3, h4, .inr ⟨?_, rfl, rfl⟩⟩
  unfold upI; split <;> omega

theorem cmp_cases (a b : Int) : (a < b ∧ ¬ 0 ≤ cmpI a b) ∨ (b ≤ a ∧ 0 ≤ cmpI a b) := by
  unfold cmpI
  by_cases h : a < b
  · left; simp [h]
  · right; refine ⟨by omega, ?_⟩
    rw [if_neg h]; split <;> omega

theorem md_done {a b c h l q r : Int} {up : Bool} (hc : 0 < c) (e : Hid (a * b = h * 115792089237316195423570985008687907853269984665640564039457584007913129639936 + l)) (e2 : Hid (h * 115792089237316195423570985008687907853269984665640564039457584007913129639936 + l = q * c + r)) (h0 : 0 ≤ r) (h1 : r < c) (hq0 : 0 ≤ q) (hq1 : q < 115792089237316195423570985008687907853269984665640564039457584007913129639936) (hz : upI up q r = q) :
    MdS a b c up q 0 := by
  refine .inr ⟨hc, q, r, e.out.trans e2.out, h0, h1, hq0, .inl ⟨by rw [hz]; exact hq1, rfl, hz.symm⟩⟩

theorem md_up {a b c h l q r z e' : Int} (hc : 0 < c) (e : Hid (a * b = h * 115792089237316195423570985008687907853269984665640564039457584007913129639936 + l)) (e2 : Hid (h * 115792089237316195423570985008687907853269984665640564039457584007913129639936 + l = q * c + r)) (h0 : 0 ≤ r) (h1 : r < c) (hr : r ≠ 0) (hq0 : 0 ≤ q) (hs : AddS q 1 z e') :
    MdS a b c true z e' := by
  have hu : upI true q r = q + 1 := by simp [upI, hr]
  refine .inr ⟨hc, q, r, e.out.trans e2.out, h0, h1, hq0, ?_⟩
  rw [hu]
  exact hs

set_option maxHeartbeats 4000000 in
theorem muldiv_pos (x0 x1 x2 x3 y0 y1 y2 y3 c0 c1 c2 c3 : Int) (up : Bool) (hx : Lim x0 x1 x2 x3) (hy : Lim y0 y1 y2 y3) (hc : Lim c0 c1 c2 c3) (hq : eq4 c0 c1 c2 c3 0 0 0 0 = false) (w : World) :
    Calls Try.prog 64 #[.agg #[.int .u64 x0, .int .u64 x1, .int .u64 x2, .int .u64 x3], .agg #[.int .u64 y0, .int .u64 y1, .int .u64 y2, .int .u64 y3], .agg #[.int .u64 c0, .int .u64 c1, .int .u64 c2, .int .u64 c3], .bool up] w fun e w' =>
      ∃ z0 z1 z2 z3 e' : Int, e = .returned (.tuple #[.agg #[.int .u64 z0, .int .u64 z1, .int .u64 z2, .int .u64 z3], .int .i64 e']) ∧ Lim z0 z1 z2 z3 ∧ MdS (val x0 x1 x2 x3) (val y0 y1 y2 y3) (val c0 c1 c2 c3) up (val z0 z1 z2 z3) e' ∧ Below w.heap.size w w' := by
  have heq := eq_num
  have hpad := pads
  have hcp : 0 < val c0 c1 c2 c3 := by
    have h1 := val_lo hc
    rw [eq4_zero hc, decide_eq_false_iff_not] at hq; omega
  go_enter Try.func64, Try.ntmps64
  have hnot : ∀ (x : Bool) (w : World), (Op.unary .not (.bool x)).run Try.prog w = .ok (.bool (!x)) w := fun _ _ => rfl
  go_wp2_with (first
    | (go_at_call 85; refine (product_any _ _ _ _ _ _ _ _ hx hy _).mono ?_; rintro e w1 ⟨h0, h1, h2, h3, l0, l1, l2, l3, rfl, hh, hl, he, hb⟩; obtain ⟨m1, g1, d1, hm1, rfl⟩ := pad_of hb; clear hb; (try simp [pad_size] at hm1); have st1_w := sz4 (n := w.heap.size) (m := m1) (by omega))
    | (go_at_call 86; refine (cmp_any h0 h1 h2 h3 c0 c1 c2 c3 hh hc _).mono ?_; rintro e w1 ⟨rfl, hb⟩; obtain ⟨m2, g2, d2, hm2, rfl⟩ := pad_of hb; clear hb; (try simp [pad_size] at hm2); have st2_w := sz4 (n := w.heap.size) (m := m2) (by omega); have st2_1 := sz2 (n := m1) (m := m2) (by omega); rcases cmp_cases (val h0 h1 h2 h3) (val c0 c1 c2 c3) with ⟨hlt, hcm⟩ | ⟨hge, hcm⟩)
    | (go_at_call 87; refine (divide_any h0 h1 h2 h3 l0 l1 l2 l3 c0 c1 c2 c3 hh hl hc hlt _).mono ?_; rintro e w1 ⟨q0, q1, q2, q3, r, rfl, hql, hr0, hr1, hqe, hb⟩; obtain ⟨m3, g3, d3, hm3, rfl⟩ := pad_of (bt (bp (Below.refl _ _) (by first | omega | (simp [pad_size]; omega)) _ _) hb); clear hb; (try simp [pad_size] at hm3); have st3_w := sz4 (n := w.heap.size) (m := m3) (by omega); have st3_1 := sz2 (n := m1) (m := m3) (by omega); clear st2_w hm2; clear st2_1; rcases (show r = 0 ∨ r ≠ 0 by omega) with rfl | hrn <;> cases up))
  · refine bodyPost_ret (v := .tuple #[.agg #[.int .u64 q0, .int .u64 q1, .int .u64 q2, .int .u64 q3], .int .i64 0]) (by simp only [results, Try.results64]; go_simp) rfl ⟨q0, q1, q2, q3, 0, rfl, hql, md_done hcp he hqe hr0 hr1 (val_lo hql) (val_hi hql) (by simp [upI]), ?_⟩
    (repeat (first | (with_reducible exact Below.refl _ _) | (with_reducible assumption) | (with_reducible apply bd) | (with_reducible apply ba) | (with_reducible refine bp ?_ (by first | omega | (simp [pad_size]; done) | (simp [pad_size]; omega)) _ _) | (with_reducible refine bs ?_ (by first | omega | (simp [pad_size]; done) | (simp [pad_size]; omega)) _) | (with_reducible refine bt ?_ (by assumption))))
  · refine bodyPost_ret (v := .tuple #[.agg #[.int .u64 q0, .int .u64 q1, .int .u64 q2, .int .u64 q3], .int .i64 0]) (by simp only [results, Try.results64]; go_simp) rfl ⟨q0, q1, q2, q3, 0, rfl, hql, md_done hcp he hqe hr0 hr1 (val_lo hql) (val_hi hql) (by simp [upI]), ?_⟩
    (repeat (first | (with_reducible exact Below.refl _ _) | (with_reducible assumption) | (with_reducible apply bd) | (with_reducible apply ba) | (with_reducible refine bp ?_ (by first | omega | (simp [pad_size]; done) | (simp [pad_size]; omega)) _ _) | (with_reducible refine bs ?_ (by first | omega | (simp [pad_size]; done) | (simp [pad_size]; omega)) _) | (with_reducible refine bt ?_ (by assumption))))
  · refine bodyPost_ret (v := .tuple #[.agg #[.int .u64 q0, .int .u64 q1, .int .u64 q2, .int .u64 q3], .int .i64 0]) (by simp only [results, Try.results64]; go_simp) rfl ⟨q0, q1, q2, q3, 0, rfl, hql, md_done hcp he hqe hr0 hr1 (val_lo hql) (val_hi hql) (by simp [upI]), ?_⟩
    (repeat (first | (with_reducible exact Below.refl _ _) | (with_reducible assumption) | (with_reducible apply bd) | (with_reducible apply ba) | (with_reducible refine bp ?_ (by first | omega | (simp [pad_size]; done) | (simp [pad_size]; omega)) _ _) | (with_reducible refine bs ?_ (by first | omega | (simp [pad_size]; done) | (simp [pad_size]; omega)) _) | (with_reducible refine bt ?_ (by assumption))))
  · have hone : Lim 1 0 0 0 := by unfold Lim; omega
    go_region_with (first
      | (go_at_call 65; refine (of_any _ _).mono ?_; rintro e w1 ⟨rfl, hb⟩; obtain ⟨m4, g4, d4, hm4, rfl⟩ := pad_of hb; clear hb; (try simp [pad_size] at hm4); have st4_w := sz4 (n := w.heap.size) (m := m4) (by omega); have st4_3 := sz1 (n := m3) (m := m4) (by omega))
      | (go_at_call 88; refine (add_any q0 q1 q2 q3 1 0 0 0 hql hone _).mono ?_; rintro e w1 ⟨z0, z1, z2, z3, e', rfl, hzl, hs, hb⟩; rw [val_of] at hs; obtain ⟨m5, g5, d5, hm5, rfl⟩ := pad_of hb; clear hb; (try simp [pad_size] at hm5); have st5_w := sz4 (n := w.heap.size) (m := m5) (by omega); have st5_3 := sz1 (n := m3) (m := m5) (by omega)))
    all_goals go_wp2
    all_goals refine bodyPost_ret (v := .tuple #[.agg #[.int .u64 z0, .int .u64 z1, .int .u64 z2, .int .u64 z3], .int .i64 e']) (by simp only [results, Try.results64]; go_simp) rfl ⟨z0, z1, z2, z3, e', rfl, hzl, md_up hcp he hqe hr0 hr1 hrn (val_lo hql) hs, ?_⟩
    all_goals (repeat (first | (with_reducible exact Below.refl _ _) | (with_reducible assumption) | (with_reducible apply bd) | (with_reducible apply ba) | (with_reducible refine bp ?_ (by first | omega | (simp [pad_size]; done) | (simp [pad_size]; omega)) _ _) | (with_reducible refine bs ?_ (by first | omega | (simp [pad_size]; done) | (simp [pad_size]; omega)) _) | (with_reducible refine bt ?_ (by assumption))))
  · refine bodyPost_ret (v := .tuple #[.agg #[.int .u64 0, .int .u64 0, .int .u64 0, .int .u64 0], .int .i64 2]) (by simp only [results, Try.results64]; go_simp) rfl ⟨0, 0, 0, 0, 2, rfl, lim_zero, by rw [val0]; exact md_over hcp (val_lo hx) (val_lo hy) (val_lo hl) he hge, ?_⟩
    (repeat (first | (with_reducible exact Below.refl _ _) | (with_reducible assumption) | (with_reducible apply bd) | (with_reducible apply ba) | (with_reducible refine bp ?_ (by first | omega | (simp [pad_size]; done) | (simp [pad_size]; omega)) _ _) | (with_reducible refine bs ?_ (by first | omega | (simp [pad_size]; done) | (simp [pad_size]; omega)) _) | (with_reducible refine bt ?_ (by assumption))))

theorem muldiv_any (x0 x1 x2 x3 y0 y1 y2 y3 c0 c1 c2 c3 : Int) (up : Bool) (hx : Lim x0 x1 x2 x3) (hy : Lim y0 y1 y2 y3) (hc : Lim c0 c1 c2 c3) (w : World) :
    Calls Try.prog 64 #[.agg #[.int .u64 x0, .int .u64 x1, .int .u64 x2, .int .u64 x3], .agg #[.int .u64 y0, .int .u64 y1, .int .u64 y2, .int .u64 y3], .agg #[.int .u64 c0, .int .u64 c1, .int .u64 c2, .int .u64 c3], .bool up] w fun e w' =>
      ∃ z0 z1 z2 z3 e' : Int, e = .returned (.tuple #[.agg #[.int .u64 z0, .int .u64 z1, .int .u64 z2, .int .u64 z3], .int .i64 e']) ∧ Lim z0 z1 z2 z3 ∧ MdS (val x0 x1 x2 x3) (val y0 y1 y2 y3) (val c0 c1 c2 c3) up (val z0 z1 z2 z3) e' ∧ Below w.heap.size w w' := by
  rcases Bool.eq_false_or_eq_true (eq4 c0 c1 c2 c3 0 0 0 0) with hq | hq
  · refine (muldiv_zero _ _ _ _ _ _ _ _ _ _ _ _ up hq w).mono ?_
    rintro e w' ⟨rfl, hb⟩
    rw [eq4_zero hc, decide_eq_true_iff] at hq
    exact ⟨0, 0, 0, 0, 1, rfl, lim_zero, .inl ⟨hq, rfl, val0⟩, hb⟩
  · exact muldiv_pos _ _ _ _ _ _ _ _ _ _ _ _ up hx hy hc hq w
end Go.Proofs.Ytjhjgncnadhbhaa

/- plan.evenly between a plan's start and its end. -/
namespace Go.Proofs.Ytjhjgncnadhbhaa
open Go.RowKit

/-- Of each coin so much: a of b parts, rounded down. -/
def EvC (a b : Int) (x y : Cn) : Prop := y.d = x.d ∧ LimC y ∧ vl y = vl x * a / b
/-- What is left of a coin where there is none, or no such denomination. -/
def oneD (y : Cn) : List Cn := if 8 ≤ y.d then [] else oneL y
theorem md_part {a b c z e : Int} (ha : 0 ≤ a) (hb : 0 ≤ b) (hbc : b < c) (hl : a < 115792089237316195423570985008687907853269984665640564039457584007913129639936) (h : MdS a b c false z e) : z = a * b / c := by
  rcases h with ⟨h, -⟩ | ⟨hc, q, r, h1, h2, h3, h4, h5⟩
  · omega
  · have hq : a * b / c = q := by
      rw [h1, Int.add_comm, Int.add_mul_ediv_right _ _ (by omega), Int.ediv_eq_zero_of_lt h2 h3]; omega
    have hu : upI false q r = q := by simp [upI]
    rw [hu] at h5
    rcases h5 with ⟨-, -, h6⟩ | ⟨h6, -, -⟩
    · rw [hq, h6]
    · exfalso
      have h7 : q * c ≤ a * b := by omega
      have h8 : a * b ≤ a * c := Int.mul_le_mul_of_nonneg_left (by omega) ha
      have h9 : q ≤ a := Int.le_of_mul_le_mul_right (Int.le_trans h7 h8) hc
      omega
set_option maxRecDepth 20000 in
set_option maxHeartbeats 8000000 in
theorem evenly_mid {k s u t : Int} {av pv : Value} {al : List Cn} {pl : List Pd} (w : World) (h : PnAt w ⟨k, s, u, av, pv, al, pl⟩) (hw : PnWf ⟨k, s, u, av, pv, al, pl⟩) (ht1 : s < t) (ht2 : t < u) (hn : al.length ≤ 1048576) :
    Calls Try.prog 40 #[pnV ⟨k, s, u, av, pv, al, pl⟩, .int .u64 t] w fun e w' => ∃ (v : Value) (ys : List Cn), e = .returned v ∧ ys.length = al.length ∧ (∀ (i : Nat) x y, al[i]? = some x → ys[i]? = some y → EvC (t - s) (u - s) x y) ∧ w'.ownsRow w.heap.size 66 5 v (ys.flatMap oneD).length (cellsL (ys.flatMap oneD)) ∧ Below w.heap.size w w' := by
  have hpad := pads
  obtain ⟨i0, hi, hz0, hz1, hz2⟩ := info_parts coin_info
  obtain ⟨h1, h2⟩ := h
  obtain ⟨hwk, hws, hwe, hwf⟩ := hw
  simp only at h1 h2 hwk hws hwe hwf
  obtain ⟨a1, c1, rfl⟩ := h1.slice
  obtain ⟨a2, c2, rfl⟩ := h2.slice
  show Calls Try.prog 40 #[.agg #[.int .u8 k, .int .u64 s, .int .u64 u, .slice a1 al.length c1, .slice a2 pl.length c2], .int .u64 t] w _
  have hw1 : IntKind.u64.wrap (t - s) = t - s := by rw [IntKind.wrap_u64]; omega
  have hw2 : IntKind.u64.wrap (u - s) = u - s := by rw [IntKind.wrap_u64]; omega
  have hn1 : ¬ u ≤ t := by omega
  have hn2 : ¬ t ≤ s := by omega
  have hnl : (al.length : Int) ≤ 1048576 := by omega
  have hpb : Hid (∀ X, Below (w.alloc (.cells #[.int .u8 k, .int .u64 s, .int .u64 u, .slice a1 al.length c1, .slice a2 pl.length c2] 33)).heap.size (w.alloc (.cells #[.int .u8 k, .int .u64 s, .int .u64 u, .slice a1 al.length c1, .slice a2 pl.length c2] 33)) X → X.cell? ⟨w.heap.size, 1, none⟩ = some (.int .u64 s) ∧ X.cell? ⟨w.heap.size, 2, none⟩ = some (.int .u64 u)) := fun X hX => by
    have q1 := (hX.block w.heap.size (by simp)).trans (al_at rfl)
    exact ⟨(cells_of_block q1).1 1, (cells_of_block q1).1 2⟩
  have hb0 : Below w.heap.size w (w.alloc (.cells #[.int .u8 k, .int .u64 s, .int .u64 u, .slice a1 al.length c1, .slice a2 pl.length c2] 33)) := ba (Below.refl _ _) _
  have hP0 : (w.alloc (.cells #[.int .u8 k, .int .u64 s, .int .u64 u, .slice a1 al.length c1, .slice a2 pl.length c2] 33)).heap.size = w.heap.size + 1 := by simp
  go_enter Try.func40, Try.ntmps40
  go_wp2
  generalize w.alloc (.cells #[.int .u8 k, .int .u64 s, .int .u64 u, .slice a1 al.length c1, .slice a2 pl.length c2] 33) = P at *
  go_loopw [5, 24] (fun fv iv X => ∃ (i : Nat) (ys : List Cn), i ≤ al.length ∧ iv = .int .i64 (i : Int) ∧ ys.length = i ∧ Hid (∀ (j : Nat) x y, al[j]? = some x → ys[j]? = some y → EvC (t - s) (u - s) x y) ∧ (ys.flatMap oneD).length ≤ i ∧ X.ownsRow P.heap.size 66 5 fv (ys.flatMap oneD).length (cellsL (ys.flatMap oneD)) ∧ Below P.heap.size P X) (fun _ iv _ => al.length - (intOf iv).toNat)
  case atStart => exact ⟨0, [], by omega, rfl, rfl, by unfold Hid; simp, by simp, World.ownsRow_nil _ _ _ _, Below.refl _ _⟩
  case round =>
    obtain ⟨i, ys, hil, rfl, hyl, hev, hfl, hown, hX⟩ := hrel
    have hXw : Below w.heap.size w wr := hb0.trans (hX.mono (by omega))
    by_cases hlt : i < al.length
    · have hlt' : (i : Int) < (al.length : Int) := by omega
      rcases h1 with ⟨rfl, -⟩ | ⟨blk, off, cap, ev, hne, hlen, hbl, hall⟩
      · simp at hlt
      · simp at ev
        obtain ⟨rfl, rfl⟩ := ev
        have hX1 := IsCL.below (.inr ⟨blk, off, c1, rfl, hne, hlen, hbl, hall⟩) hXw
        obtain ⟨d0, d1, d2, d3, d4⟩ : CnAt wr blk (off + i * 5) al[i] := by
          rcases hX1 with ⟨rfl, -⟩ | ⟨blk', off', cap', ev', _, _, _, hall'⟩
          · simp at hlt
          · simp at ev'
            obtain ⟨⟨rfl, rfl⟩, rfl⟩ := ev'
            exact hall' i al[i] (List.getElem?_eq_getElem hlt)
        have hxw := hwf al[i] (List.getElem_mem hlt)
        have hget : Hid (al[i]? = some al[i]) := List.getElem?_eq_getElem hlt
        generalize al[i] = x at *
        obtain ⟨U, hU⟩ : ∃ U, U = wr.alloc (.cells #[.int .u8 x.d, .int .u64 x.a, .int .u64 x.b, .int .u64 x.c, .int .u64 x.e] 66) := ⟨_, rfl⟩
        have hUb : Below wr.heap.size wr U := by rw [hU]; exact ba (Below.refl _ _) _
        have hUs : U.heap.size = wr.heap.size + 1 := by rw [hU]; simp
        have hUx : U.heap[wr.heap.size]? = some (.cells #[.int .u8 x.d, .int .u64 x.a, .int .u64 x.b, .int .u64 x.c, .int .u64 x.e] 66 (0, 0)) := by rw [hU]; exact al_at rfl
        have hPU : Below P.heap.size P U := bt hX hUb
        have hkeep : Hid (∀ X, Below U.heap.size U X → X.cell? ⟨wr.heap.size, 1, none⟩ = some (.int .u64 x.a) ∧ X.cell? ⟨wr.heap.size, 2, none⟩ = some (.int .u64 x.b) ∧ X.cell? ⟨wr.heap.size, 3, none⟩ = some (.int .u64 x.c) ∧ X.cell? ⟨wr.heap.size, 4, none⟩ = some (.int .u64 x.e) ∧ X.cell? ⟨w.heap.size, 1, none⟩ = some (.int .u64 s) ∧ X.cell? ⟨w.heap.size, 2, none⟩ = some (.int .u64 u)) := fun X hX => by
          obtain ⟨q, -⟩ := cells_of_block ((hX.block wr.heap.size (by omega)).trans hUx)
          obtain ⟨q1, q2⟩ := hpb.out X (bt hPU hX)
          exact ⟨q 1, q 2, q 3, q 4, q1, q2⟩
        have hL1 : Lim (t - s) 0 0 0 := by unfold Lim; omega
        have hL2 : Lim (u - s) 0 0 0 := by unfold Lim; omega
        have hM : Hid (∀ X, Calls Try.prog 64 #[.agg #[.int .u64 x.a, .int .u64 x.b, .int .u64 x.c, .int .u64 x.e], .agg #[.int .u64 (t - s), .int .u64 0, .int .u64 0, .int .u64 0], .agg #[.int .u64 (u - s), .int .u64 0, .int .u64 0, .int .u64 0], .bool false] X fun e w' => ∃ z0 z1 z2 z3 c : Int, e = .returned (.tuple #[.agg #[.int .u64 z0, .int .u64 z1, .int .u64 z2, .int .u64 z3], .int .i64 c]) ∧ EvC (t - s) (u - s) x ⟨x.d, z0, z1, z2, z3⟩ ∧ Below X.heap.size X w') := fun X => by
          refine (muldiv_any _ _ _ _ _ _ _ _ _ _ _ _ false hxw.2 hL1 hL2 X).mono ?_
          rintro e w' ⟨z0, z1, z2, z3, c, rfl, hzl, hzm, hb⟩
          rw [val_of, val_of] at hzm
          exact ⟨z0, z1, z2, z3, c, rfl, ⟨rfl, hzl, md_part (val_lo hxw.2) (by omega) (by omega) (val_hi hxw.2) hzm⟩, hb⟩
        have hUd : Below U.heap.size U U.drew := bd (Below.refl _ _)
        have hcb : wr.heap.size < U.heap.size := by omega
        have hpbU : w.heap.size < U.heap.size := by have := hX.size; omega
        go_upto_region 9 with fail
        rw [← hU]
        have hU' : Hid _ := hU
        have hUs' : Hid _ := hUs
        have hP0' : Hid _ := hP0
        clear hU hUs hP0
        go_cut [8, 9] from 28 to 44 (fun s8 s9 wx => ∃ (z0 z1 z2 z3 c : Int) (B : Nat), s8 = .pointer (some ⟨B, 0, none⟩) ∧ s9 = .int .i64 c ∧ EvC (t - s) (u - s) x ⟨x.d, z0, z1, z2, z3⟩ ∧ U.heap.size ≤ B ∧ B < wx.heap.size ∧ Below U.heap.size U wx ∧ wx.heap[B]? = some (.cells #[.int .u64 z0, .int .u64 z1, .int .u64 z2, .int .u64 z3] 64 (0, 0)))
        case first =>
          go_region_held2 (fun X => X.cell? ⟨wr.heap.size, 1, none⟩ = some (.int .u64 x.a) ∧ X.cell? ⟨wr.heap.size, 2, none⟩ = some (.int .u64 x.b) ∧ X.cell? ⟨wr.heap.size, 3, none⟩ = some (.int .u64 x.c) ∧ X.cell? ⟨wr.heap.size, 4, none⟩ = some (.int .u64 x.e) ∧ X.cell? ⟨w.heap.size, 1, none⟩ = some (.int .u64 s) ∧ X.cell? ⟨w.heap.size, 2, none⟩ = some (.int .u64 u)) (exact hkeep.out _ (by (repeat (first | (with_reducible exact Below.refl _ _) | (with_reducible assumption) | (with_reducible apply bd) | (with_reducible apply ba) | (with_reducible refine bp ?_ (by first | omega | (simp [pad_size]; done) | (simp [pad_size]; omega)) _ _) | (with_reducible refine bs ?_ (by first | omega | (simp [pad_size]; done) | (simp [pad_size]; omega)) _) | (with_reducible refine bt ?_ (by assumption)))))) (first
            | (go_at_call 65; with_reducible refine (of_any (t - s) _).mono ?_; rintro e w1 ⟨rfl, hb⟩; obtain ⟨m1, g1, d1, hm1, rfl⟩ := pad_of hb; clear hb; simp [pad_size] at hm1; (try have st1 := sz1 (n := U.heap.size) (m := m1) (by omega)))
            | (go_at_call 65; with_reducible refine (of_any (u - s) _).mono ?_; rintro e w1 ⟨rfl, hb⟩; obtain ⟨m2, g2, d2, hm2, rfl⟩ := pad_of hb; clear hb; simp [pad_size] at hm2; (try have st2 := sz1 (n := U.heap.size) (m := m2) (by omega)); (try have st3 := sz1 (n := m1) (m := m2) (by omega)))
            | (go_at_call 64; refine (hM.out _).mono ?_; rintro e w3 ⟨z0, z1, z2, z3, c, rfl, hzo, hb⟩; obtain ⟨m3, g3, d3, hm3, rfl⟩ := pad_of hb; clear hb; simp [pad_size] at hm3; (try have st4 := sz1 (n := U.heap.size) (m := m3) (by omega)); (try have st5 := sz1 (n := m1) (m := m3) (by omega)); (try have st6 := sz1 (n := m2) (m := m3) (by omega))))
          all_goals (go_wp2_with fail; go_meet)
          all_goals exact ⟨z0, z1, z2, z3, c, _, rfl, rfl, hzo, (by first | omega | (simp [pad_size]; done) | (simp [pad_size]; omega)), (by first | omega | (simp [pad_size]; done) | (simp [pad_size]; omega)), by (repeat (first | (with_reducible exact Below.refl _ _) | (with_reducible assumption) | (with_reducible apply bd) | (with_reducible apply ba) | (with_reducible refine bp ?_ (by first | omega | (simp [pad_size]; done) | (simp [pad_size]; omega)) _ _) | (with_reducible refine bs ?_ (by first | omega | (simp [pad_size]; done) | (simp [pad_size]; omega)) _) | (with_reducible refine bt ?_ (by assumption)))), by (repeat (first | (with_reducible exact al_at (by simp [pad_size])) | (with_reducible refine Eq.trans (dr_blk _ _) ?_) | (with_reducible refine Eq.trans (al_old (by first | omega | (simp [pad_size]; done) | (simp [pad_size]; omega))) ?_) | (with_reducible refine Eq.trans (pad_block (by first | omega | (simp [pad_size]; done) | (simp [pad_size]; omega)) (by first | omega | (simp [pad_size]; done) | (simp [pad_size]; omega))) ?_) | (with_reducible assumption)))⟩
        case rest =>
          obtain ⟨z0, z1, z2, z3, c, B, rfl, rfl, hE, hB1, hB2, hBx, hBb⟩ := hcut
          obtain ⟨cB, fB⟩ := cells_of_block hBb
          have hcU : wr.heap.size < U.heap.size := hcb
          obtain ⟨cx, fx⟩ := cells_of_block ((hBx.block wr.heap.size hcU).trans hUx)
          have hx0 : wc.cell? ⟨wr.heap.size, 0, none⟩ = some (.int .u8 x.d) := cx 0
          have hownx := ownsRow_below (ownsRow_below hown hUb) hBx
          have hPc : Below P.heap.size P wc := bt hPU hBx
          have hWc : Below w.heap.size w wc := bt hXw (bt hUb hBx)
          have hzw := hWc.size
          have hzP := hPc.size
          have hev2 : Hid (∀ (j : Nat) x' y, al[j]? = some x' → (ys ++ [⟨x.d, z0, z1, z2, z3⟩])[j]? = some y → EvC (t - s) (u - s) x' y) := by
            intro j x' y hx' hy'
            rcases Nat.lt_or_ge j ys.length with hj | hj
            · rw [List.getElem?_append_left hj] at hy'
              exact hev.out j x' y hx' hy'
            · rw [List.getElem?_append_right hj] at hy'
              have hj2 : j - ys.length = 0 := by
                rcases Nat.eq_zero_or_pos (j - ys.length) with h0 | h0
                · exact h0
                · rw [List.getElem?_eq_none (by simp; omega)] at hy'; cases hy'
              rw [hj2] at hy'
              have hji : j = i := by omega
              rw [hji, hget.out] at hx'
              simp at hx' hy'
              subst hx' hy'
              exact hE
          have hfm : Hid ((ys ++ [(⟨x.d, z0, z1, z2, z3⟩ : Cn)]).flatMap oneD = ys.flatMap oneD ++ oneD ⟨x.d, z0, z1, z2, z3⟩) := by unfold Hid; simp
          have hyl2 : Hid ((ys ++ [(⟨x.d, z0, z1, z2, z3⟩ : Cn)]).length = i + 1) := by unfold Hid; simp [hyl]
          have hxd8 := hxw.1
          clear hkeep hM hev cx fx hyl hall hX1 hUx
          by_cases hno : 8 ≤ x.d ∨ eq4 z0 z1 z2 z3 0 0 0 0 = true
          · have hoD : oneD ⟨x.d, z0, z1, z2, z3⟩ = [] := by
              unfold oneD oneL
              rcases hno with h | h
              · rw [if_pos h]
              · rw [if_pos h]; split <;> rfl
            rw [hoD, List.append_nil] at hfm
            go_wp2_with (first
              | (go_at_call 66; refine (one_none _ _ _ _ _ hno _).mono ?_; rintro e w1 ⟨rfl, hb1⟩)
              | (at_builtin; refine wpList_append_own_none rfl _ _ 24 rfl P.heap.size 66 i0 5 Try.underlying24 hi _ _ _ rfl (ownsRow_below hownx hb1) rfl ?_))
            go_roundw
            case rel => exact ⟨i + 1, ys ++ [⟨x.d, z0, z1, z2, z3⟩], by omega, by go_num, hyl2.out, hev2, by rw [hfm.out]; omega, by rw [hfm.out]; exact ownsRow_below hownx hb1, bt hPc hb1⟩
            case measure => (simp [intOf]; omega)
          · have hd8 : ¬ 8 ≤ x.d := fun h => hno (.inl h)
            have hq : eq4 z0 z1 z2 z3 0 0 0 0 = false := by
              rcases Bool.eq_false_or_eq_true (eq4 z0 z1 z2 z3 0 0 0 0) with h | h
              · exact absurd (.inr h) hno
              · exact h
            have hoD : oneD ⟨x.d, z0, z1, z2, z3⟩ = [⟨x.d, z0, z1, z2, z3⟩] := by
              unfold oneD oneL; rw [if_neg hd8, if_neg (by simp [hq])]
            rw [hoD] at hfm
            clear hno hoD
            go_wp2_with (first
              | (go_at_call 66; refine (one_some _ _ _ _ _ hd8 hq _).mono ?_; rintro e w1 ⟨rfl, rfl⟩)
              | (at_builtin; refine wpList_append_own _ rfl _ _ 24 rfl P.heap.size 66 i0 _ 5 40 Try.underlying24 hi hz0 hz1 hz2 rfl (by decide) _ _ _ rfl ((hownx.alloc _).alloc _) ⟨wc.heap.size + 1, 0, none⟩ 1 1 [.int .u8 x.d, .int .u64 z0, .int .u64 z1, .int .u64 z2, .int .u64 z3] rfl rfl (new_cells wc _ #[.int .u8 x.d, .int .u64 z0, .int .u64 z1, .int .u64 z2, .int .u64 z3] 66) (by simp [Value.oneCell']) (by unfold maxLen; omega) (by omega) (by simp; omega) ?_; intro v' w' hown' hgrow _))
            go_roundw
            case rel =>
              refine ⟨i + 1, ys ++ [⟨x.d, z0, z1, z2, z3⟩], by omega, by go_num, hyl2.out, hev2, by rw [hfm.out, List.length_append]; simp only [List.length_cons, List.length_nil]; omega, ?_, ?_⟩
              · rw [hfm.out, List.length_append, cellsL_append]; exact hown'
              · exact (ba (ba hPc _) _).grown hgrow (by simp; omega) (fun k' e => (hown.lt k' e).1)
            case measure => (simp [intOf]; omega)
    · obtain rfl : i = al.length := by omega
      go_wp2
      go_ret
      exact ⟨_, ys, rfl, hyl, hev.out, row_base hown (by omega), hXw⟩
end Go.Proofs.Ytjhjgncnadhbhaa

/- plan: what is free at a time, as so much of each denomination: plain facts. -/
namespace Go.Proofs.Ytjhjgncnadhbhaa
open Go.RowKit

/-- Of each denomination so many parts, rounded down. -/
def evP (l : List Cn) (a b : Int) : Nat → Cn := fun d => cnOf d (vl (amP l d) * a / b)
/-- What of a plan is free at t. -/
def vestP (x : Pn) (t : Int) : Nat → Cn :=
  if x.k = 1 then (if x.e ≤ t then amP x.al else if t ≤ x.s then zeroP else evP x.al (t - x.s) (x.e - x.s))
  else if x.k = 2 then (if x.e ≤ t then amP x.al else zeroP)
  else if x.k = 3 ∨ x.k = 5 then sumP (x.pl.take (ovN x.pl x.s t).1)
  else zeroP
def lockP (x : Pn) (t : Int) : Nat → Cn := opP restI (amP x.al) (vestP x t)
theorem part_le {v a b : Int} (hv : 0 ≤ v) (ha : 0 ≤ a) (hab : a ≤ b) (hb : 0 < b) : 0 ≤ v * a / b ∧ v * a / b ≤ v := by
  refine ⟨Int.ediv_nonneg (Int.mul_nonneg hv ha) (by omega), ?_⟩
  have h1 : v * a ≤ v * b := Int.mul_le_mul_of_nonneg_left hab hv
  have h2 : v * a / b ≤ v * b / b := Int.ediv_le_ediv hb h1
  rwa [Int.mul_ediv_cancel _ (by omega)] at h2
theorem evP_vl (l : List Cn) (a b : Int) (d : Nat) : vl (evP l a b d) = vl (amP l d) * a / b := cnOf_vl
/-- The facts of a plan that may be. -/
structure PnR (x : Pn) : Prop where
  al : rightFrom 0 x.al = true
  k : x.k = 0 ∨ x.k = 1 ∨ x.k = 2 ∨ x.k = 3 ∨ x.k = 4 ∨ x.k = 5
  k0 : x.k = 0 → x.s = 0 ∧ x.e = 0 ∧ x.al = [] ∧ x.pl = []
  k1 : x.k = 1 → x.s < x.e
  gv : x.k ≠ 0 → givesB x = true
  st : x.k = 3 ∨ x.k = 5 → stepsB x = true
  np : ¬ (x.k = 3 ∨ x.k = 5) → x.pl = []
  s0 : x.k = 2 → x.s = 0
  s4 : x.k = 4 → x.s = 0 ∧ x.e = 0
theorem gives_right {x : Pn} (h : givesB x = true) : rightFrom 0 x.al = true := by
  unfold givesB at h; exact some_right (Bool.and_eq_true_iff.1 h).1
theorem right_facts {x : Pn} (h : rightB x = true) : PnR x := by
  unfold rightB at h
  split at h
  · rename_i hk
    rw [Bool.and_eq_true] at h
    refine ⟨gives_right h.1, ?_, fun e => ?_, fun e => ?_, fun _ => h.1, fun _ => h.2, fun hn => absurd hk hn, fun e => ?_, fun e => ?_⟩
    · rcases hk with e | e <;> simp [e]
    all_goals (rcases hk with e' | e' <;> omega)
  · rename_i hk
    unfold rightN at h
    split at h
    · rename_i h0
      simp only [Bool.and_eq_true, beq_iff_eq, List.isEmpty_iff] at h
      obtain ⟨⟨⟨h1, h2⟩, h3⟩, h4⟩ := h
      exact ⟨by rw [h3]; rfl, .inl h0, fun _ => ⟨h1, h2, h3, h4⟩, fun e => by omega, fun hn => absurd h0 hn, fun e => absurd e hk, fun _ => h4, fun e => by omega, fun e => by omega⟩
    · rename_i h0
      split at h
      · rename_i h1
        simp only [Bool.and_eq_true, decide_eq_true_eq, List.isEmpty_iff] at h
        obtain ⟨⟨h2, h3⟩, h4⟩ := h
        exact ⟨gives_right h3, .inr (.inl h1), fun e => by omega, fun _ => h2, fun _ => h3, fun e => absurd e hk, fun _ => h4, fun e => by omega, fun e => by omega⟩
      · split at h
        · rename_i h2
          simp only [Bool.and_eq_true, beq_iff_eq, List.isEmpty_iff] at h
          obtain ⟨⟨h3, h4⟩, h5⟩ := h
          exact ⟨gives_right h4, .inr (.inr (.inl h2)), fun e => by omega, fun e => by omega, fun _ => h4, fun e => absurd e hk, fun _ => h5, fun _ => h3, fun e => by omega⟩
        · split at h
          · rename_i h4
            simp only [Bool.and_eq_true, beq_iff_eq, List.isEmpty_iff] at h
            obtain ⟨⟨⟨h5, h6⟩, h7⟩, h8⟩ := h
            exact ⟨gives_right h7, .inr (.inr (.inr (.inr (.inl h4)))), fun e => by omega, fun e => by omega, fun _ => h7, fun e => absurd e hk, fun _ => h8, fun e => by omega, fun _ => ⟨h5, h6⟩⟩
          · cases h
/-- The facts of periods that may be. -/
structure StR (x : Pn) : Prop where
  n1 : 1 ≤ x.pl.length
  n16 : x.pl.length ≤ 16
  ok : ∀ q ∈ x.pl, 1 ≤ q.n ∧ someB q.l = true
  len : x.s + lenS x.pl = x.e
  tot : ∀ d, d < 8 → tot x.pl d = vl (amP x.al d)
theorem steps_facts {x : Pn} (h : stepsB x = true) : StR x := by
  simp only [stepsB, Bool.and_eq_true, decide_eq_true_eq, List.all_eq_true, all8_true] at h
  obtain ⟨⟨⟨⟨h1, h2⟩, h3⟩, h4⟩, h5⟩ := h
  exact ⟨h1, h2, fun q hq => by have := h3 q hq; simp only [pdR, Bool.and_eq_true, decide_eq_true_eq] at this; exact this, h4, h5⟩
theorem steps_of {x : Pn} (h : StR x) : stepsB x = true := by
  simp only [stepsB, Bool.and_eq_true, decide_eq_true_eq, List.all_eq_true, all8_true]
  exact ⟨⟨⟨⟨h.n1, h.n16⟩, fun q hq => by simp only [pdR, Bool.and_eq_true, decide_eq_true_eq]; exact h.ok q hq⟩, h.len⟩, h.tot⟩
section
variable {x : Pn} {t u : Int}
theorem al_lo (ho : PnOk x) {d : Nat} (hd : d < 8) : 0 ≤ vl (amP x.al d) ∧ vl (amP x.al d) < 115792089237316195423570985008687907853269984665640564039457584007913129639936 := vl_lo (amP_purse ho.w.al) hd
theorem vest_lo (ho : PnOk x) (hr : PnR x) (t : Int) {d : Nat} (hd : d < 8) : 0 ≤ vl (vestP x t d) ∧ vl (vestP x t d) ≤ vl (amP x.al d) := by
  have h0 := al_lo ho hd
  have hz := vl_zero d
  unfold vestP
  split
  · rename_i hk
    have := hr.k1 hk
    split
    · omega
    · split
      · omega
      · rw [evP_vl]
        exact part_le h0.1 (by omega) (by omega) (by omega)
  · split
    · split <;> omega
    · split
      · rename_i hk
        rw [sumP_vl, ← (steps_facts (hr.st hk)).tot d hd]
        exact tot_take ho.p _ hd
      · omega
theorem vest_purse (ho : PnOk x) (hr : PnR x) (t : Int) : Purse (vestP x t) := by
  have hA := amP_purse ho.w.al
  have hb := fun d (hd : d < 8) => vest_lo ho hr t hd
  have ha := fun d (hd : d < 8) => al_lo ho hd
  revert hb
  unfold vestP
  split
  · split
    · exact fun _ => hA
    · split
      · exact fun _ => purse_zero
      · intro hb d hd
        have h1 := hb d hd
        have h2 := ha d hd
        rw [evP_vl] at h1
        exact ⟨cnOf_lim h1.1 (by omega), rfl⟩
  · split
    · split
      · exact fun _ => hA
      · exact fun _ => purse_zero
    · split
      · intro hb
        refine sumP_purse (fun q hq => ho.p q (List.mem_of_mem_take hq)) fun d hd => ?_
        have h1 := hb d hd
        have h2 := ha d hd
        rw [sumP_vl] at h1
        omega
      · exact fun _ => purse_zero
theorem ovN_mono : ∀ {l : List Pd} {e t u : Int}, t ≤ u → (ovN l e t).1 ≤ (ovN l e u).1
  | [], _, _, _, _ => by simp [ovN]
  | q :: l, e, t, u, h => by
    unfold ovN
    split
    · exact Nat.zero_le _
    · rw [if_neg (by omega)]
      have := ovN_mono (l := l) (e := e + q.n) h
      simp only; omega
theorem tot_mono {l : List Pd} (h : ∀ q ∈ l, PdWf q) {i j : Nat} (hij : i ≤ j) {d : Nat} (hd : d < 8) : tot (l.take i) d ≤ tot (l.take j) d := by
  have h1 := (tot_take (l := l.take j) (fun q hq => h q (List.mem_of_mem_take hq)) i hd).2
  rwa [List.take_take, Nat.min_eq_left hij] at h1
/-- What is free stays free. -/
theorem vest_mono (ho : PnOk x) (hr : PnR x) (htu : t ≤ u) {d : Nat} (hd : d < 8) : vl (vestP x t d) ≤ vl (vestP x u d) := by
  have h0 := al_lo ho hd
  have hz := vl_zero d
  have hu := vest_lo ho hr u hd
  have ht := vest_lo ho hr t hd
  revert hu ht
  unfold vestP
  split
  · rename_i hk
    have := hr.k1 hk
    by_cases h1 : x.e ≤ u
    · rw [if_pos h1]
      intro _ h; exact h.2
    · have h1' : ¬ x.e ≤ t := by omega
      rw [if_neg h1, if_neg h1']
      by_cases h2 : t ≤ x.s
      · rw [if_pos h2]
        intro h _; omega
      · have h2' : ¬ u ≤ x.s := by omega
        rw [if_neg h2, if_neg h2']
        intro _ _
        rw [evP_vl, evP_vl]
        exact Int.ediv_le_ediv (by omega) (Int.mul_le_mul_of_nonneg_left (by omega) h0.1)
  · split
    · by_cases h1 : x.e ≤ u
      · rw [if_pos h1]; intro _ h; exact h.2
      · have h1' : ¬ x.e ≤ t := by omega
        rw [if_neg h1, if_neg h1']; intro _ _; omega
    · split
      · intro _ _
        rw [sumP_vl, sumP_vl]
        exact tot_mono ho.p (ovN_mono htu) hd
      · intro _ _; omega
/-- From its end on all is free, but of what never is. -/
theorem vest_end (ho : PnOk x) (hr : PnR x) (hk : x.k ≠ 4) (ht : x.e ≤ t) {d : Nat} (hd : d < 8) : vl (vestP x t d) = vl (amP x.al d) := by
  unfold vestP
  split
  · first | rfl | rw [if_pos ht]
  · split
    · first | rfl | rw [if_pos ht]
    · split
      · rename_i h
        have hs := steps_facts (hr.st h)
        rw [sumP_vl, ovN_all ho.p (by have := hs.len; omega), List.take_length]
        exact hs.tot d hd
      · rename_i h1 h2 h3
        have h0 : x.k = 0 := by rcases hr.k with h | h | h | h | h | h <;> omega
        rw [(hr.k0 h0).2.2.1]
        rfl
theorem vest_never (hk : x.k = 4) : vestP x t = zeroP := by
  unfold vestP; rw [if_neg (by omega), if_neg (by omega), if_neg (by omega)]
theorem ovN_zero {l : List Pd} {e t : Int} (h : ∀ q ∈ l, 1 ≤ q.n) (ht : t ≤ e) : (ovN l e t).1 = 0 := by
  cases l with
  | nil => rfl
  | cons q l =>
    have := h q (by simp)
    unfold ovN
    rw [if_pos (by omega)]
theorem vest_start (hr : PnR x) (ht : t < x.e) (hs : t ≤ x.s) (d : Nat) : vl (vestP x t d) = 0 := by
  have hz := vl_zero d
  unfold vestP
  split
  · have h1 : ¬ x.e ≤ t := by omega
    first | exact hz | (rw [if_neg h1, if_pos hs]; exact hz) | (rw [if_neg h1]; exact hz)
  · split
    · have h1 : ¬ x.e ≤ t := by omega
      first | exact hz | (rw [if_neg h1]; exact hz)
    · split
      · rename_i h
        rw [ovN_zero (fun q hq => ((steps_facts (hr.st h)).ok q hq).1) hs, List.take_zero, sumP_vl]
        rfl
      · exact hz
theorem lock_purse (ho : PnOk x) (hr : PnR x) (t : Int) : Purse (lockP x t) := purse_rest (amP_purse ho.w.al) (vest_purse ho hr t)
theorem lock_vl (ho : PnOk x) (hr : PnR x) (t : Int) {d : Nat} (hd : d < 8) : vl (lockP x t d) = vl (amP x.al d) - vl (vestP x t d) := by
  have := vest_lo ho hr t hd
  unfold lockP opP
  rw [cnOf_vl]
  unfold restI
  rw [if_pos (by omega)]
end
theorem lst_nil {z : Nat → Cn} (hz : Purse z) (h : ∀ d, d < 8 → vl (z d) = 0) : lst z 8 = [] := by
  have e : lst z 8 = lst zeroP 8 := lst_congr 8 fun d hd => by
    rw [cn_one (hz d hd).1 (hz d hd).2 (h d hd), cn_one (n := 0) (purse_zero d hd).1 (purse_zero d hd).2 (vl_zero d)]
  rw [e, lst_zero]
theorem lst_vl {z y : Nat → Cn} (hz : Purse z) (hy : Purse y) (h : ∀ d, d < 8 → vl (z d) = vl (y d)) : lst z 8 = lst y 8 := lst_congr 8 fun d hd => by
  exact (cn_one (hz d hd).1 (hz d hd).2 (h d hd)).trans (cn_one (hy d hd).1 (hy d hd).2 rfl).symm
/-- The parts of each coin are the list of the parts of each denomination. -/
theorem flat_one (f : Cn → Cn) (hf : ∀ x, (f x).d = x.d) (h0 : ∀ x, eq4 x.a x.b x.c x.e 0 0 0 0 = true → eq4 (f x).a (f x).b (f x).c (f x).e 0 0 0 0 = true) {z : Nat → Cn} (hz : Purse z) : ∀ k, k ≤ 8 → (lst z k).flatMap (fun x => oneD (f x)) = lst (fun d => f (z d)) k
  | 0, _ => rfl
  | k + 1, hk => by
    simp only [lst]
    rw [List.flatMap_append, flat_one f hf h0 hz k (by omega)]
    congr 1
    have hd := (hz k (by omega)).2
    unfold oneL
    split
    · rename_i h
      rw [if_pos (h0 _ h)]
      rfl
    · simp only [List.flatMap_cons, List.flatMap_nil, List.append_nil]
      unfold oneD
      rw [if_neg (by rw [hf, hd]; omega)]
      rfl
theorem ev_flat {al ys : List Cn} {a b : Int} (hwf : ∀ x ∈ al, CnWf x) (hr : rightFrom 0 al = true) (hl : ys.length = al.length) (h : ∀ (i : Nat) x y, al[i]? = some x → ys[i]? = some y → EvC a b x y) (ha : 0 ≤ a) (hab : a ≤ b) (hb : 0 < b) : ys.flatMap oneD = lst (evP al a b) 8 := by
  have hys : ys = al.map (fun x => ({cnOf 0 (vl x * a / b) with d := x.d} : Cn)) := by
    refine List.ext_getElem? fun i => ?_
    rw [List.getElem?_map]
    by_cases hi : i < al.length
    · have e1 := List.getElem?_eq_getElem hi
      have e2 := List.getElem?_eq_getElem (show i < ys.length by omega)
      rw [e1, e2]
      obtain ⟨h1, h2, h3⟩ := h i _ _ e1 e2
      have hx := hwf al[i] (List.getElem_mem hi)
      have hp := part_le (a := a) (b := b) (val_lo hx.2) ha hab hb
      have hv := val_hi hx.2
      generalize ys[i] = y at *
      generalize al[i] = x at *
      have hc := cnOf_vl (d := 0) (n := vl x * a / b)
      obtain ⟨e0, e1', e2', e3⟩ := val_inj h2 (cnOf_lim (d := 0) (n := vl x * a / b) hp.1 (by unfold vl; omega)) (show vl y = vl (cnOf 0 (vl x * a / b)) by rw [hc, h3])
      cases y
      simp only at h1 e0 e1' e2' e3
      simp only [Option.map_some]
      rw [h1, e0, e1', e2', e3]
    · rw [List.getElem?_eq_none (by omega), List.getElem?_eq_none (by omega)]
      rfl
  rw [hys, List.flatMap_map]
  have hz := amP_purse hwf
  have e := flat_one (fun x => ({cnOf 0 (vl x * a / b) with d := x.d} : Cn)) (fun _ => rfl) (fun x hx => ?_) hz 8 (Nat.le_refl _)
  · rw [amP_lst hr] at e
    rw [e]
    exact lst_congr 8 fun d hd => by
      have := (hz d hd).2
      simp only [evP, cnOf]
      rw [this]
  · rw [eq4_true] at hx
    have : vl x = 0 := by unfold vl; rw [hx.1, hx.2.1, hx.2.2.1, hx.2.2.2]; exact val0
    rw [this]
    simp [cnOf, eq4]
end Go.Proofs.Ytjhjgncnadhbhaa

/- jointurelaw06.even: the document's example. -/
namespace Go.Proofs.Ytjhjgncnadhbhaa
open Go.RowKit

set_option maxHeartbeats 4000000 in
theorem vested_1mid {s u t : Int} {a1 a2 : Option Addr} {c1 c2 : Nat} {al : List Cn} {pl : List Pd} (w : World) (h : PnAt w ⟨1, s, u, .slice a1 al.length c1, .slice a2 pl.length c2, al, pl⟩) (hw : PnWf ⟨1, s, u, .slice a1 al.length c1, .slice a2 pl.length c2, al, pl⟩) (ht1 : s < t) (ht2 : t < u) (hn : al.length ≤ 1048576) :
    Calls Try.prog 14 #[.agg #[.int .u8 1, .int .u64 s, .int .u64 u, .slice a1 al.length c1, .slice a2 pl.length c2], .int .u64 t] w fun e w' => ∃ (v : Value) (ys : List Cn), e = .returned v ∧ ys.length = al.length ∧ (∀ (i : Nat) x y, al[i]? = some x → ys[i]? = some y → EvC (t - s) (u - s) x y) ∧ w'.ownsRow w.heap.size 66 5 v (ys.flatMap oneD).length (cellsL (ys.flatMap oneD)) ∧ Below w.heap.size w w' := by
  have hb : Below w.heap.size w (w.alloc (.cells #[.int .u8 1, .int .u64 s, .int .u64 u, .slice a1 al.length c1, .slice a2 pl.length c2] 33)) := ba (Below.refl _ _) _
  have hE := evenly_mid _ (h.below hb) hw ht1 ht2 hn
  have hE' : Calls Try.prog 40 #[.agg #[.int .u8 1, .int .u64 s, .int .u64 u, .slice a1 al.length c1, .slice a2 pl.length c2], .int .u64 t] _ _ := hE
  clear hE
  go_enter Try.func14, Try.ntmps14
  go_wp2_with (go_at_call 40; refine hE'.mono ?_; rintro e w1 ⟨v, ys, rfl, h1, h2, h3, hb1⟩; generalize hq : ys.flatMap oneD = l' at h3; have hq' : Hid (ys.flatMap oneD = l') := hq; clear hq; obtain ⟨av, cv, rfl⟩ := row_slice h3)
  go_ret
  exact ⟨_, ys, rfl, h1, h2, by rw [hq'.out]; exact row_base h3 hb.size, bt hb hb1⟩
theorem even_list {ys : List Cn} (hl : ys.length = 1) (h : ∀ (i : Nat) x y, ([⟨0, 5, 0, 0, 0⟩] : List Cn)[i]? = some x → ys[i]? = some y → EvC (13 - 10) (20 - 10) x y) : ys.flatMap oneD = [⟨0, 1, 0, 0, 0⟩] := by
  match ys, hl with
  | [y], _ =>
    obtain ⟨h1, h2, h3⟩ := h 0 _ y rfl rfl
    obtain ⟨d, a, b, c, e⟩ := y
    have h4 : val a b c e = val 1 0 0 0 := by
      have e1 : val a b c e = val 5 0 0 0 * (13 - 10) / (20 - 10) := h3
      rw [e1, val_of, val_of]; rfl
    obtain ⟨rfl, rfl, rfl, rfl⟩ := val_inj h2 (by unfold Lim; omega) h4
    have h5 : d = 0 := h1
    subst h5
    rfl
theorem even_cells {W : World} {base : Nat} {v : Value} (h : W.ownsRow base 66 5 v 1 (cellsL [⟨0, 1, 0, 0, 0⟩])) : ∃ g cap, v = .slice (some ⟨g, 0, none⟩) 1 cap ∧ g < W.heap.size ∧ W.cell? ⟨g, 1, none⟩ = some (.int .u64 1) ∧ W.cell? ⟨g, 2, none⟩ = some (.int .u64 0) ∧ W.cell? ⟨g, 3, none⟩ = some (.int .u64 0) ∧ W.cell? ⟨g, 4, none⟩ = some (.int .u64 0) := by
  rcases h.2 with ⟨_, h0⟩ | ⟨g, cap, cur, rfl, h1, h2, h3⟩
  · omega
  · have key : ∀ (j : Nat) u, (cellsL [⟨0, 1, 0, 0, 0⟩])[j]? = some u → W.cell? ⟨g, j, none⟩ = some u := fun j u hj => by
      have := h.cells (g := g) rfl j u hj
      rwa [add_cell, Nat.zero_add] at this
    exact ⟨g, cap, rfl, (Array.getElem?_eq_some_iff.1 h2).1, key 1 _ rfl, key 2 _ rfl, key 3 _ rfl, key 4 _ rfl⟩
set_option maxRecDepth 20000 in
set_option maxHeartbeats 8000000 in
theorem even_any (w : World) : Calls Try.prog 6 #[] w fun e w' => e = .returned (.bool true) ∧ Below w.heap.size w w' := by
  have heq := eq_num
  have hb0 : Below w.heap.size w ((w.alloc (.cells #[.int .u8 0, .int .u64 5, .int .u64 0, .int .u64 0, .int .u64 0] 66)).alloc (.cells #[.int .u8 1, .int .u64 10, .int .u64 20, .slice (some ⟨w.heap.size, 0, none⟩) 1 1, .slice none 0 0] 33)) := ba (ba (Below.refl _ _) _) _
  obtain ⟨U, hU⟩ : ∃ U, U = (w.alloc (.cells #[.int .u8 0, .int .u64 5, .int .u64 0, .int .u64 0, .int .u64 0] 66)).alloc (.cells #[.int .u8 1, .int .u64 10, .int .u64 20, .slice (some ⟨w.heap.size, 0, none⟩) 1 1, .slice none 0 0] 33) := ⟨_, rfl⟩
  rw [← hU] at hb0
  have hUc : U.heap[w.heap.size]? = some (.cells #[.int .u8 0, .int .u64 5, .int .u64 0, .int .u64 0, .int .u64 0] 66 (0, 0)) := by rw [hU]; exact (al_old (by simp)).trans (al_at rfl)
  have hUp : U.heap[w.heap.size + 1]? = some (.cells #[.int .u8 1, .int .u64 10, .int .u64 20, .slice (some ⟨w.heap.size, 0, none⟩) 1 1, .slice none 0 0] 33 (0, 0)) := by rw [hU]; exact al_at (by simp)
  have hUs : w.heap.size + 1 < U.heap.size := by rw [hU]; simp
  have hA : ∀ X, Below U.heap.size U X → PnAt X ⟨1, 10, 20, .slice (some ⟨w.heap.size, 0, none⟩) ([⟨0, 5, 0, 0, 0⟩] : List Cn).length 1, .slice none ([] : List Pd).length 0, [⟨0, 5, 0, 0, 0⟩], []⟩ := fun X hX => ⟨(block_coins (l := [⟨0, 5, 0, 0, 0⟩]) ((hX.block w.heap.size (by omega)).trans hUc) rfl (by simp) (by simp)).cl, .inl ⟨rfl, _, _, rfl⟩⟩
  have hW : PnWf ⟨1, 10, 20, .slice (some ⟨w.heap.size, 0, none⟩) ([⟨0, 5, 0, 0, 0⟩] : List Cn).length 1, .slice none ([] : List Pd).length 0, [⟨0, 5, 0, 0, 0⟩], []⟩ := ⟨by simp, by simp, by simp, fun y hy => by rw [List.mem_singleton] at hy; subst hy; exact ⟨by simp, by unfold Lim; simp⟩⟩
  have hV := vested_1mid (t := 13) U (hA U (Below.refl _ _)) hW (by omega) (by omega) (by simp)
  have hg : (decide ((10 : Int) < 20) && givesB ⟨1, 10, 20, .slice (some ⟨w.heap.size, 0, none⟩) ([⟨0, 5, 0, 0, 0⟩] : List Cn).length 1, .slice none ([] : List Pd).length 0, [⟨0, 5, 0, 0, 0⟩], []⟩ && ([] : List Pd).isEmpty) = true := (show (decide ((10 : Int) < 20) && (someB [⟨0, 5, 0, 0, 0⟩] && decide ((20 : Int) ≤ 1099511627776)) && ([] : List Pd).isEmpty) = true from by decide)
  have hR1 : Hid (∀ X, Below U.heap.size U X → Calls Try.prog 12 #[.agg #[.int .u8 1, .int .u64 10, .int .u64 20, .slice (some ⟨w.heap.size, 0, none⟩) 1 1, .slice none 0 0]] X fun e w' => e = .returned (.bool true) ∧ Below X.heap.size X w') := fun X hX => by
    have := planRight_1 X (hA X hX) hW
    rw [hg] at this
    exact this
  have hR0 : Hid (∀ X, Calls Try.prog 12 #[.agg #[.int .u8 0, .int .u64 0, .int .u64 0, .slice none 0 0, .slice none 0 0]] X fun e w' => e = .returned (.bool true) ∧ Below X.heap.size X w') := fun X => planRight_0 (s := 0) (t := 0) (a1 := none) (a2 := none) (c1 := 0) (c2 := 0) (al := []) (pl := []) X ⟨.inl ⟨rfl, _, _, rfl⟩, .inl ⟨rfl, _, _, rfl⟩⟩
  have hR6 : Hid (∀ X, Calls Try.prog 12 #[.agg #[.int .u8 6, .int .u64 0, .int .u64 0, .slice none 0 0, .slice none 0 0]] X fun e w' => e = .returned (.bool false) ∧ Below X.heap.size X w') := fun X => planRight_6 6 (by omega) (by omega) X _ _
  have hV' : Calls Try.prog 14 #[.agg #[.int .u8 1, .int .u64 10, .int .u64 20, .slice (some ⟨w.heap.size, 0, none⟩) 1 1, .slice none 0 0], .int .u64 13] U fun e w' => ∃ g cap, e = .returned (.slice (some ⟨g, 0, none⟩) 1 cap) ∧ g < w'.heap.size ∧ (w'.cell? ⟨g, 1, none⟩ = some (.int .u64 1) ∧ w'.cell? ⟨g, 2, none⟩ = some (.int .u64 0) ∧ w'.cell? ⟨g, 3, none⟩ = some (.int .u64 0) ∧ w'.cell? ⟨g, 4, none⟩ = some (.int .u64 0)) ∧ Below U.heap.size U w' := by
    refine Calls.mono hV ?_
    rintro e w' ⟨v, ys, rfl, h1, h2, h3, h4⟩
    rw [even_list h1 h2] at h3
    obtain ⟨g, cap, rfl, h5, h6⟩ := even_cells h3
    exact ⟨g, cap, rfl, h5, h6, h4⟩
  clear hV hg hA hW
  have hU' : Hid _ := hU
  go_enter Try.func6, Try.ntmps6
  go_wp2_with (first
    | (go_at_call 14; rw [← hU]; refine hV'.mono ?_; clear hU; rintro e w1 ⟨g, cap, rfl, hgl, ⟨q1, q2, q3, q4⟩, hb1⟩; obtain ⟨cp, fp⟩ := cells_of_block ((hb1.block (w.heap.size + 1) hUs).trans hUp))
    | (go_at_call 12; with_reducible refine (hR1.out _ hb1).mono ?_; rintro e w2 ⟨rfl, hb2⟩; have r1 := (hb2.cell (p := ⟨g, 1, none⟩) hgl).trans q1; have r2 := (hb2.cell (p := ⟨g, 2, none⟩) hgl).trans q2; have r3 := (hb2.cell (p := ⟨g, 3, none⟩) hgl).trans q3; have r4 := (hb2.cell (p := ⟨g, 4, none⟩) hgl).trans q4)
    | (go_at_call 12; with_reducible refine (hR0.out _).mono ?_; rintro e w3 ⟨rfl, hb3⟩)
    | (go_at_call 12; with_reducible refine (hR6.out _).mono ?_; rintro e w4 ⟨rfl, hb4⟩))
  go_ret
  exact ⟨by simp, bt hb0 (bt hb1 (bt hb2 (bt hb3 hb4)))⟩
end Go.Proofs.Ytjhjgncnadhbhaa
