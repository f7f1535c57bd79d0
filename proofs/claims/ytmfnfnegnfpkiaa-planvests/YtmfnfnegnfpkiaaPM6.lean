
/- Several texts, one behind the other: PL12, PL13, PL14. -/
import Derived.Test.YtmfnfnegnfpkiaaPM5
import Derived.Test.YtmfnfnegnfpkiaaC14
import Derived.Deep.CutRange
/- The reference's Right of plans with periods. -/
set_option linter.unusedSimpArgs false
set_option linter.unusedVariables false
set_option maxRecDepth 20000
namespace Go.Proofs.Ytmfnfnegnfpkiaa
open Go.RowKit

theorem lst_inj {z y : Nat → Cn} (hz : Purse z) (hy : Purse y) (h : lst z 8 = lst y 8) : ∀ d, d < 8 → vl (z d) = vl (y d) := fun d hd => by
  rw [← amt_full hz hd, ← amt_full hy hd, h]
theorem clB_lst {z y : Nat → Cn} (hz : Purse z) (hy : Purse y) : clB (lst z 8) (lst y 8) = all8 (fun d => vl (z d)) (fun d => vl (y d)) := by
  apply bool_ext
  rw [clB_true, all8_true]
  exact ⟨lst_inj hz hy, lst_vl hz hy⟩
theorem all_not {pl : List Pd} {i : Nat} (hi : i < pl.length) (h : pdR pl[i] = false) : pl.all pdR = false := by
  rw [Bool.eq_false_iff]; intro e
  have := List.all_eq_true.1 e pl[i] (List.getElem_mem hi)
  rw [h] at this; cases this
section
variable {k s t : Int} {a1 a2 : Option Addr} {c1 c2 : Nat} {al : List Cn} {pl : List Pd}
set_option maxRecDepth 20000 in
set_option maxHeartbeats 16000000 in
theorem rightR6_3 (w : World) (h : PnAt w ⟨3, s, t, .slice a1 al.length c1, .slice a2 pl.length c2, al, pl⟩) (ho : PnOk ⟨3, s, t, .slice a1 al.length c1, .slice a2 pl.length c2, al, pl⟩) (hg : givesB ⟨3, s, t, .slice a1 al.length c1, .slice a2 pl.length c2, al, pl⟩ = true) :
    Calls Try.prog 14 #[.agg #[.int .u8 3, .int .u64 s, .int .u64 t, .slice a1 al.length c1, .slice a2 pl.length c2]] w fun e w' => e = .returned (.bool (stepsB ⟨3, s, t, .slice a1 al.length c1, .slice a2 pl.length c2, al, pl⟩)) ∧ Below w.heap.size w w' := by
  have hb : Below w.heap.size w (w.alloc (.cells #[.int .u8 3, .int .u64 s, .int .u64 t, .slice a1 al.length c1, .slice a2 pl.length c2] 26)) := ba (Below.refl _ _) _
  have hP0 : (w.alloc (.cells #[.int .u8 3, .int .u64 s, .int .u64 t, .slice a1 al.length c1, .slice a2 pl.length c2] 26)).heap.size = w.heap.size + 1 := by simp
  have hR := rightRCL_any _ (h.1.below hb) ho.w.al
  have hkeep : Hid (∀ X, Below (w.alloc (.cells #[.int .u8 3, .int .u64 s, .int .u64 t, .slice a1 al.length c1, .slice a2 pl.length c2] 26)).heap.size (w.alloc (.cells #[.int .u8 3, .int .u64 s, .int .u64 t, .slice a1 al.length c1, .slice a2 pl.length c2] 26)) X → X.cell? ⟨w.heap.size, 0, none⟩ = some (.int .u8 3) ∧ X.cell? ⟨w.heap.size, 1, none⟩ = some (.int .u64 s) ∧ X.cell? ⟨w.heap.size, 2, none⟩ = some (.int .u64 t) ∧ X.cell? ⟨w.heap.size, 3, none⟩ = some (.slice a1 al.length c1) ∧ X.cell? ⟨w.heap.size, 4, none⟩ = some (.slice a2 pl.length c2)) := fun X hX => by
    have q1 := (hX.block w.heap.size (by simp)).trans (al_at rfl)
    exact ⟨(cells_of_block q1).1 0, (cells_of_block q1).1 1, (cells_of_block q1).1 2, (cells_of_block q1).1 3, (cells_of_block q1).1 4⟩
  have hl1 := h.1.len
  have hlen := h.2.len
  obtain ⟨he, hr, ht⟩ := gives_parts hg
  simp only at hR he hr ht hlen hl1
  have hlen' : (pl.length : Int) ≤ 9223372036854775807 := by omega
  have hd : ((al.length : Int) == 0) = false := by have : al.length ≠ 0 := fun e => he (List.eq_nil_of_length_eq_zero e); simp; omega
  have hd' : ¬ (al.length : Int) = 0 := by simpa using hd
  have ht' : ¬ 1099511627776 < t := by omega
  rw [hr] at hR
  have hP : Hid _ := pds_at h.2
  have hA : Hid (∀ X, Below w.heap.size w X → IsCL X (.slice a1 al.length c1) (lst (amP al) 8)) := fun X hX => by rw [amP_lst hr]; exact h.1.below hX
  have hyA := amP_purse ho.w.al
  have hvA : Hid (∀ d, d < 8 → vl (amP al d) < 115792089237316195423570985008687907853269984665640564039457584007913129639936) := fun d hd => (vl_lo hyA hd).2
  have hwf : ∀ q ∈ pl, PdWf q := ho.p
  have hws := ho.w.s
  have hwe := ho.w.e
  simp only at hyA hws hwe
  have hpur := sumP_purse hwf
  have hsb : Hid (stepsB ⟨3, s, t, .slice a1 al.length c1, .slice a2 pl.length c2, al, pl⟩ = (decide (1 ≤ pl.length) && decide (pl.length ≤ 16) && pl.all pdR && decide (s + lenS pl = t) && all8 (tot pl) (fun d => vl (amP al d)))) := rfl
  generalize hK : stepsB ⟨3, s, t, .slice a1 al.length c1, .slice a2 pl.length c2, al, pl⟩ = K at *
  clear hK hg h ho he hr
  by_cases hlo : pl.length = 0
  · have hr : Hid (K = false) := by unfold Hid; rw [hsb.out, decide_eq_false (by omega : ¬ 1 ≤ pl.length)]; simp
    obtain rfl : pl = [] := List.eq_nil_of_length_eq_zero hlo
    clear hsb hA hP hlen hlen' hlo hpur hwf hyA hvA hP0
    simp only [List.length_nil] at hb hR hkeep ⊢
    go_enter Try.func14, Try.ntmps14
    go_wp2_with (go_at_call 24; refine hR.mono ?_; rintro e w1 ⟨rfl, hb1⟩; obtain ⟨q0, q1, q2, q3, q4⟩ := hkeep.out _ hb1)
    go_ret
    rw [hr.out]
    exact ⟨rfl, bt hb hb1⟩
  have hlo' : ¬ (pl.length : Int) = 0 := by omega
  have hlo2 : ((pl.length : Int) == 0) = false := beq_eq_false_iff_ne.2 hlo'
  by_cases hhi : 16 < pl.length
  · have hhi' : (16 : Int) < (pl.length : Int) := by omega
    have hr : Hid (K = false) := by unfold Hid; rw [hsb.out, decide_eq_false (by omega : ¬ pl.length ≤ 16)]; simp
    clear hsb hA
    go_enter Try.func14, Try.ntmps14
    go_wp2_with (go_at_call 24; refine hR.mono ?_; rintro e w1 ⟨rfl, hb1⟩; obtain ⟨q0, q1, q2, q3, q4⟩ := hkeep.out _ hb1)
    go_ret
    rw [hr.out]
    exact ⟨rfl, bt hb hb1⟩
  have hhi' : ¬ (16 : Int) < (pl.length : Int) := by omega
  rw [decide_eq_true (by omega : 1 ≤ pl.length), decide_eq_true (by omega : pl.length ≤ 16)] at hsb
  by_cases hst : t < s
  · have hr : Hid (K = false) := by unfold Hid; rw [hsb.out, decide_eq_false (by have := lenS_lo hwf; omega : ¬ s + lenS pl = t)]; simp
    clear hsb hA
    go_enter Try.func14, Try.ntmps14
    go_wp2_with (go_at_call 24; refine hR.mono ?_; rintro e w1 ⟨rfl, hb1⟩; obtain ⟨q0, q1, q2, q3, q4⟩ := hkeep.out _ hb1)
    go_ret
    rw [hr.out]
    exact ⟨rfl, bt hb hb1⟩
  have hw1 : IntKind.u64.wrap (t - s) = t - s := by rw [IntKind.wrap_u64]; omega
  go_enter Try.func14, Try.ntmps14
  go_wp2_with (go_at_call 24; refine hR.mono ?_; rintro e w1 ⟨rfl, hb1⟩; obtain ⟨q0, q1, q2, q3, q4⟩ := hkeep.out _ hb1)
  generalize (w.alloc (.cells #[.int .u8 3, .int .u64 s, .int .u64 t, .slice a1 al.length c1, .slice a2 pl.length c2] 26)) = P at *
  have hb0 : Below w.heap.size w w1 := bt hb hb1
  go_loopw [3, 4, 5] (fun lv av iv X => ∃ (i n c : Nat) (a : Option Addr) (f : Int), i ≤ pl.length ∧ lv = .int .u64 f ∧ av = .slice a n c ∧ iv = .int .i64 (i : Int) ∧ Hid (f = t - s - lenS (pl.take i)) ∧ 0 ≤ f ∧ f < 18446744073709551616 ∧ Hid (∀ q ∈ pl.take i, pdR q = true) ∧ Hid (∀ d, d < 8 → tot (pl.take i) d < 115792089237316195423570985008687907853269984665640564039457584007913129639936) ∧ Hid (IsCoins X (.slice a n c) (lst (sumP (pl.take i)) 8)) ∧ Below P.heap.size P X ∧ Below w.heap.size w X) (fun _ _ iv _ => pl.length - (intOf iv).toNat)
  case atStart => exact ⟨0, 0, 0, none, t - s, by omega, rfl, rfl, rfl, by unfold Hid; simp [lenS], by omega, by omega, by unfold Hid; simp, fun d _ => by simp [tot], by unfold Hid; rw [List.take_zero, sumP_nil]; exact .inl ⟨rfl, _, _, rfl⟩, hb1, hb0⟩
  case round =>
    obtain ⟨i, n, c, a, f, hi, rfl, rfl, rfl, hfe, hf0, hf1, hall, hfit, hc, hX, hXw⟩ := hrel
    obtain ⟨k0, k1, k2, k3, k4⟩ := hkeep.out _ hX
    by_cases hlt : i < pl.length
    · have hlt' : (i : Int) < (pl.length : Int) := by omega
      obtain ⟨blk, off, rfl, hbl, hA1⟩ := hP.out i pl[i] (List.getElem?_eq_getElem hlt)
      obtain ⟨d0, d1, hxc⟩ := hA1.below hbl hXw
      obtain ⟨a3, c3, ev1⟩ := hxc.slice
      have hq := hwf pl[i] (List.getElem_mem hlt)
      have hqn := hq.n
      rw [ev1] at d1 hxc
      have hll := hxc.len
      have hbx : Below wr.heap.size wr (wr.alloc (.cells #[.int .u64 pl[i].n, .slice a3 pl[i].l.length c3] 73)) := ba (Below.refl _ _) _
      have hS := rightRCL_any _ (hxc.below hbx) hq.l
      have hpd : Hid (pdR pl[i] = (decide (1 ≤ pl[i].n) && (!pl[i].l.isEmpty && rightFrom 0 pl[i].l))) := rfl
      have hbad : Hid (pdR pl[i] = false → K = false) := by
        intro e
        rw [hsb.out, all_not hlt e]; simp
      have hlenn : Hid (lenS (pl.take (i + 1)) = lenS (pl.take i) + pl[i].n) := by unfold Hid; rw [List.take_succ_eq_append_getElem hlt, lenS_snoc]
      by_cases hn : pl[i].n = 0
      · have hn2 : (pl[i].n == 0) = true := by simp [hn]
        have hr : Hid (K = false) := hbad.out (by rw [hpd.out, decide_eq_false (by omega)]; rfl)
        clear hsb hA hS hpd hbad hc hall hfit
        go_wp2
        go_ret
        rw [hr.out]
        exact ⟨rfl, ba hXw _⟩
      have hn2 : (pl[i].n == 0) = false := by simpa using hn
      by_cases hfl : f < pl[i].n
      · have hr : Hid (K = false) := by
          unfold Hid
          have := (lenS_take hwf (i + 1)).2
          have h2 := hlenn.out
          have h3 := hfe.out
          rw [hsb.out, decide_eq_false (by omega : ¬ s + lenS pl = t)]; simp
        clear hsb hA hS hpd hbad hc hall hfit
        go_wp2
        go_ret
        rw [hr.out]
        exact ⟨rfl, ba hXw _⟩
      by_cases hem : pl[i].l = []
      · have hr : Hid (K = false) := hbad.out (by rw [hpd.out, hem]; simp)
        have hz : pl[i].l.length = 0 := by rw [hem]; rfl
        rw [hz] at d1
        clear hsb hA hS hpd hbad hc hall hfit hll hem
        go_wp2
        go_ret
        rw [hr.out]
        exact ⟨rfl, ba hXw _⟩
      have hem1 : ((pl[i].l.length : Int) == 0) = false := by have : pl[i].l.length ≠ 0 := fun e => hem (List.eq_nil_of_length_eq_zero e); simp; omega
      have hem2 : ¬ (pl[i].l.length : Int) = 0 := by simpa using hem1
      cases hsm : rightFrom 0 pl[i].l
      · have hr : Hid (K = false) := hbad.out (by rw [hpd.out, hsm]; simp)
        rw [hsm] at hS
        clear hsb hA hpd hbad hc hall hfit hem
        go_wp2_with (go_at_call 24; refine hS.mono ?_; rintro e w2 ⟨rfl, hb2⟩)
        go_ret
        rw [hr.out]
        exact ⟨rfl, bt (ba hXw _) hb2⟩
      rw [hsm] at hS
      have hpt : pdR pl[i] = true := by
        rw [hpd.out, hsm, decide_eq_true (by omega : 1 ≤ pl[i].n)]
        cases e : pl[i].l with | nil => exact absurd e hem | cons _ _ => rfl
      have hc2 : Hid (∀ q ∈ pl.take (i + 1), pdR q = true) := by
        intro q hq'
        rw [List.take_succ_eq_append_getElem hlt] at hq'
        rcases List.mem_append.1 hq' with h | h
        · exact hall.out q h
        · rw [List.mem_singleton] at h; subst h; exact hpt
      have hw2 : IntKind.u64.wrap (f - pl[i].n) = f - pl[i].n := by rw [IntKind.wrap_u64]; omega
      have hfe2 : Hid (f - pl[i].n = t - s - lenS (pl.take (i + 1))) := by unfold Hid; rw [hlenn.out, hfe.out]; omega
      have hz := sumP_purse (l := pl.take i) (fun q hq => hwf q (List.mem_of_mem_take hq)) hfit.out
      have hy := amP_purse hq.l
      have hxr := hxc.lst hsm
      have hbox : (wr.alloc (.cells #[.int .u64 pl[i].n, .slice a3 pl[i].l.length c3] 73)).heap[wr.heap.size]? = some (.cells #[.int .u64 pl[i].n, .slice a3 pl[i].l.length c3] 73 (0, 0)) := al_at rfl
      have hbs : wr.heap.size < (wr.alloc (.cells #[.int .u64 pl[i].n, .slice a3 pl[i].l.length c3] 73)).heap.size := by simp
      have hpk : Hid (∀ X, Below (wr.alloc (.cells #[.int .u64 pl[i].n, .slice a3 pl[i].l.length c3] 73)).heap.size (wr.alloc (.cells #[.int .u64 pl[i].n, .slice a3 pl[i].l.length c3] 73)) X → X.cell? ⟨wr.heap.size, 0, none⟩ = some (.int .u64 pl[i].n) ∧ X.cell? ⟨wr.heap.size, 1, none⟩ = some (.slice a3 pl[i].l.length c3)) := fun X hX => by
        have q1 := (hX.block wr.heap.size hbs).trans hbox
        exact ⟨(cells_of_block q1).1 0, (cells_of_block q1).1 1⟩
      by_cases hff : ∀ d, d < 8 → tot (pl.take (i + 1)) d < 115792089237316195423570985008687907853269984665640564039457584007913129639936
      · have hC : Hid (∀ X, Below wr.heap.size wr X → _) := fun X hX => addRC_fit hz hy (fun d hd => by rw [← tot_next hlt]; exact hff d hd) X (hc.out.below hX) (hxr.below hX)
        rw [sum_next hlt] at hC
        have hff : Hid _ := hff
        clear hz hy hxr hxc hA1 hfit hc ev1 hsb hA hpd hbad hall hem hlenn hbox hpt
        go_wp2_with (first
          | (go_at_call 24; refine hS.mono ?_; rintro e w2 ⟨rfl, hb2⟩; obtain ⟨p0, p1⟩ := hpk.out _ hb2)
          | (go_at_call 22; refine (hC.out _ (bt hbx hb2)).mono ?_; rintro e w3 ⟨u, rfl, hu, hb3⟩; obtain ⟨au, cu, rfl⟩ := hu.sl; have hu : Hid _ := hu))
        all_goals go_roundw
        case rel => exact ⟨i + 1, _, _, _, f - pl[i].n, by omega, rfl, rfl, by go_num, hfe2, by omega, by omega, hc2, hff, hu, bt (bt (ba hX _) hb2) hb3, bt (bt (ba hXw _) hb2) hb3⟩
        case measure => (simp [intOf]; omega)
      · have hex : ∃ d, d < 8 ∧ 115792089237316195423570985008687907853269984665640564039457584007913129639936 ≤ tot (pl.take (i + 1)) d := Classical.byContradiction fun hn => hff fun d hd => Int.not_le.1 fun e => hn ⟨d, hd, e⟩
        have hC : Hid (∀ X, Below wr.heap.size wr X → _) := fun X hX => addRC_no hz hy (by obtain ⟨d, hd, e⟩ := hex; exact ⟨d, hd, by rw [← tot_next hlt]; exact e⟩) X (hc.out.below hX) (hxr.below hX)
        have hr : Hid (K = false) := by
          unfold Hid
          have hex2 : ∃ d, d < 8 ∧ 115792089237316195423570985008687907853269984665640564039457584007913129639936 ≤ tot pl d := by
            obtain ⟨d, hd, e⟩ := hex
            have := tot_take hwf (i + 1) hd
            exact ⟨d, hd, by omega⟩
          rw [hsb.out, all8_le hex2 hvA.out]; simp
        clear hz hy hxr hxc hA1 hfit hc ev1 hff hex hsb hA hpd hbad hall hem hlenn hbox hpt
        go_wp2_with (first
          | (go_at_call 24; refine hS.mono ?_; rintro e w2 ⟨rfl, hb2⟩; obtain ⟨p0, p1⟩ := hpk.out _ hb2)
          | (go_at_call 22; refine (hC.out _ (bt hbx hb2)).mono ?_; rintro e w3 ⟨rfl, hb3⟩))
        go_ret
        rw [hr.out]
        exact ⟨rfl, bt (bt (ba hXw _) hb2) hb3⟩
    · obtain rfl : i = pl.length := by omega
      rw [List.take_length] at hall hc hfe hfit
      rw [List.all_eq_true.2 hall.out] at hsb
      have hz := hpur hfit.out
      by_cases hft : f = 0
      · have hfb : (f == 0) = true := by simp [hft]
        have hr : Hid (K = clB (lst (sumP pl) 8) (lst (amP al) 8)) := by
          unfold Hid
          rw [hsb.out, clB_lst hz hyA, decide_eq_true (by have := hfe.out; omega : s + lenS pl = t)]
          simp [sumP_vl]
        have hCL := hc.out.cl
        clear hsb hall hfit hfe hc
        go_wp2_with (go_at_call 17; refine (sameCL_any _ hCL (hA.out _ hXw)).mono ?_; rintro e w2 ⟨rfl, hb2⟩)
        go_ret
        rw [hr.out]
        exact ⟨by simp, bt hXw hb2⟩
      · have hfb : (f == 0) = false := by simpa using hft
        have hr : Hid (K = false) := by unfold Hid; rw [hsb.out, decide_eq_false (by have := hfe.out; omega : ¬ s + lenS pl = t)]; simp
        clear hsb hall hfit hfe hc hA
        go_wp2
        go_ret
        rw [hr.out]
        exact ⟨by simp, hXw⟩
set_option maxRecDepth 20000 in
set_option maxHeartbeats 16000000 in
theorem rightR6_5 (w : World) (h : PnAt w ⟨5, s, t, .slice a1 al.length c1, .slice a2 pl.length c2, al, pl⟩) (ho : PnOk ⟨5, s, t, .slice a1 al.length c1, .slice a2 pl.length c2, al, pl⟩) (hg : givesB ⟨5, s, t, .slice a1 al.length c1, .slice a2 pl.length c2, al, pl⟩ = true) :
    Calls Try.prog 14 #[.agg #[.int .u8 5, .int .u64 s, .int .u64 t, .slice a1 al.length c1, .slice a2 pl.length c2]] w fun e w' => e = .returned (.bool (stepsB ⟨5, s, t, .slice a1 al.length c1, .slice a2 pl.length c2, al, pl⟩)) ∧ Below w.heap.size w w' := by
  have hb : Below w.heap.size w (w.alloc (.cells #[.int .u8 5, .int .u64 s, .int .u64 t, .slice a1 al.length c1, .slice a2 pl.length c2] 26)) := ba (Below.refl _ _) _
  have hP0 : (w.alloc (.cells #[.int .u8 5, .int .u64 s, .int .u64 t, .slice a1 al.length c1, .slice a2 pl.length c2] 26)).heap.size = w.heap.size + 1 := by simp
  have hR := rightRCL_any _ (h.1.below hb) ho.w.al
  have hkeep : Hid (∀ X, Below (w.alloc (.cells #[.int .u8 5, .int .u64 s, .int .u64 t, .slice a1 al.length c1, .slice a2 pl.length c2] 26)).heap.size (w.alloc (.cells #[.int .u8 5, .int .u64 s, .int .u64 t, .slice a1 al.length c1, .slice a2 pl.length c2] 26)) X → X.cell? ⟨w.heap.size, 0, none⟩ = some (.int .u8 5) ∧ X.cell? ⟨w.heap.size, 1, none⟩ = some (.int .u64 s) ∧ X.cell? ⟨w.heap.size, 2, none⟩ = some (.int .u64 t) ∧ X.cell? ⟨w.heap.size, 3, none⟩ = some (.slice a1 al.length c1) ∧ X.cell? ⟨w.heap.size, 4, none⟩ = some (.slice a2 pl.length c2)) := fun X hX => by
    have q1 := (hX.block w.heap.size (by simp)).trans (al_at rfl)
    exact ⟨(cells_of_block q1).1 0, (cells_of_block q1).1 1, (cells_of_block q1).1 2, (cells_of_block q1).1 3, (cells_of_block q1).1 4⟩
  have hl1 := h.1.len
  have hlen := h.2.len
  obtain ⟨he, hr, ht⟩ := gives_parts hg
  simp only at hR he hr ht hlen hl1
  have hlen' : (pl.length : Int) ≤ 9223372036854775807 := by omega
  have hd : ((al.length : Int) == 0) = false := by have : al.length ≠ 0 := fun e => he (List.eq_nil_of_length_eq_zero e); simp; omega
  have hd' : ¬ (al.length : Int) = 0 := by simpa using hd
  have ht' : ¬ 1099511627776 < t := by omega
  rw [hr] at hR
  have hP : Hid _ := pds_at h.2
  have hA : Hid (∀ X, Below w.heap.size w X → IsCL X (.slice a1 al.length c1) (lst (amP al) 8)) := fun X hX => by rw [amP_lst hr]; exact h.1.below hX
  have hyA := amP_purse ho.w.al
  have hvA : Hid (∀ d, d < 8 → vl (amP al d) < 115792089237316195423570985008687907853269984665640564039457584007913129639936) := fun d hd => (vl_lo hyA hd).2
  have hwf : ∀ q ∈ pl, PdWf q := ho.p
  have hws := ho.w.s
  have hwe := ho.w.e
  simp only at hyA hws hwe
  have hpur := sumP_purse hwf
  have hsb : Hid (stepsB ⟨5, s, t, .slice a1 al.length c1, .slice a2 pl.length c2, al, pl⟩ = (decide (1 ≤ pl.length) && decide (pl.length ≤ 16) && pl.all pdR && decide (s + lenS pl = t) && all8 (tot pl) (fun d => vl (amP al d)))) := rfl
  generalize hK : stepsB ⟨5, s, t, .slice a1 al.length c1, .slice a2 pl.length c2, al, pl⟩ = K at *
  clear hK hg h ho he hr
  by_cases hlo : pl.length = 0
  · have hr : Hid (K = false) := by unfold Hid; rw [hsb.out, decide_eq_false (by omega : ¬ 1 ≤ pl.length)]; simp
    obtain rfl : pl = [] := List.eq_nil_of_length_eq_zero hlo
    clear hsb hA hP hlen hlen' hlo hpur hwf hyA hvA hP0
    simp only [List.length_nil] at hb hR hkeep ⊢
    go_enter Try.func14, Try.ntmps14
    go_wp2_with (go_at_call 24; refine hR.mono ?_; rintro e w1 ⟨rfl, hb1⟩; obtain ⟨q0, q1, q2, q3, q4⟩ := hkeep.out _ hb1)
    go_ret
    rw [hr.out]
    exact ⟨rfl, bt hb hb1⟩
  have hlo' : ¬ (pl.length : Int) = 0 := by omega
  have hlo2 : ((pl.length : Int) == 0) = false := beq_eq_false_iff_ne.2 hlo'
  by_cases hhi : 16 < pl.length
  · have hhi' : (16 : Int) < (pl.length : Int) := by omega
    have hr : Hid (K = false) := by unfold Hid; rw [hsb.out, decide_eq_false (by omega : ¬ pl.length ≤ 16)]; simp
    clear hsb hA
    go_enter Try.func14, Try.ntmps14
    go_wp2_with (go_at_call 24; refine hR.mono ?_; rintro e w1 ⟨rfl, hb1⟩; obtain ⟨q0, q1, q2, q3, q4⟩ := hkeep.out _ hb1)
    go_ret
    rw [hr.out]
    exact ⟨rfl, bt hb hb1⟩
  have hhi' : ¬ (16 : Int) < (pl.length : Int) := by omega
  rw [decide_eq_true (by omega : 1 ≤ pl.length), decide_eq_true (by omega : pl.length ≤ 16)] at hsb
  by_cases hst : t < s
  · have hr : Hid (K = false) := by unfold Hid; rw [hsb.out, decide_eq_false (by have := lenS_lo hwf; omega : ¬ s + lenS pl = t)]; simp
    clear hsb hA
    go_enter Try.func14, Try.ntmps14
    go_wp2_with (go_at_call 24; refine hR.mono ?_; rintro e w1 ⟨rfl, hb1⟩; obtain ⟨q0, q1, q2, q3, q4⟩ := hkeep.out _ hb1)
    go_ret
    rw [hr.out]
    exact ⟨rfl, bt hb hb1⟩
  have hw1 : IntKind.u64.wrap (t - s) = t - s := by rw [IntKind.wrap_u64]; omega
  go_enter Try.func14, Try.ntmps14
  go_wp2_with (go_at_call 24; refine hR.mono ?_; rintro e w1 ⟨rfl, hb1⟩; obtain ⟨q0, q1, q2, q3, q4⟩ := hkeep.out _ hb1)
  generalize (w.alloc (.cells #[.int .u8 5, .int .u64 s, .int .u64 t, .slice a1 al.length c1, .slice a2 pl.length c2] 26)) = P at *
  have hb0 : Below w.heap.size w w1 := bt hb hb1
  go_loopw [3, 4, 5] (fun lv av iv X => ∃ (i n c : Nat) (a : Option Addr) (f : Int), i ≤ pl.length ∧ lv = .int .u64 f ∧ av = .slice a n c ∧ iv = .int .i64 (i : Int) ∧ Hid (f = t - s - lenS (pl.take i)) ∧ 0 ≤ f ∧ f < 18446744073709551616 ∧ Hid (∀ q ∈ pl.take i, pdR q = true) ∧ Hid (∀ d, d < 8 → tot (pl.take i) d < 115792089237316195423570985008687907853269984665640564039457584007913129639936) ∧ Hid (IsCoins X (.slice a n c) (lst (sumP (pl.take i)) 8)) ∧ Below P.heap.size P X ∧ Below w.heap.size w X) (fun _ _ iv _ => pl.length - (intOf iv).toNat)
  case atStart => exact ⟨0, 0, 0, none, t - s, by omega, rfl, rfl, rfl, by unfold Hid; simp [lenS], by omega, by omega, by unfold Hid; simp, fun d _ => by simp [tot], by unfold Hid; rw [List.take_zero, sumP_nil]; exact .inl ⟨rfl, _, _, rfl⟩, hb1, hb0⟩
  case round =>
    obtain ⟨i, n, c, a, f, hi, rfl, rfl, rfl, hfe, hf0, hf1, hall, hfit, hc, hX, hXw⟩ := hrel
    obtain ⟨k0, k1, k2, k3, k4⟩ := hkeep.out _ hX
    by_cases hlt : i < pl.length
    · have hlt' : (i : Int) < (pl.length : Int) := by omega
      obtain ⟨blk, off, rfl, hbl, hA1⟩ := hP.out i pl[i] (List.getElem?_eq_getElem hlt)
      obtain ⟨d0, d1, hxc⟩ := hA1.below hbl hXw
      obtain ⟨a3, c3, ev1⟩ := hxc.slice
      have hq := hwf pl[i] (List.getElem_mem hlt)
      have hqn := hq.n
      rw [ev1] at d1 hxc
      have hll := hxc.len
      have hbx : Below wr.heap.size wr (wr.alloc (.cells #[.int .u64 pl[i].n, .slice a3 pl[i].l.length c3] 73)) := ba (Below.refl _ _) _
      have hS := rightRCL_any _ (hxc.below hbx) hq.l
      have hpd : Hid (pdR pl[i] = (decide (1 ≤ pl[i].n) && (!pl[i].l.isEmpty && rightFrom 0 pl[i].l))) := rfl
      have hbad : Hid (pdR pl[i] = false → K = false) := by
        intro e
        rw [hsb.out, all_not hlt e]; simp
      have hlenn : Hid (lenS (pl.take (i + 1)) = lenS (pl.take i) + pl[i].n) := by unfold Hid; rw [List.take_succ_eq_append_getElem hlt, lenS_snoc]
      by_cases hn : pl[i].n = 0
      · have hn2 : (pl[i].n == 0) = true := by simp [hn]
        have hr : Hid (K = false) := hbad.out (by rw [hpd.out, decide_eq_false (by omega)]; rfl)
        clear hsb hA hS hpd hbad hc hall hfit
        go_wp2
        go_ret
        rw [hr.out]
        exact ⟨rfl, ba hXw _⟩
      have hn2 : (pl[i].n == 0) = false := by simpa using hn
      by_cases hfl : f < pl[i].n
      · have hr : Hid (K = false) := by
          unfold Hid
          have := (lenS_take hwf (i + 1)).2
          have h2 := hlenn.out
          have h3 := hfe.out
          rw [hsb.out, decide_eq_false (by omega : ¬ s + lenS pl = t)]; simp
        clear hsb hA hS hpd hbad hc hall hfit
        go_wp2
        go_ret
        rw [hr.out]
        exact ⟨rfl, ba hXw _⟩
      by_cases hem : pl[i].l = []
      · have hr : Hid (K = false) := hbad.out (by rw [hpd.out, hem]; simp)
        have hz : pl[i].l.length = 0 := by rw [hem]; rfl
        rw [hz] at d1
        clear hsb hA hS hpd hbad hc hall hfit hll hem
        go_wp2
        go_ret
        rw [hr.out]
        exact ⟨rfl, ba hXw _⟩
      have hem1 : ((pl[i].l.length : Int) == 0) = false := by have : pl[i].l.length ≠ 0 := fun e => hem (List.eq_nil_of_length_eq_zero e); simp; omega
      have hem2 : ¬ (pl[i].l.length : Int) = 0 := by simpa using hem1
      cases hsm : rightFrom 0 pl[i].l
      · have hr : Hid (K = false) := hbad.out (by rw [hpd.out, hsm]; simp)
        rw [hsm] at hS
        clear hsb hA hpd hbad hc hall hfit hem
        go_wp2_with (go_at_call 24; refine hS.mono ?_; rintro e w2 ⟨rfl, hb2⟩)
        go_ret
        rw [hr.out]
        exact ⟨rfl, bt (ba hXw _) hb2⟩
      rw [hsm] at hS
      have hpt : pdR pl[i] = true := by
        rw [hpd.out, hsm, decide_eq_true (by omega : 1 ≤ pl[i].n)]
        cases e : pl[i].l with | nil => exact absurd e hem | cons _ _ => rfl
      have hc2 : Hid (∀ q ∈ pl.take (i + 1), pdR q = true) := by
        intro q hq'
        rw [List.take_succ_eq_append_getElem hlt] at hq'
        rcases List.mem_append.1 hq' with h | h
        · exact hall.out q h
        · rw [List.mem_singleton] at h; subst h; exact hpt
      have hw2 : IntKind.u64.wrap (f - pl[i].n) = f - pl[i].n := by rw [IntKind.wrap_u64]; omega
      have hfe2 : Hid (f - pl[i].n = t - s - lenS (pl.take (i + 1))) := by unfold Hid; rw [hlenn.out, hfe.out]; omega
      have hz := sumP_purse (l := pl.take i) (fun q hq => hwf q (List.mem_of_mem_take hq)) hfit.out
      have hy := amP_purse hq.l
      have hxr := hxc.lst hsm
      have hbox : (wr.alloc (.cells #[.int .u64 pl[i].n, .slice a3 pl[i].l.length c3] 73)).heap[wr.heap.size]? = some (.cells #[.int .u64 pl[i].n, .slice a3 pl[i].l.length c3] 73 (0, 0)) := al_at rfl
      have hbs : wr.heap.size < (wr.alloc (.cells #[.int .u64 pl[i].n, .slice a3 pl[i].l.length c3] 73)).heap.size := by simp
      have hpk : Hid (∀ X, Below (wr.alloc (.cells #[.int .u64 pl[i].n, .slice a3 pl[i].l.length c3] 73)).heap.size (wr.alloc (.cells #[.int .u64 pl[i].n, .slice a3 pl[i].l.length c3] 73)) X → X.cell? ⟨wr.heap.size, 0, none⟩ = some (.int .u64 pl[i].n) ∧ X.cell? ⟨wr.heap.size, 1, none⟩ = some (.slice a3 pl[i].l.length c3)) := fun X hX => by
        have q1 := (hX.block wr.heap.size hbs).trans hbox
        exact ⟨(cells_of_block q1).1 0, (cells_of_block q1).1 1⟩
      by_cases hff : ∀ d, d < 8 → tot (pl.take (i + 1)) d < 115792089237316195423570985008687907853269984665640564039457584007913129639936
      · have hC : Hid (∀ X, Below wr.heap.size wr X → _) := fun X hX => addRC_fit hz hy (fun d hd => by rw [← tot_next hlt]; exact hff d hd) X (hc.out.below hX) (hxr.below hX)
        rw [sum_next hlt] at hC
        have hff : Hid _ := hff
        clear hz hy hxr hxc hA1 hfit hc ev1 hsb hA hpd hbad hall hem hlenn hbox hpt
        go_wp2_with (first
          | (go_at_call 24; refine hS.mono ?_; rintro e w2 ⟨rfl, hb2⟩; obtain ⟨p0, p1⟩ := hpk.out _ hb2)
          | (go_at_call 22; refine (hC.out _ (bt hbx hb2)).mono ?_; rintro e w3 ⟨u, rfl, hu, hb3⟩; obtain ⟨au, cu, rfl⟩ := hu.sl; have hu : Hid _ := hu))
        all_goals go_roundw
        case rel => exact ⟨i + 1, _, _, _, f - pl[i].n, by omega, rfl, rfl, by go_num, hfe2, by omega, by omega, hc2, hff, hu, bt (bt (ba hX _) hb2) hb3, bt (bt (ba hXw _) hb2) hb3⟩
        case measure => (simp [intOf]; omega)
      · have hex : ∃ d, d < 8 ∧ 115792089237316195423570985008687907853269984665640564039457584007913129639936 ≤ tot (pl.take (i + 1)) d := Classical.byContradiction fun hn => hff fun d hd => Int.not_le.1 fun e => hn ⟨d, hd, e⟩
        have hC : Hid (∀ X, Below wr.heap.size wr X → _) := fun X hX => addRC_no hz hy (by obtain ⟨d, hd, e⟩ := hex; exact ⟨d, hd, by rw [← tot_next hlt]; exact e⟩) X (hc.out.below hX) (hxr.below hX)
        have hr : Hid (K = false) := by
          unfold Hid
          have hex2 : ∃ d, d < 8 ∧ 115792089237316195423570985008687907853269984665640564039457584007913129639936 ≤ tot pl d := by
            obtain ⟨d, hd, e⟩ := hex
            have := tot_take hwf (i + 1) hd
            exact ⟨d, hd, by omega⟩
          rw [hsb.out, all8_le hex2 hvA.out]; simp
        clear hz hy hxr hxc hA1 hfit hc ev1 hff hex hsb hA hpd hbad hall hem hlenn hbox hpt
        go_wp2_with (first
          | (go_at_call 24; refine hS.mono ?_; rintro e w2 ⟨rfl, hb2⟩; obtain ⟨p0, p1⟩ := hpk.out _ hb2)
          | (go_at_call 22; refine (hC.out _ (bt hbx hb2)).mono ?_; rintro e w3 ⟨rfl, hb3⟩))
        go_ret
        rw [hr.out]
        exact ⟨rfl, bt (bt (ba hXw _) hb2) hb3⟩
    · obtain rfl : i = pl.length := by omega
      rw [List.take_length] at hall hc hfe hfit
      rw [List.all_eq_true.2 hall.out] at hsb
      have hz := hpur hfit.out
      by_cases hft : f = 0
      · have hfb : (f == 0) = true := by simp [hft]
        have hr : Hid (K = clB (lst (sumP pl) 8) (lst (amP al) 8)) := by
          unfold Hid
          rw [hsb.out, clB_lst hz hyA, decide_eq_true (by have := hfe.out; omega : s + lenS pl = t)]
          simp [sumP_vl]
        have hCL := hc.out.cl
        clear hsb hall hfit hfe hc
        go_wp2_with (go_at_call 17; refine (sameCL_any _ hCL (hA.out _ hXw)).mono ?_; rintro e w2 ⟨rfl, hb2⟩)
        go_ret
        rw [hr.out]
        exact ⟨by simp, bt hXw hb2⟩
      · have hfb : (f == 0) = false := by simpa using hft
        have hr : Hid (K = false) := by unfold Hid; rw [hsb.out, decide_eq_false (by have := hfe.out; omega : ¬ s + lenS pl = t)]; simp
        clear hsb hall hfit hfe hc hA
        go_wp2
        go_ret
        rw [hr.out]
        exact ⟨by simp, hXw⟩
end
end Go.Proofs.Ytmfnfnegnfpkiaa

/- The reference's Right of any plan. -/
namespace Go.Proofs.Ytmfnfnegnfpkiaa
open Go.RowKit
theorem rightN_gives {x : Pn} (h0 : x.k ≠ 0) (h : givesB x = false) : rightB x = false := by
  unfold rightB rightN
  rw [h, if_neg h0]
  split
  · simp
  · split
    · simp
    · split
      · simp
      · split
        · simp
        · rfl
theorem rightR6_any {x : Pn} (w : World) (h : PnAt w x) (ho : PnOk x) :
    Calls Try.prog 14 #[pnV x] w fun e w' => e = .returned (.bool (rightB x)) ∧ Below w.heap.size w w' := by
  obtain ⟨k, s, t, av, pv, al, pl⟩ := x
  obtain ⟨a1, c1, e1⟩ := h.1.slice
  obtain ⟨a2, c2, e2⟩ := h.2.slice
  simp only at e1 e2
  subst e1 e2
  have hk := ho.w.k
  simp only at hk
  by_cases h0 : k = 0
  · subst h0
    exact rightR6_0 w h
  by_cases h6 : 5 < k
  · have e : rightB ⟨k, s, t, .slice a1 al.length c1, .slice a2 pl.length c2, al, pl⟩ = false := by
      unfold rightB rightN
      simp only
      rw [if_neg (by omega), if_neg h0, if_neg (by omega), if_neg (by omega), if_neg (by omega)]
    rw [e]
    exact rightR6_6 h6 w _ _
  cases hg : givesB ⟨k, s, t, .slice a1 al.length c1, .slice a2 pl.length c2, al, pl⟩
  · rw [rightN_gives (x := ⟨k, s, t, .slice a1 al.length c1, .slice a2 pl.length c2, al, pl⟩) h0 hg]
    exact rightR6_no (k := k) (by omega) (by omega) w h ho.w hg
  by_cases h3 : k = 3
  · subst h3
    have e : rightB ⟨3, s, t, .slice a1 al.length c1, .slice a2 pl.length c2, al, pl⟩ = (givesB ⟨3, s, t, .slice a1 al.length c1, .slice a2 pl.length c2, al, pl⟩ && stepsB ⟨3, s, t, .slice a1 al.length c1, .slice a2 pl.length c2, al, pl⟩) := rfl
    rw [e, hg, Bool.true_and]
    exact rightR6_3 w h ho hg
  by_cases h5 : k = 5
  · subst h5
    have e : rightB ⟨5, s, t, .slice a1 al.length c1, .slice a2 pl.length c2, al, pl⟩ = (givesB ⟨5, s, t, .slice a1 al.length c1, .slice a2 pl.length c2, al, pl⟩ && stepsB ⟨5, s, t, .slice a1 al.length c1, .slice a2 pl.length c2, al, pl⟩) := rfl
    rw [e, hg, Bool.true_and]
    exact rightR6_5 w h ho hg
  by_cases hp : pl = []
  · subst hp
    by_cases h1 : k = 1
    · subst h1
      have e : rightB ⟨1, s, t, .slice a1 al.length c1, .slice a2 ([] : List Pd).length c2, al, []⟩ = (decide (s < t) && givesB ⟨1, s, t, .slice a1 al.length c1, .slice a2 ([] : List Pd).length c2, al, []⟩ && true) := rfl
      rw [e, hg, Bool.and_true, Bool.and_true]
      exact rightR6_1 w h ho.w hg
    by_cases h2 : k = 2
    · subst h2
      have e : rightB ⟨2, s, t, .slice a1 al.length c1, .slice a2 ([] : List Pd).length c2, al, []⟩ = (s == 0 && givesB ⟨2, s, t, .slice a1 al.length c1, .slice a2 ([] : List Pd).length c2, al, []⟩ && true) := rfl
      rw [e, hg, Bool.and_true, Bool.and_true]
      exact rightR6_2 w h ho.w hg
    · obtain rfl : k = 4 := by omega
      have e : rightB ⟨4, s, t, .slice a1 al.length c1, .slice a2 ([] : List Pd).length c2, al, []⟩ = (s == 0 && t == 0 && givesB ⟨4, s, t, .slice a1 al.length c1, .slice a2 ([] : List Pd).length c2, al, []⟩ && true) := rfl
      rw [e, hg, Bool.and_true, Bool.and_true]
      exact rightR6_4 w h ho.w hg
  · have e : rightB ⟨k, s, t, .slice a1 al.length c1, .slice a2 pl.length c2, al, pl⟩ = false := by
      have hi : pl.isEmpty = false := by cases pl with | nil => exact absurd rfl hp | cons _ _ => rfl
      unfold rightB rightN
      simp only
      rw [hi, if_neg (by omega), if_neg h0]
      simp
    rw [e]
    exact rightR6_pl h0 h6 h3 h5 w h ho.w hg hp
end Go.Proofs.Ytmfnfnegnfpkiaa

/- The reference's Same of plans. -/
namespace Go.Proofs.Ytmfnfnegnfpkiaa
open Go.RowKit

set_option maxRecDepth 20000 in
set_option maxHeartbeats 16000000 in
theorem sameR6_any {W : World} {x y : Pn} (hx : PnAt W x) (hy : PnAt W y) :
    Calls Try.prog 26 #[pnV x, pnV y] W fun e w' => e = .returned (.bool (pnB x y)) ∧ Below W.heap.size W w' := by
  have hpad := pads
  obtain ⟨k, s, t, av, pv, al, pl⟩ := x
  obtain ⟨k', s', t', av', pv', al', pl'⟩ := y
  obtain ⟨hx1, hx2⟩ := hx
  obtain ⟨hy1, hy2⟩ := hy
  simp only at hx1 hx2 hy1 hy2
  obtain ⟨a1, c1, rfl⟩ := hx1.slice
  obtain ⟨a2, c2, rfl⟩ := hx2.slice
  obtain ⟨a3, c3, rfl⟩ := hy1.slice
  obtain ⟨a4, c4, rfl⟩ := hy2.slice
  show Calls Try.prog 26 #[.agg #[.int .u8 k, .int .u64 s, .int .u64 t, .slice a1 al.length c1, .slice a2 pl.length c2], .agg #[.int .u8 k', .int .u64 s', .int .u64 t', .slice a3 al'.length c3, .slice a4 pl'.length c4]] W _
  have hb : Below W.heap.size W ((W.alloc (.cells #[.int .u8 k, .int .u64 s, .int .u64 t, .slice a1 al.length c1, .slice a2 pl.length c2] 26)).alloc (.cells #[.int .u8 k', .int .u64 s', .int .u64 t', .slice a3 al'.length c3, .slice a4 pl'.length c4] 26)) := ba (ba (Below.refl _ _) _) _
  have hE := sameCL_any _ (hx1.below hb) (hy1.below hb)
  have hkeep : Hid (∀ X, Below ((W.alloc (.cells #[.int .u8 k, .int .u64 s, .int .u64 t, .slice a1 al.length c1, .slice a2 pl.length c2] 26)).alloc (.cells #[.int .u8 k', .int .u64 s', .int .u64 t', .slice a3 al'.length c3, .slice a4 pl'.length c4] 26)).heap.size ((W.alloc (.cells #[.int .u8 k, .int .u64 s, .int .u64 t, .slice a1 al.length c1, .slice a2 pl.length c2] 26)).alloc (.cells #[.int .u8 k', .int .u64 s', .int .u64 t', .slice a3 al'.length c3, .slice a4 pl'.length c4] 26)) X → X.cell? ⟨W.heap.size, 4, none⟩ = some (.slice a2 pl.length c2) ∧ X.cell? ⟨W.heap.size + 1, 4, none⟩ = some (.slice a4 pl'.length c4)) := fun X hX => by
    have q1 := (hX.block W.heap.size (by simp; omega)).trans (al_old (by simp))
    have q2 := (hX.block (W.heap.size + 1) (by simp)).trans (al_at (by simp))
    rw [al_at rfl] at q1
    exact ⟨(cells_of_block q1).1 4, (cells_of_block q2).1 4⟩
  have hlx := hx2.len
  have hly := hy2.len
  have hlx' : (pl.length : Int) ≤ 9223372036854775807 := by omega
  have hP1 : Hid _ := pds_at hx2
  have hP2 : Hid _ := pds_at hy2
  have hres : Hid (pnB ⟨k, s, t, .slice a1 al.length c1, .slice a2 pl.length c2, al, pl⟩ ⟨k', s', t', .slice a3 al'.length c3, .slice a4 pl'.length c4, al', pl'⟩ = (k == k' && s == s' && t == t' && clB al al' && plB pl pl')) := rfl
  generalize hK : pnB ⟨k, s, t, .slice a1 al.length c1, .slice a2 pl.length c2, al, pl⟩ ⟨k', s', t', .slice a3 al'.length c3, .slice a4 pl'.length c4, al', pl'⟩ = K at *
  clear hK hx1 hx2 hy1 hy2
  by_cases hk : k = k'
  case neg =>
    have hd : (k == k') = false := by simpa using hk
    have hf : Hid (K = false) := by unfold Hid; rw [hres.out, hd]; simp
    clear hres hE hkeep
    go_enter Try.func26, Try.ntmps26
    go_wp2
    go_ret
    rw [hf.out]
    exact ⟨by simp, hb⟩
  subst hk
  by_cases hs : s = s'
  case neg =>
    have hd : (s == s') = false := by simpa using hs
    have hf : Hid (K = false) := by unfold Hid; rw [hres.out, hd]; simp
    clear hres hE hkeep
    go_enter Try.func26, Try.ntmps26
    go_wp2
    go_ret
    rw [hf.out]
    exact ⟨by simp, hb⟩
  subst hs
  by_cases ht : t = t'
  case neg =>
    have hd : (t == t') = false := by simpa using ht
    have hf : Hid (K = false) := by unfold Hid; rw [hres.out, hd]; simp
    clear hres hE hkeep
    go_enter Try.func26, Try.ntmps26
    go_wp2
    go_ret
    rw [hf.out]
    exact ⟨by simp, hb⟩
  subst ht
  cases hc : clB al al'
  case false =>
    rw [hc] at hE
    have hf : Hid (K = false) := by unfold Hid; rw [hres.out, hc]; simp
    clear hres hc hkeep
    go_enter Try.func26, Try.ntmps26
    go_wp2_with (go_at_call 17; refine hE.mono ?_; rintro e w1 ⟨rfl, hb1⟩)
    go_ret
    rw [hf.out]
    exact ⟨by simp, bt hb hb1⟩
  rw [hc] at hE
  have hf : Hid (K = plB pl pl') := by unfold Hid; rw [hres.out, hc]; simp
  clear hres hc
  by_cases hll : pl.length = pl'.length
  case neg =>
    have hll' : ¬ (pl.length : Int) = (pl'.length : Int) := by omega
    have hr : Hid (K = false) := by unfold Hid; rw [hf.out, plB_len hll]
    clear hf hll hP1 hP2
    go_enter Try.func26, Try.ntmps26
    go_wp2_with (go_at_call 17; refine hE.mono ?_; rintro e w1 ⟨rfl, hb1⟩; obtain ⟨q1, q2⟩ := hkeep.out _ hb1)
    go_ret
    rw [hr.out]
    exact ⟨rfl, bt hb hb1⟩
  have hll2 : Hid _ := hll
  have hP0 : ((W.alloc (.cells #[.int .u8 k, .int .u64 s, .int .u64 t, .slice a1 al.length c1, .slice a2 pl.length c2] 26)).alloc (.cells #[.int .u8 k, .int .u64 s, .int .u64 t, .slice a3 al'.length c3, .slice a4 pl'.length c4] 26)).heap.size = W.heap.size + 1 + 1 := by simp
  rw [← hll] at hE hkeep hb hP0 ⊢
  clear hll
  go_enter Try.func26, Try.ntmps26
  go_wp2_with (go_at_call 17; refine hE.mono ?_; rintro e w1 ⟨rfl, hb1⟩; obtain ⟨q1, q2⟩ := hkeep.out _ hb1)
  have hb0 := bt hb hb1
  generalize (W.alloc (.cells #[.int .u8 k, .int .u64 s, .int .u64 t, .slice a1 al.length c1, .slice a2 pl.length c2] 26)).alloc (.cells #[.int .u8 k, .int .u64 s, .int .u64 t, .slice a3 al'.length c3, .slice a4 pl.length c4] 26) = P at *
  go_loopw [5] (fun iv X => ∃ (i : Nat), i ≤ pl.length ∧ iv = .int .i64 (i : Int) ∧ Hid (plB pl pl' = plB (pl.drop i) (pl'.drop i)) ∧ Below P.heap.size P X ∧ Below W.heap.size W X) (fun iv _ => pl.length - (intOf iv).toNat)
  case atStart => exact ⟨0, by omega, rfl, by unfold Hid; simp, hb1, hb0⟩
  case round =>
    obtain ⟨i, hi, rfl, hc, hX, hXW⟩ := hrel
    obtain ⟨k1, k2⟩ := hkeep.out _ hX
    by_cases hlt : i < pl.length
    · have hlt' : (i : Int) < (pl.length : Int) := by omega
      have hiq : i < pl'.length := by have := hll2.out; omega
      obtain ⟨g, o, rfl, hg, hxA⟩ := hP1.out i pl[i] (List.getElem?_eq_getElem hlt)
      obtain ⟨h, u, rfl, hh, hyA⟩ := hP2.out i pl'[i] (List.getElem?_eq_getElem hiq)
      obtain ⟨d0, d1, hxc⟩ := hxA.below hg hXW
      obtain ⟨e0, e1, hyc⟩ := hyA.below hh hXW
      have hc2 : Hid (plB pl pl' = (pdB pl[i] pl'[i] && plB (pl.drop (i + 1)) (pl'.drop (i + 1)))) := by unfold Hid; rw [hc.out, plB_cons hlt hiq]
      have hpd : Hid (pdB pl[i] pl'[i] = (pl[i].n == pl'[i].n && clB pl[i].l pl'[i].l)) := rfl
      have hwz : W.heap.size + 1 < wr.heap.size := by have := hX.size; omega
      have hgX : g < wr.heap.size := Nat.lt_of_lt_of_le hg hXW.size
      have hhX : h < wr.heap.size := Nat.lt_of_lt_of_le hh hXW.size
      have hC : Hid (∀ X, Below wr.heap.size wr X → Calls Try.prog 17 #[pl[i].v, pl'[i].v] X fun e w' => e = .returned (.bool (clB pl[i].l pl'[i].l)) ∧ Below X.heap.size X w') := fun X hX => sameCL_any X (hxc.below hX) (hyc.below hX)
      obtain ⟨a5, c5, ev1⟩ := hxc.slice
      obtain ⟨a6, c6, ev2⟩ := hyc.slice
      rw [ev1] at d1 hC
      rw [ev2] at e1 hC
      have hkp : Hid (∀ X, Below wr.heap.size wr X → X.cell? ⟨W.heap.size, 4, none⟩ = some (.slice (some ⟨g, o, none⟩) pl.length c2) ∧ X.cell? ⟨W.heap.size + 1, 4, none⟩ = some (.slice (some ⟨h, u, none⟩) pl.length c4) ∧ X.cell? ⟨g, o + i * 2, none⟩ = some (.int .u64 pl[i].n) ∧ X.cell? ⟨g, o + i * 2 + 1, none⟩ = some (.slice a5 pl[i].l.length c5) ∧ X.cell? ⟨h, u + i * 2, none⟩ = some (.int .u64 pl'[i].n) ∧ X.cell? ⟨h, u + i * 2 + 1, none⟩ = some (.slice a6 pl'[i].l.length c6)) := fun X hX =>
        ⟨(hX.cell (p := ⟨W.heap.size, 4, none⟩) (by show W.heap.size < wr.heap.size; omega)).trans k1, (hX.cell (p := ⟨W.heap.size + 1, 4, none⟩) hwz).trans k2, (hX.cell (p := ⟨g, _, none⟩) hgX).trans d0, (hX.cell (p := ⟨g, _, none⟩) hgX).trans d1, (hX.cell (p := ⟨h, _, none⟩) hhX).trans e0, (hX.cell (p := ⟨h, _, none⟩) hhX).trans e1⟩
      clear hxA hyA hxc hyc ev1 ev2 hc
      generalize pl[i] = x at *
      generalize pl'[i] = y at *
      by_cases hn : x.n = y.n
      · have hn2 : (x.n != y.n) = false := by simp [hn]
        cases hcl : clB x.l y.l
        · rw [hcl] at hC hpd
          have hr : Hid (K = false) := by unfold Hid; rw [hf.out, hc2.out, hpd.out]; simp
          clear hpd hc2 hf hcl
          go_upto_region 6 with fail
          go_region_held2 (fun X => X.cell? ⟨W.heap.size, 4, none⟩ = some (.slice (some ⟨g, o, none⟩) pl.length c2) ∧ X.cell? ⟨W.heap.size + 1, 4, none⟩ = some (.slice (some ⟨h, u, none⟩) pl.length c4) ∧ X.cell? ⟨g, o + i * 2, none⟩ = some (.int .u64 x.n) ∧ X.cell? ⟨g, o + i * 2 + 1, none⟩ = some (.slice a5 x.l.length c5) ∧ X.cell? ⟨h, u + i * 2, none⟩ = some (.int .u64 y.n) ∧ X.cell? ⟨h, u + i * 2 + 1, none⟩ = some (.slice a6 y.l.length c6)) (exact hkp.out _ (by (repeat (first | (with_reducible exact Below.refl _ _) | (with_reducible assumption) | (with_reducible apply bd) | (with_reducible apply ba) | (with_reducible refine bp ?_ (by first | omega | (simp [pad_size]; done) | (simp [pad_size]; omega)) _ _) | (with_reducible refine bs ?_ (by first | omega | (simp [pad_size]; done) | (simp [pad_size]; omega)) _) | (with_reducible refine bt ?_ (by assumption)))))) (first
            | (go_at_call 17; refine (hC.out _ (by (repeat (first | (with_reducible exact Below.refl _ _) | (with_reducible assumption) | (with_reducible apply bd) | (with_reducible apply ba) | (with_reducible refine bp ?_ (by first | omega | (simp [pad_size]; done) | (simp [pad_size]; omega)) _ _) | (with_reducible refine bs ?_ (by first | omega | (simp [pad_size]; done) | (simp [pad_size]; omega)) _) | (with_reducible refine bt ?_ (by assumption)))))).mono ?_; rintro e w2 ⟨rfl, hb2⟩; obtain ⟨m1, g1, r1, hm1, rfl⟩ := pad_of hb2; clear hb2; simp [pad_size] at hm1))
          all_goals go_wp2_with fail
          all_goals go_ret
          all_goals rw [hr.out]
          all_goals exact ⟨by simp, bt hXW (by (repeat (first | (with_reducible exact Below.refl _ _) | (with_reducible assumption) | (with_reducible apply bd) | (with_reducible apply ba) | (with_reducible refine bp ?_ (by first | omega | (simp [pad_size]; done) | (simp [pad_size]; omega)) _ _) | (with_reducible refine bs ?_ (by first | omega | (simp [pad_size]; done) | (simp [pad_size]; omega)) _) | (with_reducible refine bt ?_ (by assumption)))))⟩
        · rw [hcl] at hC hpd
          have hc3 : Hid (plB pl pl' = plB (pl.drop (i + 1)) (pl'.drop (i + 1))) := by unfold Hid; rw [hc2.out, hpd.out, hn]; simp
          clear hpd hc2 hf hcl
          go_upto_region 6 with fail
          go_region_held2 (fun X => X.cell? ⟨W.heap.size, 4, none⟩ = some (.slice (some ⟨g, o, none⟩) pl.length c2) ∧ X.cell? ⟨W.heap.size + 1, 4, none⟩ = some (.slice (some ⟨h, u, none⟩) pl.length c4) ∧ X.cell? ⟨g, o + i * 2, none⟩ = some (.int .u64 x.n) ∧ X.cell? ⟨g, o + i * 2 + 1, none⟩ = some (.slice a5 x.l.length c5) ∧ X.cell? ⟨h, u + i * 2, none⟩ = some (.int .u64 y.n) ∧ X.cell? ⟨h, u + i * 2 + 1, none⟩ = some (.slice a6 y.l.length c6)) (exact hkp.out _ (by (repeat (first | (with_reducible exact Below.refl _ _) | (with_reducible assumption) | (with_reducible apply bd) | (with_reducible apply ba) | (with_reducible refine bp ?_ (by first | omega | (simp [pad_size]; done) | (simp [pad_size]; omega)) _ _) | (with_reducible refine bs ?_ (by first | omega | (simp [pad_size]; done) | (simp [pad_size]; omega)) _) | (with_reducible refine bt ?_ (by assumption)))))) (first
            | (go_at_call 17; refine (hC.out _ (by (repeat (first | (with_reducible exact Below.refl _ _) | (with_reducible assumption) | (with_reducible apply bd) | (with_reducible apply ba) | (with_reducible refine bp ?_ (by first | omega | (simp [pad_size]; done) | (simp [pad_size]; omega)) _ _) | (with_reducible refine bs ?_ (by first | omega | (simp [pad_size]; done) | (simp [pad_size]; omega)) _) | (with_reducible refine bt ?_ (by assumption)))))).mono ?_; rintro e w2 ⟨rfl, hb2⟩; obtain ⟨m1, g1, r1, hm1, rfl⟩ := pad_of hb2; clear hb2; simp [pad_size] at hm1))
          all_goals go_wp2_with fail
          all_goals go_roundw
          case rel => exact ⟨i + 1, by omega, by go_num, hc3, bt hX (by (repeat (first | (with_reducible exact Below.refl _ _) | (with_reducible assumption) | (with_reducible apply bd) | (with_reducible apply ba) | (with_reducible refine bp ?_ (by first | omega | (simp [pad_size]; done) | (simp [pad_size]; omega)) _ _) | (with_reducible refine bs ?_ (by first | omega | (simp [pad_size]; done) | (simp [pad_size]; omega)) _) | (with_reducible refine bt ?_ (by assumption))))), bt hXW (by (repeat (first | (with_reducible exact Below.refl _ _) | (with_reducible assumption) | (with_reducible apply bd) | (with_reducible apply ba) | (with_reducible refine bp ?_ (by first | omega | (simp [pad_size]; done) | (simp [pad_size]; omega)) _ _) | (with_reducible refine bs ?_ (by first | omega | (simp [pad_size]; done) | (simp [pad_size]; omega)) _) | (with_reducible refine bt ?_ (by assumption)))))⟩
          case measure => (simp [intOf]; omega)
      · have hn2 : (x.n != y.n) = true := by simp [hn]
        have hr : Hid (K = false) := by unfold Hid; rw [hf.out, hc2.out, hpd.out]; simp [hn]
        clear hpd hc2 hf hC hkp
        go_upto_region 6 with fail
        go_region
        all_goals go_wp2
        all_goals go_ret
        all_goals rw [hr.out]
        all_goals exact ⟨by simp, bt hXW (by (repeat (first | (with_reducible exact Below.refl _ _) | (with_reducible assumption) | (with_reducible apply bd) | (with_reducible apply ba) | (with_reducible refine bp ?_ (by first | omega | (simp [pad_size]; done) | (simp [pad_size]; omega)) _ _) | (with_reducible refine bs ?_ (by first | omega | (simp [pad_size]; done) | (simp [pad_size]; omega)) _) | (with_reducible refine bt ?_ (by assumption)))))⟩
    · obtain rfl : i = pl.length := by omega
      have hr : Hid (K = true) := by unfold Hid; rw [hf.out, hc.out, List.drop_length, List.drop_of_length_le (by have := hll2.out; omega)]; rfl
      clear hc
      go_wp2
      go_ret
      rw [hr.out]
      exact ⟨rfl, hXW⟩
end Go.Proofs.Ytmfnfnegnfpkiaa
