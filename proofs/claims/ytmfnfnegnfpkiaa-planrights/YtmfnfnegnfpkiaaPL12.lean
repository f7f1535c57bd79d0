
/- The reference's Right of plans with periods. -/
import Derived.Test.YtmfnfnegnfpkiaaPL10
import Derived.Test.YtmfnfnegnfpkiaaPL11
import Derived.Test.YtmfnfnegnfpkiaaC14
set_option linter.unusedSimpArgs false
set_option linter.unusedVariables false
set_option maxRecDepth 20000
namespace Go.Proofs.Ytmfnfnegnfpkiaa
open Go.RowKit

theorem lst_inj {z y : Nat → Cn} (hz : Purse z) (hy : Purse y) (h : lst z 8 = lst y 8) : ∀ d, d < 8 → vl (z d) = vl (y d) := fun d hd => by
  rw [← amt_full hz hd, ← amt_full hy hd, h]
theorem clB_lst {z y : Nat → Cn} (hz : Purse z) (hy : Purse y) : clB (lst z 8) (lst y 8) = all8 (fun d => vl (z d)) (fun d => vl (y d)) := by
  apply bool_ext
  rw [clB_true, all8_true]
  exact ⟨lst_inj hz hy, lst_vl hz hy⟩
theorem all_not {pl : List Pd} {i : Nat} (hi : i < pl.length) (h : pdR pl[i] = false) : pl.all pdR = false := by
  rw [Bool.eq_false_iff]; intro e
  have := List.all_eq_true.1 e pl[i] (List.getElem_mem hi)
  rw [h] at this; cases this
section
variable {k s t : Int} {a1 a2 : Option Addr} {c1 c2 : Nat} {al : List Cn} {pl : List Pd}
set_option maxRecDepth 20000 in
set_option maxHeartbeats 16000000 in
theorem rightR6_3 (w : World) (h : PnAt w ⟨3, s, t, .slice a1 al.length c1, .slice a2 pl.length c2, al, pl⟩) (ho : PnOk ⟨3, s, t, .slice a1 al.length c1, .slice a2 pl.length c2, al, pl⟩) (hg : givesB ⟨3, s, t, .slice a1 al.length c1, .slice a2 pl.length c2, al, pl⟩ = true) :
    Calls Try.prog 14 #[.agg #[.int .u8 3, .int .u64 s, .int .u64 t, .slice a1 al.length c1, .slice a2 pl.length c2]] w fun e w' => e = .returned (.bool (stepsB ⟨3, s, t, .slice a1 al.length c1, .slice a2 pl.length c2, al, pl⟩)) ∧ Below w.heap.size w w' := by
  have hb : Below w.heap.size w (w.alloc (.cells #[.int .u8 3, .int .u64 s, .int .u64 t, .slice a1 al.length c1, .slice a2 pl.length c2] 26)) := ba (Below.refl _ _) _
  have hP0 : (w.alloc (.cells #[.int .u8 3, .int .u64 s, .int .u64 t, .slice a1 al.length c1, .slice a2 pl.length c2] 26)).heap.size = w.heap.size + 1 := by simp
  have hR := rightRCL_any _ (h.1.below hb) ho.w.al
  have hkeep : Hid (∀ X, Below (w.alloc (.cells #[.int .u8 3, .int .u64 s, .int .u64 t, .slice a1 al.length c1, .slice a2 pl.length c2] 26)).heap.size (w.alloc (.cells #[.int .u8 3, .int .u64 s, .int .u64 t, .slice a1 al.length c1, .slice a2 pl.length c2] 26)) X → X.cell? ⟨w.heap.size, 0, none⟩ = some (.int .u8 3) ∧ X.cell? ⟨w.heap.size, 1, none⟩ = some (.int .u64 s) ∧ X.cell? ⟨w.heap.size, 2, none⟩ = some (.int .u64 t) ∧ X.cell? ⟨w.heap.size, 3, none⟩ = some (.slice a1 al.length c1) ∧ X.cell? ⟨w.heap.size, 4, none⟩ = some (.slice a2 pl.length c2)) := fun X hX => by
    have q1 := (hX.block w.heap.size (by simp)).trans (al_at rfl)
    exact ⟨(cells_of_block q1).1 0, (cells_of_block q1).1 1, (cells_of_block q1).1 2, (cells_of_block q1).1 3, (cells_of_block q1).1 4⟩
  have hl1 := h.1.len
  have hlen := h.2.len
  obtain ⟨he, hr, ht⟩ := gives_parts hg
  simp only at hR he hr ht hlen hl1
  have hlen' : (pl.length : Int) ≤ 1048576 := by omega
  have hd : ((al.length : Int) == 0) = false := by have : al.length ≠ 0 := fun e => he (List.eq_nil_of_length_eq_zero e); simp; omega
  have hd' : ¬ (al.length : Int) = 0 := by simpa using hd
  have ht' : ¬ 1099511627776 < t := by omega
  rw [hr] at hR
  have hP : Hid _ := pds_at h.2
  have hA : Hid (∀ X, Below w.heap.size w X → IsCL X (.slice a1 al.length c1) (lst (amP al) 8)) := fun X hX => by rw [amP_lst hr]; exact h.1.below hX
  have hyA := amP_purse ho.w.al
  have hvA : Hid (∀ d, d < 8 → vl (amP al d) < 115792089237316195423570985008687907853269984665640564039457584007913129639936) := fun d hd => (vl_lo hyA hd).2
  have hwf : ∀ q ∈ pl, PdWf q := ho.p
  have hws := ho.w.s
  have hwe := ho.w.e
  simp only at hyA hws hwe
  have hpur := sumP_purse hwf
  have hsb : Hid (stepsB ⟨3, s, t, .slice a1 al.length c1, .slice a2 pl.length c2, al, pl⟩ = (decide (1 ≤ pl.length) && decide (pl.length ≤ 16) && pl.all pdR && decide (s + lenS pl = t) && all8 (tot pl) (fun d => vl (amP al d)))) := rfl
  generalize hK : stepsB ⟨3, s, t, .slice a1 al.length c1, .slice a2 pl.length c2, al, pl⟩ = K at *
  clear hK hg h ho he hr
  by_cases hlo : pl.length = 0
  · have hr : Hid (K = false) := by unfold Hid; rw [hsb.out, decide_eq_false (by omega : ¬ 1 ≤ pl.length)]; simp
    obtain rfl : pl = [] := List.eq_nil_of_length_eq_zero hlo
    clear hsb hA hP hlen hlen' hlo hpur hwf hyA hvA hP0
    simp only [List.length_nil] at hb hR hkeep ⊢
    go_enter Try.func14, Try.ntmps14
    go_wp2_with (go_at_call 24; refine hR.mono ?_; rintro e w1 ⟨rfl, hb1⟩; obtain ⟨q0, q1, q2, q3, q4⟩ := hkeep.out _ hb1)
    go_ret
    rw [hr.out]
    exact ⟨rfl, bt hb hb1⟩
  have hlo' : ¬ (pl.length : Int) = 0 := by omega
  have hlo2 : ((pl.length : Int) == 0) = false := beq_eq_false_iff_ne.2 hlo'
  by_cases hhi : 16 < pl.length
  · have hhi' : (16 : Int) < (pl.length : Int) := by omega
    have hr : Hid (K = false) := by unfold Hid; rw [hsb.out, decide_eq_false (by omega : ¬ pl.length ≤ 16)]; simp
    clear hsb hA
    go_enter Try.func14, Try.ntmps14
    go_wp2_with (go_at_call 24; refine hR.mono ?_; rintro e w1 ⟨rfl, hb1⟩; obtain ⟨q0, q1, q2, q3, q4⟩ := hkeep.out _ hb1)
    go_ret
    rw [hr.out]
    exact ⟨rfl, bt hb hb1⟩
  have hhi' : ¬ (16 : Int) < (pl.length : Int) := by omega
  rw [decide_eq_true (by omega : 1 ≤ pl.length), decide_eq_true (by omega : pl.length ≤ 16)] at hsb
  by_cases hst : t < s
  · have hr : Hid (K = false) := by unfold Hid; rw [hsb.out, decide_eq_false (by have := lenS_lo hwf; omega : ¬ s + lenS pl = t)]; simp
    clear hsb hA
    go_enter Try.func14, Try.ntmps14
    go_wp2_with (go_at_call 24; refine hR.mono ?_; rintro e w1 ⟨rfl, hb1⟩; obtain ⟨q0, q1, q2, q3, q4⟩ := hkeep.out _ hb1)
    go_ret
    rw [hr.out]
    exact ⟨rfl, bt hb hb1⟩
  have hw1 : IntKind.u64.wrap (t - s) = t - s := by rw [IntKind.wrap_u64]; omega
  go_enter Try.func14, Try.ntmps14
  go_wp2_with (go_at_call 24; refine hR.mono ?_; rintro e w1 ⟨rfl, hb1⟩; obtain ⟨q0, q1, q2, q3, q4⟩ := hkeep.out _ hb1)
  generalize (w.alloc (.cells #[.int .u8 3, .int .u64 s, .int .u64 t, .slice a1 al.length c1, .slice a2 pl.length c2] 26)) = P at *
  have hb0 : Below w.heap.size w w1 := bt hb hb1
  go_loopw [3, 4, 5] (fun lv av iv X => ∃ (i n c : Nat) (a : Option Addr) (f : Int), i ≤ pl.length ∧ lv = .int .u64 f ∧ av = .slice a n c ∧ iv = .int .i64 (i : Int) ∧ Hid (f = t - s - lenS (pl.take i)) ∧ 0 ≤ f ∧ f < 18446744073709551616 ∧ Hid (∀ q ∈ pl.take i, pdR q = true) ∧ Hid (∀ d, d < 8 → tot (pl.take i) d < 115792089237316195423570985008687907853269984665640564039457584007913129639936) ∧ Hid (IsCoins X (.slice a n c) (lst (sumP (pl.take i)) 8)) ∧ Below P.heap.size P X ∧ Below w.heap.size w X) (fun _ _ iv _ => pl.length - (intOf iv).toNat)
  case atStart => exact ⟨0, 0, 0, none, t - s, by omega, rfl, rfl, rfl, by unfold Hid; simp [lenS], by omega, by omega, by unfold Hid; simp, fun d _ => by simp [tot], by unfold Hid; rw [List.take_zero, sumP_nil]; exact .inl ⟨rfl, _, _, rfl⟩, hb1, hb0⟩
  case round =>
    obtain ⟨i, n, c, a, f, hi, rfl, rfl, rfl, hfe, hf0, hf1, hall, hfit, hc, hX, hXw⟩ := hrel
    obtain ⟨k0, k1, k2, k3, k4⟩ := hkeep.out _ hX
    by_cases hlt : i < pl.length
    · have hlt' : (i : Int) < (pl.length : Int) := by omega
      obtain ⟨blk, off, rfl, hbl, hA1⟩ := hP.out i pl[i] (List.getElem?_eq_getElem hlt)
      obtain ⟨d0, d1, hxc⟩ := hA1.below hbl hXw
      obtain ⟨a3, c3, ev1⟩ := hxc.slice
      have hq := hwf pl[i] (List.getElem_mem hlt)
      have hqn := hq.n
      rw [ev1] at d1 hxc
      have hll := hxc.len
      have hbx : Below wr.heap.size wr (wr.alloc (.cells #[.int .u64 pl[i].n, .slice a3 pl[i].l.length c3] 73)) := ba (Below.refl _ _) _
      have hS := rightRCL_any _ (hxc.below hbx) hq.l
      have hpd : Hid (pdR pl[i] = (decide (1 ≤ pl[i].n) && (!pl[i].l.isEmpty && rightFrom 0 pl[i].l))) := rfl
      have hbad : Hid (pdR pl[i] = false → K = false) := by
        intro e
        rw [hsb.out, all_not hlt e]; simp
      have hlenn : Hid (lenS (pl.take (i + 1)) = lenS (pl.take i) + pl[i].n) := by unfold Hid; rw [List.take_succ_eq_append_getElem hlt, lenS_snoc]
      by_cases hn : pl[i].n = 0
      · have hn2 : (pl[i].n == 0) = true := by simp [hn]
        have hr : Hid (K = false) := hbad.out (by rw [hpd.out, decide_eq_false (by omega)]; rfl)
        clear hsb hA hS hpd hbad hc hall hfit
        go_wp2
        go_ret
        rw [hr.out]
        exact ⟨rfl, ba hXw _⟩
      have hn2 : (pl[i].n == 0) = false := by simpa using hn
      by_cases hfl : f < pl[i].n
      · have hr : Hid (K = false) := by
          unfold Hid
          have := (lenS_take hwf (i + 1)).2
          have h2 := hlenn.out
          have h3 := hfe.out
          rw [hsb.out, decide_eq_false (by omega : ¬ s + lenS pl = t)]; simp
        clear hsb hA hS hpd hbad hc hall hfit
        go_wp2
        go_ret
        rw [hr.out]
        exact ⟨rfl, ba hXw _⟩
      by_cases hem : pl[i].l = []
      · have hr : Hid (K = false) := hbad.out (by rw [hpd.out, hem]; simp)
        have hz : pl[i].l.length = 0 := by rw [hem]; rfl
        rw [hz] at d1
        clear hsb hA hS hpd hbad hc hall hfit hll hem
        go_wp2
        go_ret
        rw [hr.out]
        exact ⟨rfl, ba hXw _⟩
      have hem1 : ((pl[i].l.length : Int) == 0) = false := by have : pl[i].l.length ≠ 0 := fun e => hem (List.eq_nil_of_length_eq_zero e); simp; omega
      have hem2 : ¬ (pl[i].l.length : Int) = 0 := by simpa using hem1
      cases hsm : rightFrom 0 pl[i].l
      · have hr : Hid (K = false) := hbad.out (by rw [hpd.out, hsm]; simp)
        rw [hsm] at hS
        clear hsb hA hpd hbad hc hall hfit hem
        go_wp2_with (go_at_call 24; refine hS.mono ?_; rintro e w2 ⟨rfl, hb2⟩)
        go_ret
        rw [hr.out]
        exact ⟨rfl, bt (ba hXw _) hb2⟩
      rw [hsm] at hS
      have hpt : pdR pl[i] = true := by
        rw [hpd.out, hsm, decide_eq_true (by omega : 1 ≤ pl[i].n)]
        cases e : pl[i].l with | nil => exact absurd e hem | cons _ _ => rfl
      have hc2 : Hid (∀ q ∈ pl.take (i + 1), pdR q = true) := by
        intro q hq'
        rw [List.take_succ_eq_append_getElem hlt] at hq'
        rcases List.mem_append.1 hq' with h | h
        · exact hall.out q h
        · rw [List.mem_singleton] at h; subst h; exact hpt
      have hw2 : IntKind.u64.wrap (f - pl[i].n) = f - pl[i].n := by rw [IntKind.wrap_u64]; omega
      have hfe2 : Hid (f - pl[i].n = t - s - lenS (pl.take (i + 1))) := by unfold Hid; rw [hlenn.out, hfe.out]; omega
      have hz := sumP_purse (l := pl.take i) (fun q hq => hwf q (List.mem_of_mem_take hq)) hfit.out
      have hy := amP_purse hq.l
      have hxr := hxc.lst hsm
      have hbox : (wr.alloc (.cells #[.int .u64 pl[i].n, .slice a3 pl[i].l.length c3] 73)).heap[wr.heap.size]? = some (.cells #[.int .u64 pl[i].n, .slice a3 pl[i].l.length c3] 73 (0, 0)) := al_at rfl
      have hbs : wr.heap.size < (wr.alloc (.cells #[.int .u64 pl[i].n, .slice a3 pl[i].l.length c3] 73)).heap.size := by simp
      have hpk : Hid (∀ X, Below (wr.alloc (.cells #[.int .u64 pl[i].n, .slice a3 pl[i].l.length c3] 73)).heap.size (wr.alloc (.cells #[.int .u64 pl[i].n, .slice a3 pl[i].l.length c3] 73)) X → X.cell? ⟨wr.heap.size, 0, none⟩ = some (.int .u64 pl[i].n) ∧ X.cell? ⟨wr.heap.size, 1, none⟩ = some (.slice a3 pl[i].l.length c3)) := fun X hX => by
        have q1 := (hX.block wr.heap.size hbs).trans hbox
        exact ⟨(cells_of_block q1).1 0, (cells_of_block q1).1 1⟩
      by_cases hff : ∀ d, d < 8 → tot (pl.take (i + 1)) d < 115792089237316195423570985008687907853269984665640564039457584007913129639936
      · have hC : Hid (∀ X, Below wr.heap.size wr X → _) := fun X hX => addRC_fit hz hy (fun d hd => by rw [← tot_next hlt]; exact hff d hd) X (hc.out.below hX) (hxr.below hX)
        rw [sum_next hlt] at hC
        have hff : Hid _ := hff
        clear hz hy hxr hxc hA1 hfit hc ev1 hsb hA hpd hbad hall hem hlenn hbox hpt
        go_wp2_with (first
          | (go_at_call 24; refine hS.mono ?_; rintro e w2 ⟨rfl, hb2⟩; obtain ⟨p0, p1⟩ := hpk.out _ hb2)
          | (go_at_call 22; refine (hC.out _ (bt hbx hb2)).mono ?_; rintro e w3 ⟨u, rfl, hu, hb3⟩; obtain ⟨au, cu, rfl⟩ := hu.sl; have hu : Hid _ := hu))
        all_goals go_roundw
        case rel => exact ⟨i + 1, _, _, _, f - pl[i].n, by omega, rfl, rfl, by go_num, hfe2, by omega, by omega, hc2, hff, hu, bt (bt (ba hX _) hb2) hb3, bt (bt (ba hXw _) hb2) hb3⟩
        case measure => (simp [intOf]; omega)
      · have hex : ∃ d, d < 8 ∧ 115792089237316195423570985008687907853269984665640564039457584007913129639936 ≤ tot (pl.take (i + 1)) d := Classical.byContradiction fun hn => hff fun d hd => Int.not_le.1 fun e => hn ⟨d, hd, e⟩
        have hC : Hid (∀ X, Below wr.heap.size wr X → _) := fun X hX => addRC_no hz hy (by obtain ⟨d, hd, e⟩ := hex; exact ⟨d, hd, by rw [← tot_next hlt]; exact e⟩) X (hc.out.below hX) (hxr.below hX)
        have hr : Hid (K = false) := by
          unfold Hid
          have hex2 : ∃ d, d < 8 ∧ 115792089237316195423570985008687907853269984665640564039457584007913129639936 ≤ tot pl d := by
            obtain ⟨d, hd, e⟩ := hex
            have := tot_take hwf (i + 1) hd
            exact ⟨d, hd, by omega⟩
          rw [hsb.out, all8_le hex2 hvA.out]; simp
        clear hz hy hxr hxc hA1 hfit hc ev1 hff hex hsb hA hpd hbad hall hem hlenn hbox hpt
        go_wp2_with (first
          | (go_at_call 24; refine hS.mono ?_; rintro e w2 ⟨rfl, hb2⟩; obtain ⟨p0, p1⟩ := hpk.out _ hb2)
          | (go_at_call 22; refine (hC.out _ (bt hbx hb2)).mono ?_; rintro e w3 ⟨rfl, hb3⟩))
        go_ret
        rw [hr.out]
        exact ⟨rfl, bt (bt (ba hXw _) hb2) hb3⟩
    · obtain rfl : i = pl.length := by omega
      rw [List.take_length] at hall hc hfe hfit
      rw [List.all_eq_true.2 hall.out] at hsb
      have hz := hpur hfit.out
      by_cases hft : f = 0
      · have hfb : (f == 0) = true := by simp [hft]
        have hr : Hid (K = clB (lst (sumP pl) 8) (lst (amP al) 8)) := by
          unfold Hid
          rw [hsb.out, clB_lst hz hyA, decide_eq_true (by have := hfe.out; omega : s + lenS pl = t)]
          simp [sumP_vl]
        have hCL := hc.out.cl
        clear hsb hall hfit hfe hc
        go_wp2_with (go_at_call 17; refine (sameCL_any _ hCL (hA.out _ hXw)).mono ?_; rintro e w2 ⟨rfl, hb2⟩)
        go_ret
        rw [hr.out]
        exact ⟨by simp, bt hXw hb2⟩
      · have hfb : (f == 0) = false := by simpa using hft
        have hr : Hid (K = false) := by unfold Hid; rw [hsb.out, decide_eq_false (by have := hfe.out; omega : ¬ s + lenS pl = t)]; simp
        clear hsb hall hfit hfe hc hA
        go_wp2
        go_ret
        rw [hr.out]
        exact ⟨by simp, hXw⟩
set_option maxRecDepth 20000 in
set_option maxHeartbeats 16000000 in
theorem rightR6_5 (w : World) (h : PnAt w ⟨5, s, t, .slice a1 al.length c1, .slice a2 pl.length c2, al, pl⟩) (ho : PnOk ⟨5, s, t, .slice a1 al.length c1, .slice a2 pl.length c2, al, pl⟩) (hg : givesB ⟨5, s, t, .slice a1 al.length c1, .slice a2 pl.length c2, al, pl⟩ = true) :
    Calls Try.prog 14 #[.agg #[.int .u8 5, .int .u64 s, .int .u64 t, .slice a1 al.length c1, .slice a2 pl.length c2]] w fun e w' => e = .returned (.bool (stepsB ⟨5, s, t, .slice a1 al.length c1, .slice a2 pl.length c2, al, pl⟩)) ∧ Below w.heap.size w w' := by
  have hb : Below w.heap.size w (w.alloc (.cells #[.int .u8 5, .int .u64 s, .int .u64 t, .slice a1 al.length c1, .slice a2 pl.length c2] 26)) := ba (Below.refl _ _) _
  have hP0 : (w.alloc (.cells #[.int .u8 5, .int .u64 s, .int .u64 t, .slice a1 al.length c1, .slice a2 pl.length c2] 26)).heap.size = w.heap.size + 1 := by simp
  have hR := rightRCL_any _ (h.1.below hb) ho.w.al
  have hkeep : Hid (∀ X, Below (w.alloc (.cells #[.int .u8 5, .int .u64 s, .int .u64 t, .slice a1 al.length c1, .slice a2 pl.length c2] 26)).heap.size (w.alloc (.cells #[.int .u8 5, .int .u64 s, .int .u64 t, .slice a1 al.length c1, .slice a2 pl.length c2] 26)) X → X.cell? ⟨w.heap.size, 0, none⟩ = some (.int .u8 5) ∧ X.cell? ⟨w.heap.size, 1, none⟩ = some (.int .u64 s) ∧ X.cell? ⟨w.heap.size, 2, none⟩ = some (.int .u64 t) ∧ X.cell? ⟨w.heap.size, 3, none⟩ = some (.slice a1 al.length c1) ∧ X.cell? ⟨w.heap.size, 4, none⟩ = some (.slice a2 pl.length c2)) := fun X hX => by
    have q1 := (hX.block w.heap.size (by simp)).trans (al_at rfl)
    exact ⟨(cells_of_block q1).1 0, (cells_of_block q1).1 1, (cells_of_block q1).1 2, (cells_of_block q1).1 3, (cells_of_block q1).1 4⟩
  have hl1 := h.1.len
  have hlen := h.2.len
  obtain ⟨he, hr, ht⟩ := gives_parts hg
  simp only at hR he hr ht hlen hl1
  have hlen' : (pl.length : Int) ≤ 1048576 := by omega
  have hd : ((al.length : Int) == 0) = false := by have : al.length ≠ 0 := fun e => he (List.eq_nil_of_length_eq_zero e); simp; omega
  have hd' : ¬ (al.length : Int) = 0 := by simpa using hd
  have ht' : ¬ 1099511627776 < t := by omega
  rw [hr] at hR
  have hP : Hid _ := pds_at h.2
  have hA : Hid (∀ X, Below w.heap.size w X → IsCL X (.slice a1 al.length c1) (lst (amP al) 8)) := fun X hX => by rw [amP_lst hr]; exact h.1.below hX
  have hyA := amP_purse ho.w.al
  have hvA : Hid (∀ d, d < 8 → vl (amP al d) < 115792089237316195423570985008687907853269984665640564039457584007913129639936) := fun d hd => (vl_lo hyA hd).2
  have hwf : ∀ q ∈ pl, PdWf q := ho.p
  have hws := ho.w.s
  have hwe := ho.w.e
  simp only at hyA hws hwe
  have hpur := sumP_purse hwf
  have hsb : Hid (stepsB ⟨5, s, t, .slice a1 al.length c1, .slice a2 pl.length c2, al, pl⟩ = (decide (1 ≤ pl.length) && decide (pl.length ≤ 16) && pl.all pdR && decide (s + lenS pl = t) && all8 (tot pl) (fun d => vl (amP al d)))) := rfl
  generalize hK : stepsB ⟨5, s, t, .slice a1 al.length c1, .slice a2 pl.length c2, al, pl⟩ = K at *
  clear hK hg h ho he hr
  by_cases hlo : pl.length = 0
  · have hr : Hid (K = false) := by unfold Hid; rw [hsb.out, decide_eq_false (by omega : ¬ 1 ≤ pl.length)]; simp
    obtain rfl : pl = [] := List.eq_nil_of_length_eq_zero hlo
    clear hsb hA hP hlen hlen' hlo hpur hwf hyA hvA hP0
    simp only [List.length_nil] at hb hR hkeep ⊢
    go_enter Try.func14, Try.ntmps14
    go_wp2_with (go_at_call 24; refine hR.mono ?_; rintro e w1 ⟨rfl, hb1⟩; obtain ⟨q0, q1, q2, q3, q4⟩ := hkeep.out _ hb1)
    go_ret
    rw [hr.out]
    exact ⟨rfl, bt hb hb1⟩
  have hlo' : ¬ (pl.length : Int) = 0 := by omega
  have hlo2 : ((pl.length : Int) == 0) = false := beq_eq_false_iff_ne.2 hlo'
  by_cases hhi : 16 < pl.length
  · have hhi' : (16 : Int) < (pl.length : Int) := by omega
    have hr : Hid (K = false) := by unfold Hid; rw [hsb.out, decide_eq_false (by omega : ¬ pl.length ≤ 16)]; simp
    clear hsb hA
    go_enter Try.func14, Try.ntmps14
    go_wp2_with (go_at_call 24; refine hR.mono ?_; rintro e w1 ⟨rfl, hb1⟩; obtain ⟨q0, q1, q2, q3, q4⟩ := hkeep.out _ hb1)
    go_ret
    rw [hr.out]
    exact ⟨rfl, bt hb hb1⟩
  have hhi' : ¬ (16 : Int) < (pl.length : Int) := by omega
  rw [decide_eq_true (by omega : 1 ≤ pl.length), decide_eq_true (by omega : pl.length ≤ 16)] at hsb
  by_cases hst : t < s
  · have hr : Hid (K = false) := by unfold Hid; rw [hsb.out, decide_eq_false (by have := lenS_lo hwf; omega : ¬ s + lenS pl = t)]; simp
    clear hsb hA
    go_enter Try.func14, Try.ntmps14
    go_wp2_with (go_at_call 24; refine hR.mono ?_; rintro e w1 ⟨rfl, hb1⟩; obtain ⟨q0, q1, q2, q3, q4⟩ := hkeep.out _ hb1)
    go_ret
    rw [hr.out]
    exact ⟨rfl, bt hb hb1⟩
  have hw1 : IntKind.u64.wrap (t - s) = t - s := by rw [IntKind.wrap_u64]; omega
  go_enter Try.func14, Try.ntmps14
  go_wp2_with (go_at_call 24; refine hR.mono ?_; rintro e w1 ⟨rfl, hb1⟩; obtain ⟨q0, q1, q2, q3, q4⟩ := hkeep.out _ hb1)
  generalize (w.alloc (.cells #[.int .u8 5, .int .u64 s, .int .u64 t, .slice a1 al.length c1, .slice a2 pl.length c2] 26)) = P at *
  have hb0 : Below w.heap.size w w1 := bt hb hb1
  go_loopw [3, 4, 5] (fun lv av iv X => ∃ (i n c : Nat) (a : Option Addr) (f : Int), i ≤ pl.length ∧ lv = .int .u64 f ∧ av = .slice a n c ∧ iv = .int .i64 (i : Int) ∧ Hid (f = t - s - lenS (pl.take i)) ∧ 0 ≤ f ∧ f < 18446744073709551616 ∧ Hid (∀ q ∈ pl.take i, pdR q = true) ∧ Hid (∀ d, d < 8 → tot (pl.take i) d < 115792089237316195423570985008687907853269984665640564039457584007913129639936) ∧ Hid (IsCoins X (.slice a n c) (lst (sumP (pl.take i)) 8)) ∧ Below P.heap.size P X ∧ Below w.heap.size w X) (fun _ _ iv _ => pl.length - (intOf iv).toNat)
  case atStart => exact ⟨0, 0, 0, none, t - s, by omega, rfl, rfl, rfl, by unfold Hid; simp [lenS], by omega, by omega, by unfold Hid; simp, fun d _ => by simp [tot], by unfold Hid; rw [List.take_zero, sumP_nil]; exact .inl ⟨rfl, _, _, rfl⟩, hb1, hb0⟩
  case round =>
    obtain ⟨i, n, c, a, f, hi, rfl, rfl, rfl, hfe, hf0, hf1, hall, hfit, hc, hX, hXw⟩ := hrel
    obtain ⟨k0, k1, k2, k3, k4⟩ := hkeep.out _ hX
    by_cases hlt : i < pl.length
    · have hlt' : (i : Int) < (pl.length : Int) := by omega
      obtain ⟨blk, off, rfl, hbl, hA1⟩ := hP.out i pl[i] (List.getElem?_eq_getElem hlt)
      obtain ⟨d0, d1, hxc⟩ := hA1.below hbl hXw
      obtain ⟨a3, c3, ev1⟩ := hxc.slice
      have hq := hwf pl[i] (List.getElem_mem hlt)
      have hqn := hq.n
      rw [ev1] at d1 hxc
      have hll := hxc.len
      have hbx : Below wr.heap.size wr (wr.alloc (.cells #[.int .u64 pl[i].n, .slice a3 pl[i].l.length c3] 73)) := ba (Below.refl _ _) _
      have hS := rightRCL_any _ (hxc.below hbx) hq.l
      have hpd : Hid (pdR pl[i] = (decide (1 ≤ pl[i].n) && (!pl[i].l.isEmpty && rightFrom 0 pl[i].l))) := rfl
      have hbad : Hid (pdR pl[i] = false → K = false) := by
        intro e
        rw [hsb.out, all_not hlt e]; simp
      have hlenn : Hid (lenS (pl.take (i + 1)) = lenS (pl.take i) + pl[i].n) := by unfold Hid; rw [List.take_succ_eq_append_getElem hlt, lenS_snoc]
      by_cases hn : pl[i].n = 0
      · have hn2 : (pl[i].n == 0) = true := by simp [hn]
        have hr : Hid (K = false) := hbad.out (by rw [hpd.out, decide_eq_false (by omega)]; rfl)
        clear hsb hA hS hpd hbad hc hall hfit
        go_wp2
        go_ret
        rw [hr.out]
        exact ⟨rfl, ba hXw _⟩
      have hn2 : (pl[i].n == 0) = false := by simpa using hn
      by_cases hfl : f < pl[i].n
      · have hr : Hid (K = false) := by
          unfold Hid
          have := (lenS_take hwf (i + 1)).2
          have h2 := hlenn.out
          have h3 := hfe.out
          rw [hsb.out, decide_eq_false (by omega : ¬ s + lenS pl = t)]; simp
        clear hsb hA hS hpd hbad hc hall hfit
        go_wp2
        go_ret
        rw [hr.out]
        exact ⟨rfl, ba hXw _⟩
      by_cases hem : pl[i].l = []
      · have hr : Hid (K = false) := hbad.out (by rw [hpd.out, hem]; simp)
        have hz : pl[i].l.length = 0 := by rw [hem]; rfl
        rw [hz] at d1
        clear hsb hA hS hpd hbad hc hall hfit hll hem
        go_wp2
        go_ret
        rw [hr.out]
        exact ⟨rfl, ba hXw _⟩
      have hem1 : ((pl[i].l.length : Int) == 0) = false := by have : pl[i].l.length ≠ 0 := fun e => hem (List.eq_nil_of_length_eq_zero e); simp; omega
      have hem2 : ¬ (pl[i].l.length : Int) = 0 := by simpa using hem1
      cases hsm : rightFrom 0 pl[i].l
      · have hr : Hid (K = false) := hbad.out (by rw [hpd.out, hsm]; simp)
        rw [hsm] at hS
        clear hsb hA hpd hbad hc hall hfit hem
        go_wp2_with (go_at_call 24; refine hS.mono ?_; rintro e w2 ⟨rfl, hb2⟩)
        go_ret
        rw [hr.out]
        exact ⟨rfl, bt (ba hXw _) hb2⟩
      rw [hsm] at hS
      have hpt : pdR pl[i] = true := by
        rw [hpd.out, hsm, decide_eq_true (by omega : 1 ≤ pl[i].n)]
        cases e : pl[i].l with | nil => exact absurd e hem | cons _ _ => rfl
      have hc2 : Hid (∀ q ∈ pl.take (i + 1), pdR q = true) := by
        intro q hq'
        rw [List.take_succ_eq_append_getElem hlt] at hq'
        rcases List.mem_append.1 hq' with h | h
        · exact hall.out q h
        · rw [List.mem_singleton] at h; subst h; exact hpt
      have hw2 : IntKind.u64.wrap (f - pl[i].n) = f - pl[i].n := by rw [IntKind.wrap_u64]; omega
      have hfe2 : Hid (f - pl[i].n = t - s - lenS (pl.take (i + 1))) := by unfold Hid; rw [hlenn.out, hfe.out]; omega
      have hz := sumP_purse (l := pl.take i) (fun q hq => hwf q (List.mem_of_mem_take hq)) hfit.out
      have hy := amP_purse hq.l
      have hxr := hxc.lst hsm
      have hbox : (wr.alloc (.cells #[.int .u64 pl[i].n, .slice a3 pl[i].l.length c3] 73)).heap[wr.heap.size]? = some (.cells #[.int .u64 pl[i].n, .slice a3 pl[i].l.length c3] 73 (0, 0)) := al_at rfl
      have hbs : wr.heap.size < (wr.alloc (.cells #[.int .u64 pl[i].n, .slice a3 pl[i].l.length c3] 73)).heap.size := by simp
      have hpk : Hid (∀ X, Below (wr.alloc (.cells #[.int .u64 pl[i].n, .slice a3 pl[i].l.length c3] 73)).heap.size (wr.alloc (.cells #[.int .u64 pl[i].n, .slice a3 pl[i].l.length c3] 73)) X → X.cell? ⟨wr.heap.size, 0, none⟩ = some (.int .u64 pl[i].n) ∧ X.cell? ⟨wr.heap.size, 1, none⟩ = some (.slice a3 pl[i].l.length c3)) := fun X hX => by
        have q1 := (hX.block wr.heap.size hbs).trans hbox
        exact ⟨(cells_of_block q1).1 0, (cells_of_block q1).1 1⟩
      by_cases hff : ∀ d, d < 8 → tot (pl.take (i + 1)) d < 115792089237316195423570985008687907853269984665640564039457584007913129639936
      · have hC : Hid (∀ X, Below wr.heap.size wr X → _) := fun X hX => addRC_fit hz hy (fun d hd => by rw [← tot_next hlt]; exact hff d hd) X (hc.out.below hX) (hxr.below hX)
        rw [sum_next hlt] at hC
        have hff : Hid _ := hff
        clear hz hy hxr hxc hA1 hfit hc ev1 hsb hA hpd hbad hall hem hlenn hbox hpt
        go_wp2_with (first
          | (go_at_call 24; refine hS.mono ?_; rintro e w2 ⟨rfl, hb2⟩; obtain ⟨p0, p1⟩ := hpk.out _ hb2)
          | (go_at_call 22; refine (hC.out _ (bt hbx hb2)).mono ?_; rintro e w3 ⟨u, rfl, hu, hb3⟩; obtain ⟨au, cu, rfl⟩ := hu.sl; have hu : Hid _ := hu))
        all_goals go_roundw
        case rel => exact ⟨i + 1, _, _, _, f - pl[i].n, by omega, rfl, rfl, by go_num, hfe2, by omega, by omega, hc2, hff, hu, bt (bt (ba hX _) hb2) hb3, bt (bt (ba hXw _) hb2) hb3⟩
        case measure => (simp [intOf]; omega)
      · have hex : ∃ d, d < 8 ∧ 115792089237316195423570985008687907853269984665640564039457584007913129639936 ≤ tot (pl.take (i + 1)) d := Classical.byContradiction fun hn => hff fun d hd => Int.not_le.1 fun e => hn ⟨d, hd, e⟩
        have hC : Hid (∀ X, Below wr.heap.size wr X → _) := fun X hX => addRC_no hz hy (by obtain ⟨d, hd, e⟩ := hex; exact ⟨d, hd, by rw [← tot_next hlt]; exact e⟩) X (hc.out.below hX) (hxr.below hX)
        have hr : Hid (K = false) := by
          unfold Hid
          have hex2 : ∃ d, d < 8 ∧ 115792089237316195423570985008687907853269984665640564039457584007913129639936 ≤ tot pl d := by
            obtain ⟨d, hd, e⟩ := hex
            have := tot_take hwf (i + 1) hd
            exact ⟨d, hd, by omega⟩
          rw [hsb.out, all8_le hex2 hvA.out]; simp
        clear hz hy hxr hxc hA1 hfit hc ev1 hff hex hsb hA hpd hbad hall hem hlenn hbox hpt
        go_wp2_with (first
          | (go_at_call 24; refine hS.mono ?_; rintro e w2 ⟨rfl, hb2⟩; obtain ⟨p0, p1⟩ := hpk.out _ hb2)
          | (go_at_call 22; refine (hC.out _ (bt hbx hb2)).mono ?_; rintro e w3 ⟨rfl, hb3⟩))
        go_ret
        rw [hr.out]
        exact ⟨rfl, bt (bt (ba hXw _) hb2) hb3⟩
    · obtain rfl : i = pl.length := by omega
      rw [List.take_length] at hall hc hfe hfit
      rw [List.all_eq_true.2 hall.out] at hsb
      have hz := hpur hfit.out
      by_cases hft : f = 0
      · have hfb : (f == 0) = true := by simp [hft]
        have hr : Hid (K = clB (lst (sumP pl) 8) (lst (amP al) 8)) := by
          unfold Hid
          rw [hsb.out, clB_lst hz hyA, decide_eq_true (by have := hfe.out; omega : s + lenS pl = t)]
          simp [sumP_vl]
        have hCL := hc.out.cl
        clear hsb hall hfit hfe hc
        go_wp2_with (go_at_call 17; refine (sameCL_any _ hCL (hA.out _ hXw)).mono ?_; rintro e w2 ⟨rfl, hb2⟩)
        go_ret
        rw [hr.out]
        exact ⟨by simp, bt hXw hb2⟩
      · have hfb : (f == 0) = false := by simpa using hft
        have hr : Hid (K = false) := by unfold Hid; rw [hsb.out, decide_eq_false (by have := hfe.out; omega : ¬ s + lenS pl = t)]; simp
        clear hsb hall hfit hfe hc hA
        go_wp2
        go_ret
        rw [hr.out]
        exact ⟨by simp, hXw⟩
end
end Go.Proofs.Ytmfnfnegnfpkiaa
