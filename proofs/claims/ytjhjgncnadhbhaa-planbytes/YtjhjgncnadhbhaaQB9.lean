
/- Several texts, one behind the other: PL8, PL10, MA8, PL14, PO1, PO2, PO3, PO4, PY1. -/
import Derived.Test.YtjhjgncnadhbhaaQB8
import Derived.Deep.CutRange
import Derived.Test.YtjhjgncnadhbhaaC18
import Derived.Lib.SlBytesConst
/- plan.stepsRight. -/
set_option linter.unusedSimpArgs false
set_option linter.unusedVariables false
set_option maxRecDepth 20000
namespace Go.Proofs.Ytjhjgncnadhbhaa
open Go.RowKit

theorem all8_le {f g : Nat → Int} {m : Int} (h : ∃ d, d < 8 ∧ m ≤ f d) (hg : ∀ d, d < 8 → g d < m) : all8 f g = false := by
  rw [Bool.eq_false_iff]
  intro e
  obtain ⟨d, hd, h1⟩ := h
  have := all8_true.1 e d hd
  have := hg d hd
  omega
theorem bool_ext {a b : Bool} (h : a = true ↔ b = true) : a = b := by
  cases a <;> cases b <;> simp_all
set_option maxRecDepth 20000 in
set_option maxHeartbeats 8000000 in
theorem steps_any {x : Pn} (w : World) (h : PnAt w x) (ho : PnOk x) (hal : rightFrom 0 x.al = true) :
    Calls Try.prog 39 #[pnV x] w fun e w' => e = .returned (.bool (stepsB x)) ∧ Below w.heap.size w w' := by
  have hsb : Hid (stepsB x = (decide (1 ≤ x.pl.length) && decide (x.pl.length ≤ 16) && x.pl.all pdR && (decide ((ovN x.pl x.s x.e).1 = x.pl.length) && decide ((ovN x.pl x.s x.e).2 = x.e)) && all8 (tot x.pl) (fun d => vl (amP x.al d)))) := by
    unfold Hid stepsB; rw [ovN_full ho.p]
  have hO : Hid (∀ X, Below w.heap.size w X → Calls Try.prog 34 #[pnV x, .int .u64 x.e] X fun e w' => e = .returned (.tuple #[.int .i64 ((ovN x.pl x.s x.e).1 : Int), .int .u64 (ovN x.pl x.s x.e).2]) ∧ Below X.heap.size X w') := fun X hX => over_any X (h.below hX) ho ho.w.e
  have hT : Hid (∀ X, Below w.heap.size w X → (∀ q ∈ x.pl, rightFrom 0 q.l = true) → Calls Try.prog 41 #[x.pv] X _) := fun X hX hr => together_any X (h.2.below hX) ho.p hr
  have hA : Hid (∀ X, Below w.heap.size w X → IsCoins X x.av (lst (amP x.al) 8)) := fun X hX => (h.1.below hX).lst hal
  have hyA := amP_purse ho.w.al
  have hvA : Hid (∀ d, d < 8 → vl (amP x.al d) < 115792089237316195423570985008687907853269984665640564039457584007913129639936) := fun d hd => (vl_lo hyA hd).2
  have hwf := ho.p
  obtain ⟨k, s, u, av, pv, al, pl⟩ := x
  obtain ⟨h1, h2⟩ := h
  simp only at h1 h2 hsb hO hT hA hyA hvA hwf ⊢
  obtain ⟨a1, c1, rfl⟩ := h1.slice
  obtain ⟨a2, c2, rfl⟩ := h2.slice
  generalize hK : stepsB ⟨k, s, u, .slice a1 al.length c1, .slice a2 pl.length c2, al, pl⟩ = K at *
  clear hK
  show Calls Try.prog 39 #[.agg #[.int .u8 k, .int .u64 s, .int .u64 u, .slice a1 al.length c1, .slice a2 pl.length c2]] w _
  have hO' : Hid (∀ X, Below w.heap.size w X → Calls Try.prog 34 #[.agg #[.int .u8 k, .int .u64 s, .int .u64 u, .slice a1 al.length c1, .slice a2 pl.length c2], .int .u64 u] X fun e w' => e = .returned (.tuple #[.int .i64 ((ovN pl s u).1 : Int), .int .u64 (ovN pl s u).2]) ∧ Below X.heap.size X w') := hO
  clear hO
  have hb0 : Below w.heap.size w (w.alloc (.cells #[.int .u8 k, .int .u64 s, .int .u64 u, .slice a1 al.length c1, .slice a2 pl.length c2] 33)) := ba (Below.refl _ _) _
  have hP0 : (w.alloc (.cells #[.int .u8 k, .int .u64 s, .int .u64 u, .slice a1 al.length c1, .slice a2 pl.length c2] 33)).heap.size = w.heap.size + 1 := by simp
  have hkeep : Hid (∀ X, Below (w.alloc (.cells #[.int .u8 k, .int .u64 s, .int .u64 u, .slice a1 al.length c1, .slice a2 pl.length c2] 33)).heap.size (w.alloc (.cells #[.int .u8 k, .int .u64 s, .int .u64 u, .slice a1 al.length c1, .slice a2 pl.length c2] 33)) X → X.cell? ⟨w.heap.size, 0, none⟩ = some (.int .u8 k) ∧ X.cell? ⟨w.heap.size, 1, none⟩ = some (.int .u64 s) ∧ X.cell? ⟨w.heap.size, 2, none⟩ = some (.int .u64 u) ∧ X.cell? ⟨w.heap.size, 3, none⟩ = some (.slice a1 al.length c1) ∧ X.cell? ⟨w.heap.size, 4, none⟩ = some (.slice a2 pl.length c2)) := fun X hX => by
    have q1 := (hX.block w.heap.size (by simp)).trans (al_at rfl)
    exact ⟨(cells_of_block q1).1 0, (cells_of_block q1).1 1, (cells_of_block q1).1 2, (cells_of_block q1).1 3, (cells_of_block q1).1 4⟩
  have hlen := h2.len
  have hlen' : (pl.length : Int) ≤ 9223372036854775807 := by omega
  have hP : Hid _ := pds_at h2
  clear h1 h2
  by_cases hlo : pl.length < 1
  · have hlo' : (pl.length : Int) < 1 := by omega
    have hr : Hid (K = false) := by unfold Hid; rw [hsb.out, decide_eq_false (by omega)]; simp
    clear hsb hO' hT hA hkeep
    go_enter Try.func39, Try.ntmps39
    go_wp2
    go_ret
    rw [hr.out]
    exact ⟨rfl, hb0⟩
  by_cases hhi : 16 < pl.length
  · have hhi' : (16 : Int) < (pl.length : Int) := by omega
    have hlo' : ¬ (pl.length : Int) < 1 := by omega
    have hr : Hid (K = false) := by unfold Hid; rw [hsb.out, decide_eq_false (by omega : ¬ pl.length ≤ 16)]; simp
    clear hsb hO' hT hA hkeep
    go_enter Try.func39, Try.ntmps39
    go_wp2
    go_ret
    rw [hr.out]
    exact ⟨rfl, hb0⟩
  have hlo' : ¬ (pl.length : Int) < 1 := by omega
  have hhi' : ¬ (16 : Int) < (pl.length : Int) := by omega
  rw [decide_eq_true (by omega : 1 ≤ pl.length), decide_eq_true (by omega : pl.length ≤ 16)] at hsb
  go_enter Try.func39, Try.ntmps39
  go_wp2
  generalize w.alloc (.cells #[.int .u8 k, .int .u64 s, .int .u64 u, .slice a1 al.length c1, .slice a2 pl.length c2] 33) = P at *
  go_loopw [22] (fun iv X => ∃ (i : Nat), i ≤ pl.length ∧ iv = .int .i64 (i : Int) ∧ Hid (∀ q ∈ pl.take i, pdR q = true) ∧ Below P.heap.size P X) (fun iv _ => pl.length - (intOf iv).toNat)
  case atStart => exact ⟨0, by omega, rfl, by unfold Hid; simp, Below.refl _ _⟩
  case round =>
    obtain ⟨i, hi, rfl, hc, hX⟩ := hrel
    have hXw : Below w.heap.size w wr := hb0.trans (hX.mono (by omega))
    by_cases hlt : i < pl.length
    · have hlt' : (i : Int) < (pl.length : Int) := by omega
      obtain ⟨blk, off, rfl, hbl, hA1⟩ := hP.out i pl[i] (List.getElem?_eq_getElem hlt)
      obtain ⟨d0, d1, hxc⟩ := hA1.below hbl hXw
      obtain ⟨a3, c3, ev1⟩ := hxc.slice
      have hq := hwf pl[i] (List.getElem_mem hlt)
      rw [ev1] at d1 hxc
      have hbx : Below wr.heap.size wr (wr.alloc (.cells #[.int .u64 pl[i].n, .slice a3 pl[i].l.length c3] 71)) := ba (Below.refl _ _) _
      have hS := some_any _ (hxc.below hbx) hq.l
      have hpd : Hid (pdR pl[i] = (decide (1 ≤ pl[i].n) && someB pl[i].l)) := rfl
      have hbad : Hid (pdR pl[i] = false → K = false) := by
        intro e
        rw [hsb.out]
        have : pl.all pdR = false := by
          rw [Bool.eq_false_iff]; intro e2
          have := List.all_eq_true.1 e2 pl[i] (List.getElem_mem hlt)
          rw [e] at this; cases this
        rw [this]; simp
      by_cases hn : pl[i].n < 1
      · have hr : Hid (K = false) := hbad.out (by rw [hpd.out, decide_eq_false (by omega)]; rfl)
        clear hsb hO' hT hA hkeep hS hpd hbad
        go_wp2
        go_ret
        rw [hr.out]
        exact ⟨rfl, ba hXw _⟩
      · cases hsm : someB pl[i].l
        · have hr : Hid (K = false) := hbad.out (by rw [hpd.out, hsm]; simp)
          rw [hsm] at hS
          clear hsb hO' hT hA hkeep hpd hbad hsm
          go_wp2_with (go_at_call 62; refine hS.mono ?_; rintro e w1 ⟨rfl, hb1⟩)
          go_ret
          rw [hr.out]
          exact ⟨rfl, bt (ba hXw _) hb1⟩
        · rw [hsm] at hS
          have hc2 : Hid (∀ q ∈ pl.take (i + 1), pdR q = true) := by
            intro q hq'
            rw [List.take_succ_eq_append_getElem hlt] at hq'
            rcases List.mem_append.1 hq' with h | h
            · exact hc.out q h
            · rw [List.mem_singleton] at h
              subst h
              rw [hpd.out, hsm, decide_eq_true (by omega : 1 ≤ pl[i].n)]; rfl
          clear hsb hO' hT hA hkeep hpd hbad hsm hc
          go_wp2_with (go_at_call 62; refine hS.mono ?_; rintro e w1 ⟨rfl, hb1⟩)
          all_goals go_roundw
          case rel => exact ⟨i + 1, by omega, by go_num, hc2, bt (ba hX _) hb1⟩
          case measure => (simp [intOf]; omega)
    · obtain rfl : i = pl.length := by omega
      rw [List.take_length] at hc
      have hall : pl.all pdR = true := List.all_eq_true.2 hc.out
      have hrt : Hid (∀ q ∈ pl, rightFrom 0 q.l = true) := fun q hq => by
        have := hc.out q hq
        simp only [pdR, Bool.and_eq_true] at this
        exact some_right this.2
      rw [hall] at hsb
      have hpur := sumP_purse hwf
      obtain ⟨k0, k1, k2, k3, k4⟩ := hkeep.out _ hX
      have hT' : Hid (∀ X, Below w.heap.size w X → Calls Try.prog 41 #[.slice a2 pl.length c2] X _) := fun X hX => hT.out X hX hrt.out
      have hle := ovN_le pl s u
      generalize ovN pl s u = o at *
      obtain ⟨o1, o2⟩ := o
      simp only at hsb hO' hle
      clear hall hT hrt hc hP
      by_cases hm : o1 = pl.length
      · subst hm
        by_cases he : o2 = u
        · subst he
          rw [decide_eq_true rfl, decide_eq_true rfl] at hsb
          by_cases hf : ∀ d, d < 8 → tot pl d < 115792089237316195423570985008687907853269984665640564039457584007913129639936
          · have hr : Hid (K = allB eqB (lst (sumP pl) 8) (lst (amP al) 8) 8) := by
              unfold Hid
              rw [hsb.out, allB_eq (hpur hf) hyA]
              simp [sumP_vl]
            have hz := hpur hf
            clear hsb hpur
            go_wp2_with (first
              | (go_at_call 34; refine (hO'.out _ hXw).mono ?_; rintro e w1 ⟨rfl, hb1⟩; have hX1 := bt hXw hb1; obtain ⟨m0, m1, m2, m3, m4⟩ := hkeep.out _ (bt hX hb1))
              | (go_at_call 41; refine (hT'.out _ hX1).mono ?_; rintro e w2 (⟨_, u, rfl, hu, hb2⟩ | ⟨hex, rfl, hb2⟩); rotate_left; obtain ⟨d, hd, e⟩ := hex; have := hf d hd; omega; obtain ⟨au, cu, rfl⟩ := hu.sl; have hu : Hid _ := hu; obtain ⟨n0, n1, n2, n3, n4⟩ := hkeep.out _ (bt (bt hX hb1) hb2))
              | (go_at_call 63; refine (sameP_raw hz hyA _ hu.out (hA.out _ (bt hX1 hb2))).mono ?_; rintro e w3 ⟨rfl, hb3⟩))
            go_ret
            rw [hr.out]
            exact ⟨by simp, bt (bt hX1 hb2) hb3⟩
          · have hr : Hid (K = false) := by
              unfold Hid
              have hex : ∃ d, d < 8 ∧ 115792089237316195423570985008687907853269984665640564039457584007913129639936 ≤ tot pl d := Classical.byContradiction fun hn => hf fun d hd => Int.not_le.1 fun e => hn ⟨d, hd, e⟩
              rw [hsb.out, all8_le hex hvA.out]
              simp
            go_wp2_with (first
              | (go_at_call 34; refine (hO'.out _ hXw).mono ?_; rintro e w1 ⟨rfl, hb1⟩; have hX1 := bt hXw hb1; obtain ⟨m0, m1, m2, m3, m4⟩ := hkeep.out _ (bt hX hb1))
              | (go_at_call 41; refine (hT'.out _ hX1).mono ?_; rintro e w2 (⟨_, u, rfl, hu, hb2⟩ | ⟨hex, rfl, hb2⟩); exact absurd ‹_› hf; obtain ⟨n0, n1, n2, n3, n4⟩ := hkeep.out _ (bt (bt hX hb1) hb2)))
            go_ret
            rw [hr.out]
            exact ⟨by simp, bt hX1 hb2⟩
        · have hr : Hid (K = false) := by unfold Hid; rw [hsb.out, decide_eq_false he]; simp
          have hd2 : (o2 == u) = false := by simpa using he
          go_wp2_with (first
            | (go_at_call 34; refine (hO'.out _ hXw).mono ?_; rintro e w1 ⟨rfl, hb1⟩; have hX1 := bt hXw hb1; obtain ⟨m0, m1, m2, m3, m4⟩ := hkeep.out _ (bt hX hb1))
            | (go_at_call 41; refine (hT'.out _ hX1).mono ?_; rintro e w2 (⟨_, u2, rfl, hu, hb2⟩ | ⟨_, rfl, hb2⟩); obtain ⟨n0, n1, n2, n3, n4⟩ := hkeep.out _ (bt (bt hX hb1) hb2); obtain ⟨au, cu, rfl⟩ := hu.sl; rotate_left; obtain ⟨n0, n1, n2, n3, n4⟩ := hkeep.out _ (bt (bt hX hb1) hb2)))
          all_goals go_wp2
          all_goals go_ret
          all_goals rw [hr.out]
          all_goals exact ⟨by simp, bt hX1 hb2⟩
      · have hr : Hid (K = false) := by unfold Hid; rw [hsb.out, decide_eq_false hm]; simp
        have hd2 : ((o1 : Int) == (pl.length : Int)) = false := by simp; omega
        have hd3 : ¬ (o1 : Int) = (pl.length : Int) := by omega
        go_wp2_with (first
          | (go_at_call 34; refine (hO'.out _ hXw).mono ?_; rintro e w1 ⟨rfl, hb1⟩; have hX1 := bt hXw hb1; obtain ⟨m0, m1, m2, m3, m4⟩ := hkeep.out _ (bt hX hb1))
          | (go_at_call 41; refine (hT'.out _ hX1).mono ?_; rintro e w2 (⟨_, u2, rfl, hu, hb2⟩ | ⟨_, rfl, hb2⟩); obtain ⟨n0, n1, n2, n3, n4⟩ := hkeep.out _ (bt (bt hX hb1) hb2); obtain ⟨au, cu, rfl⟩ := hu.sl; rotate_left; obtain ⟨n0, n1, n2, n3, n4⟩ := hkeep.out _ (bt (bt hX hb1) hb2)))
        all_goals go_wp2
        all_goals go_ret
        all_goals rw [hr.out]
        all_goals exact ⟨by simp, bt hX1 hb2⟩
end Go.Proofs.Ytjhjgncnadhbhaa

/- plan.Right. -/
namespace Go.Proofs.Ytjhjgncnadhbhaa
open Go.RowKit
section
variable {s t : Int} {a1 a2 : Option Addr} {c1 c2 : Nat} {al : List Cn} {pl : List Pd}
set_option maxHeartbeats 4000000 in
theorem planRight_2 (w : World) (h : PnAt w ⟨2, s, t, .slice a1 al.length c1, .slice a2 pl.length c2, al, pl⟩) (hw : PnWf ⟨2, s, t, .slice a1 al.length c1, .slice a2 pl.length c2, al, pl⟩) :
    Calls Try.prog 12 #[.agg #[.int .u8 2, .int .u64 s, .int .u64 t, .slice a1 al.length c1, .slice a2 pl.length c2]] w fun e w' => e = .returned (.bool (s == 0 && givesB ⟨2, s, t, .slice a1 al.length c1, .slice a2 pl.length c2, al, pl⟩ && pl.isEmpty)) ∧ Below w.heap.size w w' := by
  have hb : Below w.heap.size w (w.alloc (.cells #[.int .u8 2, .int .u64 s, .int .u64 t, .slice a1 al.length c1, .slice a2 pl.length c2] 33)) := ba (Below.refl _ _) _
  have hG := gives_any _ (h.below hb) hw
  have hG' : Calls Try.prog 38 #[.agg #[.int .u8 2, .int .u64 s, .int .u64 t, .slice a1 al.length c1, .slice a2 pl.length c2]] _ _ := hG
  have hkeep : Hid (∀ X, Below (w.alloc (.cells #[.int .u8 2, .int .u64 s, .int .u64 t, .slice a1 al.length c1, .slice a2 pl.length c2] 33)).heap.size (w.alloc (.cells #[.int .u8 2, .int .u64 s, .int .u64 t, .slice a1 al.length c1, .slice a2 pl.length c2] 33)) X → X.cell? ⟨w.heap.size, 4, none⟩ = some (.slice a2 pl.length c2)) := fun X hX => by
    have q1 := (hX.block w.heap.size (by simp)).trans (al_at rfl)
    exact (cells_of_block q1).1 4
  have hpn := h.2.len
  clear hG
  by_cases hs : s = 0
  · subst hs
    cases hg : givesB ⟨2, 0, t, .slice a1 al.length c1, .slice a2 pl.length c2, al, pl⟩
    · rw [hg] at hG'
      go_enter Try.func12, Try.ntmps12
      go_wp2_with (go_at_call 38; refine hG'.mono ?_; rintro e w1 ⟨rfl, hb1⟩)
      go_ret
      exact ⟨by simp, bt hb hb1⟩
    · rw [hg] at hG'
      go_enter Try.func12, Try.ntmps12
      go_wp2_with (go_at_call 38; refine hG'.mono ?_; rintro e w1 ⟨rfl, hb1⟩; have q := hkeep.out _ hb1)
      go_ret
      refine ⟨?_, bt hb hb1⟩
      cases pl with
      | nil => simp
      | cons y pl => simp; omega
  · skip
    have hd : (s == 0) = false := by simpa using hs
    clear hG' hkeep
    go_enter Try.func12, Try.ntmps12
    go_wp2
    go_ret
    exact ⟨by simp [hd], hb⟩
set_option maxHeartbeats 4000000 in
theorem planRight_4 (w : World) (h : PnAt w ⟨4, s, t, .slice a1 al.length c1, .slice a2 pl.length c2, al, pl⟩) (hw : PnWf ⟨4, s, t, .slice a1 al.length c1, .slice a2 pl.length c2, al, pl⟩) :
    Calls Try.prog 12 #[.agg #[.int .u8 4, .int .u64 s, .int .u64 t, .slice a1 al.length c1, .slice a2 pl.length c2]] w fun e w' => e = .returned (.bool (s == 0 && t == 0 && givesB ⟨4, s, t, .slice a1 al.length c1, .slice a2 pl.length c2, al, pl⟩ && pl.isEmpty)) ∧ Below w.heap.size w w' := by
  have hb : Below w.heap.size w (w.alloc (.cells #[.int .u8 4, .int .u64 s, .int .u64 t, .slice a1 al.length c1, .slice a2 pl.length c2] 33)) := ba (Below.refl _ _) _
  have hG := gives_any _ (h.below hb) hw
  have hG' : Calls Try.prog 38 #[.agg #[.int .u8 4, .int .u64 s, .int .u64 t, .slice a1 al.length c1, .slice a2 pl.length c2]] _ _ := hG
  have hkeep : Hid (∀ X, Below (w.alloc (.cells #[.int .u8 4, .int .u64 s, .int .u64 t, .slice a1 al.length c1, .slice a2 pl.length c2] 33)).heap.size (w.alloc (.cells #[.int .u8 4, .int .u64 s, .int .u64 t, .slice a1 al.length c1, .slice a2 pl.length c2] 33)) X → X.cell? ⟨w.heap.size, 4, none⟩ = some (.slice a2 pl.length c2)) := fun X hX => by
    have q1 := (hX.block w.heap.size (by simp)).trans (al_at rfl)
    exact (cells_of_block q1).1 4
  have hpn := h.2.len
  clear hG
  by_cases hs : s = 0
  · subst hs
    by_cases ht : t = 0
    · subst ht
      cases hg : givesB ⟨4, 0, 0, .slice a1 al.length c1, .slice a2 pl.length c2, al, pl⟩
      · rw [hg] at hG'
        go_enter Try.func12, Try.ntmps12
        go_wp2_with (go_at_call 38; refine hG'.mono ?_; rintro e w1 ⟨rfl, hb1⟩)
        go_ret
        exact ⟨by simp, bt hb hb1⟩
      · rw [hg] at hG'
        go_enter Try.func12, Try.ntmps12
        go_wp2_with (go_at_call 38; refine hG'.mono ?_; rintro e w1 ⟨rfl, hb1⟩; have q := hkeep.out _ hb1)
        go_ret
        refine ⟨?_, bt hb hb1⟩
        cases pl with
        | nil => simp
        | cons y pl => simp; omega
    · skip
      have hd : (t == 0) = false := by simpa using ht
      clear hG' hkeep
      go_enter Try.func12, Try.ntmps12
      go_wp2
      go_ret
      exact ⟨by simp [hd], hb⟩
  · skip
    have hd : (s == 0) = false := by simpa using hs
    clear hG' hkeep
    go_enter Try.func12, Try.ntmps12
    go_wp2
    go_ret
    exact ⟨by simp [hd], hb⟩
set_option maxHeartbeats 4000000 in
theorem planRight_3 (w : World) (h : PnAt w ⟨3, s, t, .slice a1 al.length c1, .slice a2 pl.length c2, al, pl⟩) (ho : PnOk ⟨3, s, t, .slice a1 al.length c1, .slice a2 pl.length c2, al, pl⟩) :
    Calls Try.prog 12 #[.agg #[.int .u8 3, .int .u64 s, .int .u64 t, .slice a1 al.length c1, .slice a2 pl.length c2]] w fun e w' => e = .returned (.bool (givesB ⟨3, s, t, .slice a1 al.length c1, .slice a2 pl.length c2, al, pl⟩ && stepsB ⟨3, s, t, .slice a1 al.length c1, .slice a2 pl.length c2, al, pl⟩)) ∧ Below w.heap.size w w' := by
  have hb : Below w.heap.size w (w.alloc (.cells #[.int .u8 3, .int .u64 s, .int .u64 t, .slice a1 al.length c1, .slice a2 pl.length c2] 33)) := ba (Below.refl _ _) _
  have hG := gives_any _ (h.below hb) ho.w
  have hG' : Calls Try.prog 38 #[.agg #[.int .u8 3, .int .u64 s, .int .u64 t, .slice a1 al.length c1, .slice a2 pl.length c2]] _ _ := hG
  have hkeep : Hid (∀ X, Below (w.alloc (.cells #[.int .u8 3, .int .u64 s, .int .u64 t, .slice a1 al.length c1, .slice a2 pl.length c2] 33)).heap.size (w.alloc (.cells #[.int .u8 3, .int .u64 s, .int .u64 t, .slice a1 al.length c1, .slice a2 pl.length c2] 33)) X → X.cell? ⟨w.heap.size, 0, none⟩ = some (.int .u8 3) ∧ X.cell? ⟨w.heap.size, 1, none⟩ = some (.int .u64 s) ∧ X.cell? ⟨w.heap.size, 2, none⟩ = some (.int .u64 t) ∧ X.cell? ⟨w.heap.size, 3, none⟩ = some (.slice a1 al.length c1) ∧ X.cell? ⟨w.heap.size, 4, none⟩ = some (.slice a2 pl.length c2)) := fun X hX => by
    have q1 := (hX.block w.heap.size (by simp)).trans (al_at rfl)
    exact ⟨(cells_of_block q1).1 0, (cells_of_block q1).1 1, (cells_of_block q1).1 2, (cells_of_block q1).1 3, (cells_of_block q1).1 4⟩
  clear hG
  cases hg : givesB ⟨3, s, t, .slice a1 al.length c1, .slice a2 pl.length c2, al, pl⟩
  · rw [hg] at hG'
    clear hkeep
    go_enter Try.func12, Try.ntmps12
    go_wp2_with (go_at_call 38; refine hG'.mono ?_; rintro e w1 ⟨rfl, hb1⟩)
    go_ret
    exact ⟨by simp, bt hb hb1⟩
  · have hS : Hid (∀ X, Below w.heap.size w X → Calls Try.prog 39 #[.agg #[.int .u8 3, .int .u64 s, .int .u64 t, .slice a1 al.length c1, .slice a2 pl.length c2]] X fun e w' => e = .returned (.bool (stepsB ⟨3, s, t, .slice a1 al.length c1, .slice a2 pl.length c2, al, pl⟩)) ∧ Below X.heap.size X w') := fun X hX => steps_any X (h.below hX) ho (gives_right hg)
    rw [hg] at hG'
    generalize stepsB ⟨3, s, t, .slice a1 al.length c1, .slice a2 pl.length c2, al, pl⟩ = K at *
    go_enter Try.func12, Try.ntmps12
    go_wp2_with (first
      | (go_at_call 38; refine hG'.mono ?_; rintro e w1 ⟨rfl, hb1⟩; obtain ⟨q0, q1, q2, q3, q4⟩ := hkeep.out _ hb1)
      | (go_at_call 39; refine (hS.out _ (bt hb hb1)).mono ?_; rintro e w2 ⟨rfl, hb2⟩))
    go_ret
    exact ⟨by simp, bt (bt hb hb1) hb2⟩
set_option maxHeartbeats 4000000 in
theorem planRight_5 (w : World) (h : PnAt w ⟨5, s, t, .slice a1 al.length c1, .slice a2 pl.length c2, al, pl⟩) (ho : PnOk ⟨5, s, t, .slice a1 al.length c1, .slice a2 pl.length c2, al, pl⟩) :
    Calls Try.prog 12 #[.agg #[.int .u8 5, .int .u64 s, .int .u64 t, .slice a1 al.length c1, .slice a2 pl.length c2]] w fun e w' => e = .returned (.bool (givesB ⟨5, s, t, .slice a1 al.length c1, .slice a2 pl.length c2, al, pl⟩ && stepsB ⟨5, s, t, .slice a1 al.length c1, .slice a2 pl.length c2, al, pl⟩)) ∧ Below w.heap.size w w' := by
  have hb : Below w.heap.size w (w.alloc (.cells #[.int .u8 5, .int .u64 s, .int .u64 t, .slice a1 al.length c1, .slice a2 pl.length c2] 33)) := ba (Below.refl _ _) _
  have hG := gives_any _ (h.below hb) ho.w
  have hG' : Calls Try.prog 38 #[.agg #[.int .u8 5, .int .u64 s, .int .u64 t, .slice a1 al.length c1, .slice a2 pl.length c2]] _ _ := hG
  have hkeep : Hid (∀ X, Below (w.alloc (.cells #[.int .u8 5, .int .u64 s, .int .u64 t, .slice a1 al.length c1, .slice a2 pl.length c2] 33)).heap.size (w.alloc (.cells #[.int .u8 5, .int .u64 s, .int .u64 t, .slice a1 al.length c1, .slice a2 pl.length c2] 33)) X → X.cell? ⟨w.heap.size, 0, none⟩ = some (.int .u8 5) ∧ X.cell? ⟨w.heap.size, 1, none⟩ = some (.int .u64 s) ∧ X.cell? ⟨w.heap.size, 2, none⟩ = some (.int .u64 t) ∧ X.cell? ⟨w.heap.size, 3, none⟩ = some (.slice a1 al.length c1) ∧ X.cell? ⟨w.heap.size, 4, none⟩ = some (.slice a2 pl.length c2)) := fun X hX => by
    have q1 := (hX.block w.heap.size (by simp)).trans (al_at rfl)
    exact ⟨(cells_of_block q1).1 0, (cells_of_block q1).1 1, (cells_of_block q1).1 2, (cells_of_block q1).1 3, (cells_of_block q1).1 4⟩
  clear hG
  cases hg : givesB ⟨5, s, t, .slice a1 al.length c1, .slice a2 pl.length c2, al, pl⟩
  · rw [hg] at hG'
    clear hkeep
    go_enter Try.func12, Try.ntmps12
    go_wp2_with (go_at_call 38; refine hG'.mono ?_; rintro e w1 ⟨rfl, hb1⟩)
    go_ret
    exact ⟨by simp, bt hb hb1⟩
  · have hS : Hid (∀ X, Below w.heap.size w X → Calls Try.prog 39 #[.agg #[.int .u8 5, .int .u64 s, .int .u64 t, .slice a1 al.length c1, .slice a2 pl.length c2]] X fun e w' => e = .returned (.bool (stepsB ⟨5, s, t, .slice a1 al.length c1, .slice a2 pl.length c2, al, pl⟩)) ∧ Below X.heap.size X w') := fun X hX => steps_any X (h.below hX) ho (gives_right hg)
    rw [hg] at hG'
    generalize stepsB ⟨5, s, t, .slice a1 al.length c1, .slice a2 pl.length c2, al, pl⟩ = K at *
    go_enter Try.func12, Try.ntmps12
    go_wp2_with (first
      | (go_at_call 38; refine hG'.mono ?_; rintro e w1 ⟨rfl, hb1⟩; obtain ⟨q0, q1, q2, q3, q4⟩ := hkeep.out _ hb1)
      | (go_at_call 39; refine (hS.out _ (bt hb hb1)).mono ?_; rintro e w2 ⟨rfl, hb2⟩))
    go_ret
    exact ⟨by simp, bt (bt hb hb1) hb2⟩
end
theorem planRight_any {x : Pn} (w : World) (h : PnAt w x) (ho : PnOk x) :
    Calls Try.prog 12 #[pnV x] w fun e w' => e = .returned (.bool (rightB x)) ∧ Below w.heap.size w w' := by
  obtain ⟨k, s, t, av, pv, al, pl⟩ := x
  obtain ⟨a1, c1, e1⟩ := h.1.slice
  obtain ⟨a2, c2, e2⟩ := h.2.slice
  simp only at e1 e2
  subst e1 e2
  have hk := ho.w.k
  simp only at hk
  by_cases h0 : k = 0
  · subst h0
    exact planRight_0 w h
  by_cases h1 : k = 1
  · subst h1
    exact planRight_1 w h ho.w
  by_cases h2 : k = 2
  · subst h2
    exact planRight_2 w h ho.w
  by_cases h3 : k = 3
  · subst h3
    exact planRight_3 w h ho
  by_cases h4 : k = 4
  · subst h4
    exact planRight_4 w h ho.w
  by_cases h5 : k = 5
  · subst h5
    exact planRight_5 w h ho
  have e : rightB ⟨k, s, t, .slice a1 al.length c1, .slice a2 pl.length c2, al, pl⟩ = false := by
    unfold rightB rightN
    simp only
    rw [if_neg (by omega), if_neg h0, if_neg h1, if_neg h2, if_neg h4]
  rw [e]
  exact planRight_6 k (by omega) hk.2 w _ _
end Go.Proofs.Ytjhjgncnadhbhaa

/- jointurelaw06.plans of any kind; what a plan that was made answers. -/
namespace Go.Proofs.Ytjhjgncnadhbhaa
open Go.ChangeShapes Go.WideShapes Go.ChangeAt Go.RowKit

theorem plans6_any {w : World} {y : Md} (h : MdIn w y) (hf : fewM y = true) (W : World) (hB : Below w.heap.size w W) :
    Calls Try.prog 8 #[mdV y] W fun e w' => MadeOk W w' e := by
  obtain ⟨k, s, n, a1, n1, c1, a2, n2, c2, l, ps⟩ := y
  have hk := h.k
  have hn1 : n1 ≤ 20 := by
    simp only [fewM, Bool.and_eq_true, decide_eq_true_eq] at hf
    exact hf.1.1
  simp only at hk
  have h6 : k % 6 = 0 ∨ k % 6 = 1 ∨ k % 6 = 2 ∨ k % 6 = 3 ∨ k % 6 = 4 ∨ k % 6 = 5 := by omega
  rcases h6 with h6 | h6 | h6 | h6 | h6 | h6
  · exact plans_0 h h6 hn1 W hB
  · exact plans_1 h h6 hn1 W hB
  · exact plans_2 h h6 hn1 W hB
  · exact plans_3 h h6 hf W hB
  · exact plans_4 h h6 hn1 W hB
  · exact plans_5 h h6 hf W hB
/-- What holds of a plan that was made, where it is. -/
structure MF (X : World) (x : Pn) : Prop where
  at' : PnAt X x
  ok : PnOk x
  rb : rightB x = true
  cap : ∃ a n c, x.pv = .slice a n c ∧ n ≤ c
theorem MF.below {X Y : World} {x : Pn} (h : MF X x) (hb : Below X.heap.size X Y) : MF Y x := ⟨h.at'.below hb, h.ok, h.rb, h.cap⟩
theorem plansS_any {w : World} {y : Md} (h : MdIn w y) (hf : fewM y = true) (W : World) (hB : Below w.heap.size w W) :
    Calls Try.prog 8 #[mdV y] W fun e w' => ∃ (k s u : Int) (a1 : Option Addr) (n1 c1 : Nat) (a2 : Option Addr) (n2 c2 : Nat) (x : Pn), e = .returned (.agg #[.int .u8 k, .int .u64 s, .int .u64 u, .slice a1 n1 c1, .slice a2 n2 c2]) ∧ Hid (x = ⟨k, s, u, .slice a1 n1 c1, .slice a2 n2 c2, x.al, x.pl⟩) ∧ Hid (MF w' x) ∧ Below W.heap.size W w' := by
  refine (plans6_any h hf W hB).mono ?_
  rintro e w' ⟨⟨k, s, u, av, pv, al, pl⟩, rfl, h1, h2, h3, h4, h5⟩
  have h1' := h1
  obtain ⟨i1, i2⟩ := h1
  simp only at i1 i2
  obtain ⟨a1, c1, rfl⟩ := i1.slice
  obtain ⟨a2, c2, rfl⟩ := i2.slice
  exact ⟨k, s, u, a1, _, c1, a2, _, c2, ⟨k, s, u, .slice a1 al.length c1, .slice a2 pl.length c2, al, pl⟩, rfl, rfl, ⟨h1', h2, h3, h4⟩, h5⟩
theorem coins_len {W : World} {a : Option Addr} {n c : Nat} {l : List Cn} (h : IsCoins W (.slice a n c) l) : n = l.length := by
  obtain ⟨_, _, e⟩ := h.sl
  injection e with _ e2 _
theorem addK {va vb : Value} {z y : Nat → Cn} {w : World} {Q : Ending → World → Prop} (hz : Purse z) (hy : Purse y) (hf : ∀ d, d < 8 → vl (z d) + vl (y d) < 115792089237316195423570985008687907853269984665640564039457584007913129639936) (hA : IsCoins w va (lst z 8)) (hB : IsCoins w vb (lst y 8))
    (hQ : ∀ e w', (∃ a n c, e = .returned (.tuple #[.slice a n c, .bool true]) ∧ IsCoins w' (.slice a n c) (lst (opP (· + ·) z y) 8) ∧ Below w.heap.size w w') → Q e w') : Calls Try.prog 33 #[va, vb] w Q :=
  (addRC_fit hz hy hf w hA hB).mono fun e w' ⟨u, h1, h2, h3⟩ => hQ e w' (by obtain ⟨a, c, rfl⟩ := h2.sl; exact ⟨a, _, c, h1, h2, h3⟩)
theorem rightK {v : Value} {l : List Cn} {w : World} {Q : Ending → World → Prop} (h : IsCL w v l) (hwf : ∀ x ∈ l, CnWf x) (hr : rightFrom 0 l = true) (hQ : ∀ e w', (e = .returned (.bool true) ∧ Below w.heap.size w w') → Q e w') : Calls Try.prog 78 #[v] w Q := by
  have := rightRCL_any w h hwf
  rw [hr] at this
  exact this.mono hQ
theorem hidI {W : World} {v : Value} {l : List Cn} (h : IsCoins W v l) : Hid (IsCoins W v l) := h
theorem sameK {va vb : Value} {p q : List Cn} {w : World} {Q : Ending → World → Prop} (hA : IsCL w va p) (hB : IsCL w vb q)
    (hQ : ∀ e w', (e = .returned (.bool (clB p q)) ∧ Below w.heap.size w w') → Q e w') : Calls Try.prog 13 #[va, vb] w Q :=
  (sameCL_any w hA hB).mono hQ
/-- What of a plan that was made is free, and locked. -/
theorem mf_vested {x : Pn} {t : Int} {X : World} (h : MF X x) (ht : 0 ≤ t ∧ t < 18446744073709551616) : Hid (∀ Y, Below X.heap.size X Y → Calls Try.prog 14 #[pnV x, .int .u64 t] Y fun e w' => ∃ a c, e = .returned (.slice a (lst (vestP x t) 8).length c) ∧ IsCoins w' (.slice a (lst (vestP x t) 8).length c) (lst (vestP x t) 8) ∧ Below Y.heap.size Y w') := fun Y hY => by
  refine Calls.mono (vested_any Y (h.at'.below hY) h.ok (right_facts h.rb) ht h.cap) ?_
  rintro e w' ⟨a, n, c, rfl, h1, h2⟩
  obtain rfl := coins_len h1
  exact ⟨a, c, rfl, h1, h2⟩
theorem mf_locked {x : Pn} {t : Int} {X : World} (h : MF X x) (ht : 0 ≤ t ∧ t < 18446744073709551616) : Hid (∀ Y, Below X.heap.size X Y → Calls Try.prog 15 #[pnV x, .int .u64 t] Y fun e w' => ∃ a c, e = .returned (.slice a (lst (lockP x t) 8).length c) ∧ IsCoins w' (.slice a (lst (lockP x t) 8).length c) (lst (lockP x t) 8) ∧ Below Y.heap.size Y w') := fun Y hY => by
  refine Calls.mono (locked_any Y (h.at'.below hY) h.ok (right_facts h.rb) ht h.cap) ?_
  rintro e w' ⟨a, n, c, rfl, h1, h2⟩
  obtain rfl := coins_len h1
  exact ⟨a, c, rfl, h1, h2⟩
theorem mf_right {x : Pn} {X : World} (h : MF X x) : Hid (∀ Y, Below X.heap.size X Y → Calls Try.prog 12 #[pnV x] Y fun e w' => e = .returned (.bool true) ∧ Below Y.heap.size Y w') := fun Y hY => by
  have := planRight_any Y (h.at'.below hY) h.ok
  rwa [h.rb] at this
theorem mf_coins {x : Pn} {X : World} (h : MF X x) : Hid (∀ Y, Below X.heap.size X Y → IsCoins Y x.av (lst (amP x.al) 8)) := fun Y hY => al_coins (h.at'.below hY) (right_facts h.rb)
section
variable {H : Type} {enc : TypeId × Value → H} {w : World} {base : Nat} {spare : Nat → Bool} {held : Bool} {fuel : Nat} {cs : List Value} {x : DataW H × List MemPlace}
theorem u64_in {n : Int} (h : DataW.trod enc Try.prog w base spare held fuel 28 [.int .u64 n] = some x) : 0 ≤ n ∧ n < 18446744073709551616 := by
  obtain ⟨d, ed, -, wd⟩ := DataW.trod_int Try.underlying28 h
  simp at ed
  subst ed
  have := bounds_u64 wd
  omega
end
end Go.Proofs.Ytjhjgncnadhbhaa

/- The reference's Same of plans. -/
namespace Go.Proofs.Ytjhjgncnadhbhaa
open Go.RowKit

set_option maxRecDepth 20000 in
set_option maxHeartbeats 16000000 in
theorem sameR6_any {W : World} {x y : Pn} (hx : PnAt W x) (hy : PnAt W y) :
    Calls Try.prog 10 #[pnV x, pnV y] W fun e w' => e = .returned (.bool (pnB x y)) ∧ Below W.heap.size W w' := by
  have hpad := pads
  obtain ⟨k, s, t, av, pv, al, pl⟩ := x
  obtain ⟨k', s', t', av', pv', al', pl'⟩ := y
  obtain ⟨hx1, hx2⟩ := hx
  obtain ⟨hy1, hy2⟩ := hy
  simp only at hx1 hx2 hy1 hy2
  obtain ⟨a1, c1, rfl⟩ := hx1.slice
  obtain ⟨a2, c2, rfl⟩ := hx2.slice
  obtain ⟨a3, c3, rfl⟩ := hy1.slice
  obtain ⟨a4, c4, rfl⟩ := hy2.slice
  show Calls Try.prog 10 #[.agg #[.int .u8 k, .int .u64 s, .int .u64 t, .slice a1 al.length c1, .slice a2 pl.length c2], .agg #[.int .u8 k', .int .u64 s', .int .u64 t', .slice a3 al'.length c3, .slice a4 pl'.length c4]] W _
  have hb : Below W.heap.size W ((W.alloc (.cells #[.int .u8 k, .int .u64 s, .int .u64 t, .slice a1 al.length c1, .slice a2 pl.length c2] 33)).alloc (.cells #[.int .u8 k', .int .u64 s', .int .u64 t', .slice a3 al'.length c3, .slice a4 pl'.length c4] 33)) := ba (ba (Below.refl _ _) _) _
  have hE := sameCL_any _ (hx1.below hb) (hy1.below hb)
  have hkeep : Hid (∀ X, Below ((W.alloc (.cells #[.int .u8 k, .int .u64 s, .int .u64 t, .slice a1 al.length c1, .slice a2 pl.length c2] 33)).alloc (.cells #[.int .u8 k', .int .u64 s', .int .u64 t', .slice a3 al'.length c3, .slice a4 pl'.length c4] 33)).heap.size ((W.alloc (.cells #[.int .u8 k, .int .u64 s, .int .u64 t, .slice a1 al.length c1, .slice a2 pl.length c2] 33)).alloc (.cells #[.int .u8 k', .int .u64 s', .int .u64 t', .slice a3 al'.length c3, .slice a4 pl'.length c4] 33)) X → X.cell? ⟨W.heap.size, 4, none⟩ = some (.slice a2 pl.length c2) ∧ X.cell? ⟨W.heap.size + 1, 4, none⟩ = some (.slice a4 pl'.length c4)) := fun X hX => by
    have q1 := (hX.block W.heap.size (by simp; omega)).trans (al_old (by simp))
    have q2 := (hX.block (W.heap.size + 1) (by simp)).trans (al_at (by simp))
    rw [al_at rfl] at q1
    exact ⟨(cells_of_block q1).1 4, (cells_of_block q2).1 4⟩
  have hlx := hx2.len
  have hly := hy2.len
  have hlx' : (pl.length : Int) ≤ 9223372036854775807 := by omega
  have hP1 : Hid _ := pds_at hx2
  have hP2 : Hid _ := pds_at hy2
  have hres : Hid (pnB ⟨k, s, t, .slice a1 al.length c1, .slice a2 pl.length c2, al, pl⟩ ⟨k', s', t', .slice a3 al'.length c3, .slice a4 pl'.length c4, al', pl'⟩ = (k == k' && s == s' && t == t' && clB al al' && plB pl pl')) := rfl
  generalize hK : pnB ⟨k, s, t, .slice a1 al.length c1, .slice a2 pl.length c2, al, pl⟩ ⟨k', s', t', .slice a3 al'.length c3, .slice a4 pl'.length c4, al', pl'⟩ = K at *
  clear hK hx1 hx2 hy1 hy2
  by_cases hk : k = k'
  case neg =>
    have hd : (k == k') = false := by simpa using hk
    have hf : Hid (K = false) := by unfold Hid; rw [hres.out, hd]; simp
    clear hres hE hkeep
    go_enter Try.func10, Try.ntmps10
    go_wp2
    go_ret
    rw [hf.out]
    exact ⟨by simp, hb⟩
  subst hk
  by_cases hs : s = s'
  case neg =>
    have hd : (s == s') = false := by simpa using hs
    have hf : Hid (K = false) := by unfold Hid; rw [hres.out, hd]; simp
    clear hres hE hkeep
    go_enter Try.func10, Try.ntmps10
    go_wp2
    go_ret
    rw [hf.out]
    exact ⟨by simp, hb⟩
  subst hs
  by_cases ht : t = t'
  case neg =>
    have hd : (t == t') = false := by simpa using ht
    have hf : Hid (K = false) := by unfold Hid; rw [hres.out, hd]; simp
    clear hres hE hkeep
    go_enter Try.func10, Try.ntmps10
    go_wp2
    go_ret
    rw [hf.out]
    exact ⟨by simp, hb⟩
  subst ht
  cases hc : clB al al'
  case false =>
    rw [hc] at hE
    have hf : Hid (K = false) := by unfold Hid; rw [hres.out, hc]; simp
    clear hres hc hkeep
    go_enter Try.func10, Try.ntmps10
    go_wp2_with (go_at_call 13; refine hE.mono ?_; rintro e w1 ⟨rfl, hb1⟩)
    go_ret
    rw [hf.out]
    exact ⟨by simp, bt hb hb1⟩
  rw [hc] at hE
  have hf : Hid (K = plB pl pl') := by unfold Hid; rw [hres.out, hc]; simp
  clear hres hc
  by_cases hll : pl.length = pl'.length
  case neg =>
    have hll' : ¬ (pl.length : Int) = (pl'.length : Int) := by omega
    have hr : Hid (K = false) := by unfold Hid; rw [hf.out, plB_len hll]
    clear hf hll hP1 hP2
    go_enter Try.func10, Try.ntmps10
    go_wp2_with (go_at_call 13; refine hE.mono ?_; rintro e w1 ⟨rfl, hb1⟩; obtain ⟨q1, q2⟩ := hkeep.out _ hb1)
    go_ret
    rw [hr.out]
    exact ⟨rfl, bt hb hb1⟩
  have hll2 : Hid _ := hll
  have hP0 : ((W.alloc (.cells #[.int .u8 k, .int .u64 s, .int .u64 t, .slice a1 al.length c1, .slice a2 pl.length c2] 33)).alloc (.cells #[.int .u8 k, .int .u64 s, .int .u64 t, .slice a3 al'.length c3, .slice a4 pl'.length c4] 33)).heap.size = W.heap.size + 1 + 1 := by simp
  rw [← hll] at hE hkeep hb hP0 ⊢
  clear hll
  go_enter Try.func10, Try.ntmps10
  go_wp2_with (go_at_call 13; refine hE.mono ?_; rintro e w1 ⟨rfl, hb1⟩; obtain ⟨q1, q2⟩ := hkeep.out _ hb1)
  have hb0 := bt hb hb1
  generalize (W.alloc (.cells #[.int .u8 k, .int .u64 s, .int .u64 t, .slice a1 al.length c1, .slice a2 pl.length c2] 33)).alloc (.cells #[.int .u8 k, .int .u64 s, .int .u64 t, .slice a3 al'.length c3, .slice a4 pl.length c4] 33) = P at *
  go_loopw [5] (fun iv X => ∃ (i : Nat), i ≤ pl.length ∧ iv = .int .i64 (i : Int) ∧ Hid (plB pl pl' = plB (pl.drop i) (pl'.drop i)) ∧ Below P.heap.size P X ∧ Below W.heap.size W X) (fun iv _ => pl.length - (intOf iv).toNat)
  case atStart => exact ⟨0, by omega, rfl, by unfold Hid; simp, hb1, hb0⟩
  case round =>
    obtain ⟨i, hi, rfl, hc, hX, hXW⟩ := hrel
    obtain ⟨k1, k2⟩ := hkeep.out _ hX
    by_cases hlt : i < pl.length
    · have hlt' : (i : Int) < (pl.length : Int) := by omega
      have hiq : i < pl'.length := by have := hll2.out; omega
      obtain ⟨g, o, rfl, hg, hxA⟩ := hP1.out i pl[i] (List.getElem?_eq_getElem hlt)
      obtain ⟨h, u, rfl, hh, hyA⟩ := hP2.out i pl'[i] (List.getElem?_eq_getElem hiq)
      obtain ⟨d0, d1, hxc⟩ := hxA.below hg hXW
      obtain ⟨e0, e1, hyc⟩ := hyA.below hh hXW
      have hc2 : Hid (plB pl pl' = (pdB pl[i] pl'[i] && plB (pl.drop (i + 1)) (pl'.drop (i + 1)))) := by unfold Hid; rw [hc.out, plB_cons hlt hiq]
      have hpd : Hid (pdB pl[i] pl'[i] = (pl[i].n == pl'[i].n && clB pl[i].l pl'[i].l)) := rfl
      have hwz : W.heap.size + 1 < wr.heap.size := by have := hX.size; omega
      have hgX : g < wr.heap.size := Nat.lt_of_lt_of_le hg hXW.size
      have hhX : h < wr.heap.size := Nat.lt_of_lt_of_le hh hXW.size
      have hC : Hid (∀ X, Below wr.heap.size wr X → Calls Try.prog 13 #[pl[i].v, pl'[i].v] X fun e w' => e = .returned (.bool (clB pl[i].l pl'[i].l)) ∧ Below X.heap.size X w') := fun X hX => sameCL_any X (hxc.below hX) (hyc.below hX)
      obtain ⟨a5, c5, ev1⟩ := hxc.slice
      obtain ⟨a6, c6, ev2⟩ := hyc.slice
      rw [ev1] at d1 hC
      rw [ev2] at e1 hC
      have hkp : Hid (∀ X, Below wr.heap.size wr X → X.cell? ⟨W.heap.size, 4, none⟩ = some (.slice (some ⟨g, o, none⟩) pl.length c2) ∧ X.cell? ⟨W.heap.size + 1, 4, none⟩ = some (.slice (some ⟨h, u, none⟩) pl.length c4) ∧ X.cell? ⟨g, o + i * 2, none⟩ = some (.int .u64 pl[i].n) ∧ X.cell? ⟨g, o + i * 2 + 1, none⟩ = some (.slice a5 pl[i].l.length c5) ∧ X.cell? ⟨h, u + i * 2, none⟩ = some (.int .u64 pl'[i].n) ∧ X.cell? ⟨h, u + i * 2 + 1, none⟩ = some (.slice a6 pl'[i].l.length c6)) := fun X hX =>
        ⟨(hX.cell (p := ⟨W.heap.size, 4, none⟩) (by show W.heap.size < wr.heap.size; omega)).trans k1, (hX.cell (p := ⟨W.heap.size + 1, 4, none⟩) hwz).trans k2, (hX.cell (p := ⟨g, _, none⟩) hgX).trans d0, (hX.cell (p := ⟨g, _, none⟩) hgX).trans d1, (hX.cell (p := ⟨h, _, none⟩) hhX).trans e0, (hX.cell (p := ⟨h, _, none⟩) hhX).trans e1⟩
      clear hxA hyA hxc hyc ev1 ev2 hc
      generalize pl[i] = x at *
      generalize pl'[i] = y at *
      by_cases hn : x.n = y.n
      · have hn2 : (x.n != y.n) = false := by simp [hn]
        cases hcl : clB x.l y.l
        · rw [hcl] at hC hpd
          have hr : Hid (K = false) := by unfold Hid; rw [hf.out, hc2.out, hpd.out]; simp
          clear hpd hc2 hf hcl
          go_upto_region 6 with fail
          go_region_held2 (fun X => X.cell? ⟨W.heap.size, 4, none⟩ = some (.slice (some ⟨g, o, none⟩) pl.length c2) ∧ X.cell? ⟨W.heap.size + 1, 4, none⟩ = some (.slice (some ⟨h, u, none⟩) pl.length c4) ∧ X.cell? ⟨g, o + i * 2, none⟩ = some (.int .u64 x.n) ∧ X.cell? ⟨g, o + i * 2 + 1, none⟩ = some (.slice a5 x.l.length c5) ∧ X.cell? ⟨h, u + i * 2, none⟩ = some (.int .u64 y.n) ∧ X.cell? ⟨h, u + i * 2 + 1, none⟩ = some (.slice a6 y.l.length c6)) (exact hkp.out _ (by (repeat (first | (with_reducible exact Below.refl _ _) | (with_reducible assumption) | (with_reducible apply bd) | (with_reducible apply ba) | (with_reducible refine bp ?_ (by first | omega | (simp [pad_size]; done) | (simp [pad_size]; omega)) _ _) | (with_reducible refine bs ?_ (by first | omega | (simp [pad_size]; done) | (simp [pad_size]; omega)) _) | (with_reducible refine bt ?_ (by assumption)))))) (first
            | (go_at_call 13; refine (hC.out _ (by (repeat (first | (with_reducible exact Below.refl _ _) | (with_reducible assumption) | (with_reducible apply bd) | (with_reducible apply ba) | (with_reducible refine bp ?_ (by first | omega | (simp [pad_size]; done) | (simp [pad_size]; omega)) _ _) | (with_reducible refine bs ?_ (by first | omega | (simp [pad_size]; done) | (simp [pad_size]; omega)) _) | (with_reducible refine bt ?_ (by assumption)))))).mono ?_; rintro e w2 ⟨rfl, hb2⟩; obtain ⟨m1, g1, r1, hm1, rfl⟩ := pad_of hb2; clear hb2; simp [pad_size] at hm1))
          all_goals go_wp2_with fail
          all_goals go_ret
          all_goals rw [hr.out]
          all_goals exact ⟨by simp, bt hXW (by (repeat (first | (with_reducible exact Below.refl _ _) | (with_reducible assumption) | (with_reducible apply bd) | (with_reducible apply ba) | (with_reducible refine bp ?_ (by first | omega | (simp [pad_size]; done) | (simp [pad_size]; omega)) _ _) | (with_reducible refine bs ?_ (by first | omega | (simp [pad_size]; done) | (simp [pad_size]; omega)) _) | (with_reducible refine bt ?_ (by assumption)))))⟩
        · rw [hcl] at hC hpd
          have hc3 : Hid (plB pl pl' = plB (pl.drop (i + 1)) (pl'.drop (i + 1))) := by unfold Hid; rw [hc2.out, hpd.out, hn]; simp
          clear hpd hc2 hf hcl
          go_upto_region 6 with fail
          go_region_held2 (fun X => X.cell? ⟨W.heap.size, 4, none⟩ = some (.slice (some ⟨g, o, none⟩) pl.length c2) ∧ X.cell? ⟨W.heap.size + 1, 4, none⟩ = some (.slice (some ⟨h, u, none⟩) pl.length c4) ∧ X.cell? ⟨g, o + i * 2, none⟩ = some (.int .u64 x.n) ∧ X.cell? ⟨g, o + i * 2 + 1, none⟩ = some (.slice a5 x.l.length c5) ∧ X.cell? ⟨h, u + i * 2, none⟩ = some (.int .u64 y.n) ∧ X.cell? ⟨h, u + i * 2 + 1, none⟩ = some (.slice a6 y.l.length c6)) (exact hkp.out _ (by (repeat (first | (with_reducible exact Below.refl _ _) | (with_reducible assumption) | (with_reducible apply bd) | (with_reducible apply ba) | (with_reducible refine bp ?_ (by first | omega | (simp [pad_size]; done) | (simp [pad_size]; omega)) _ _) | (with_reducible refine bs ?_ (by first | omega | (simp [pad_size]; done) | (simp [pad_size]; omega)) _) | (with_reducible refine bt ?_ (by assumption)))))) (first
            | (go_at_call 13; refine (hC.out _ (by (repeat (first | (with_reducible exact Below.refl _ _) | (with_reducible assumption) | (with_reducible apply bd) | (with_reducible apply ba) | (with_reducible refine bp ?_ (by first | omega | (simp [pad_size]; done) | (simp [pad_size]; omega)) _ _) | (with_reducible refine bs ?_ (by first | omega | (simp [pad_size]; done) | (simp [pad_size]; omega)) _) | (with_reducible refine bt ?_ (by assumption)))))).mono ?_; rintro e w2 ⟨rfl, hb2⟩; obtain ⟨m1, g1, r1, hm1, rfl⟩ := pad_of hb2; clear hb2; simp [pad_size] at hm1))
          all_goals go_wp2_with fail
          all_goals go_roundw
          case rel => exact ⟨i + 1, by omega, by go_num, hc3, bt hX (by (repeat (first | (with_reducible exact Below.refl _ _) | (with_reducible assumption) | (with_reducible apply bd) | (with_reducible apply ba) | (with_reducible refine bp ?_ (by first | omega | (simp [pad_size]; done) | (simp [pad_size]; omega)) _ _) | (with_reducible refine bs ?_ (by first | omega | (simp [pad_size]; done) | (simp [pad_size]; omega)) _) | (with_reducible refine bt ?_ (by assumption))))), bt hXW (by (repeat (first | (with_reducible exact Below.refl _ _) | (with_reducible assumption) | (with_reducible apply bd) | (with_reducible apply ba) | (with_reducible refine bp ?_ (by first | omega | (simp [pad_size]; done) | (simp [pad_size]; omega)) _ _) | (with_reducible refine bs ?_ (by first | omega | (simp [pad_size]; done) | (simp [pad_size]; omega)) _) | (with_reducible refine bt ?_ (by assumption)))))⟩
          case measure => (simp [intOf]; omega)
      · have hn2 : (x.n != y.n) = true := by simp [hn]
        have hr : Hid (K = false) := by unfold Hid; rw [hf.out, hc2.out, hpd.out]; simp [hn]
        clear hpd hc2 hf hC hkp
        go_upto_region 6 with fail
        go_region
        all_goals go_wp2
        all_goals go_ret
        all_goals rw [hr.out]
        all_goals exact ⟨by simp, bt hXW (by (repeat (first | (with_reducible exact Below.refl _ _) | (with_reducible assumption) | (with_reducible apply bd) | (with_reducible apply ba) | (with_reducible refine bp ?_ (by first | omega | (simp [pad_size]; done) | (simp [pad_size]; omega)) _ _) | (with_reducible refine bs ?_ (by first | omega | (simp [pad_size]; done) | (simp [pad_size]; omega)) _) | (with_reducible refine bt ?_ (by assumption)))))⟩
    · obtain rfl : i = pl.length := by omega
      have hr : Hid (K = true) := by unfold Hid; rw [hf.out, hc.out, List.drop_length, List.drop_of_length_le (by have := hll2.out; omega)]; rfl
      clear hc
      go_wp2
      go_ret
      rw [hr.out]
      exact ⟨rfl, hXW⟩
end Go.Proofs.Ytjhjgncnadhbhaa

/- pool: records, keys, what a store holds: plain facts. -/
namespace Go.Proofs.Ytjhjgncnadhbhaa
open Go.RowKit

/-- A validator but for its number. -/
structure Vd where
  ow : Int
  rt : Int
  jl : Bool
  t0 : Int
  t1 : Int
  t2 : Int
  t3 : Int
  s0 : Int
  s1 : Int
  s2 : Int
  s3 : Int
  ix : List Cn
  er : List Cn
/-- A delegation. -/
structure Dg where
  ow : Nat
  va : Nat
  s0 : Int
  s1 : Int
  s2 : Int
  s3 : Int
  ix : List Cn
def coB (l : List Cn) : List Int := (l.length : Int) :: layL l
/-- Their bytes. -/
def vB (v : Vd) : List Int := [v.ow] ++ be v.rt 2 ++ [flI v.jl] ++ layN (val v.t0 v.t1 v.t2 v.t3) ++ layN (val v.s0 v.s1 v.s2 v.s3) ++ coB v.ix ++ coB v.er
def dB (d : Dg) : List Int := layN (val d.s0 d.s1 d.s2 d.s3) ++ coB d.ix
structure VOk (v : Vd) : Prop where
  ow : 0 ≤ v.ow ∧ v.ow < 200
  rt : 0 ≤ v.rt ∧ v.rt ≤ 10000
  t : Lim v.t0 v.t1 v.t2 v.t3
  s : Lim v.s0 v.s1 v.s2 v.s3
  iw : ∀ x ∈ v.ix, CnWf x
  ir : rightFrom 0 v.ix = true
  ew : ∀ x ∈ v.er, CnWf x
  er : rightFrom 0 v.er = true
structure DOk (n : Nat) (d : Dg) : Prop where
  ow : d.ow < 200
  va : d.va < n
  s : Lim d.s0 d.s1 d.s2 d.s3
  nz : eq4 d.s0 d.s1 d.s2 d.s3 0 0 0 0 = false
  iw : ∀ x ∈ d.ix, CnWf x
  ir : rightFrom 0 d.ix = true
theorem right_len {l : List Cn} (h : rightFrom 0 l = true) : l.length ≤ 8 := by
  rw [← right_lst h]; exact lst_len _ 8
/-! What was laid is read. -/
theorem rd_be2 {n : Int} (h0 : 0 ≤ n) (h1 : n < 65536) : rd (be n 2) = n := by
  simp only [be, rd, List.foldl, Int.pow_zero, Int.pow_succ, Int.ediv_one, Int.one_mul]
  omega
theorem numS_be2 {n : Int} (h0 : 0 ≤ n) (h1 : n < 65536) (r : List Int) : numS (some (be n 2 ++ r)) 2 = (n, some r) := by
  have h := takeS_app (be n 2) r
  rw [be_len] at h
  unfold numS; rw [h, rd_be2 h0 h1]
theorem flagS_app2 (b : Bool) (r : List Int) : flagS (some (flI b :: r)) = (b, some r) := by
  unfold flagS; rw [byteS_app]; cases b <;> simp [flI]
theorem coinsS_app2 {L : List Cn} (h : ∀ x ∈ L, CnWf x) (hr : rightFrom 0 L = true) (r : List Int) : coinsS (some (coB L ++ r)) = (L, some r) := by
  unfold coinsS coB
  rw [List.cons_append, byteS_app]
  simp only [Int.toNat_natCast]
  rw [cl_app L [] r h]
  simp [hr]
theorem endS_nil : endS (some []) = true := rfl
theorem coB_len {l : List Cn} (h : rightFrom 0 l = true) : (coB l).length ≤ 273 := by
  have h1 := right_len h
  have h2 := layL_len l
  simp only [coB, List.length_cons]; omega
theorem vB_len {v : Vd} (h : VOk v) : (vB v).length ≤ 1000 := by
  have h1 := coB_len h.ir
  have h2 := coB_len h.er
  have h3 := layN_len (val v.t0 v.t1 v.t2 v.t3)
  have h4 := layN_len (val v.s0 v.s1 v.s2 v.s3)
  simp only [vB, List.length_append, List.length_cons, List.length_nil, be_len]; omega
theorem dB_len {n : Nat} {d : Dg} (h : DOk n d) : (dB d).length ≤ 1000 := by
  have h1 := coB_len h.ir
  have h3 := layN_len (val d.s0 d.s1 d.s2 d.s3)
  simp only [dB, List.length_append]; omega
theorem vB_ne (v : Vd) : vB v ≠ [] := by simp [vB]
theorem dB_ne (d : Dg) : dB d ≠ [] := by simp [dB, layN]
theorem byte_layN (n : Int) : Byte (layN n) := by
  have h1 := byL_good n 32
  have h2 := byL_len n 32
  intro x hx
  simp only [layN, List.mem_cons] at hx
  rcases hx with rfl | hx
  · omega
  · exact h1.1 x hx
theorem byte_layL : ∀ {l : List Cn}, (∀ x ∈ l, CnWf x) → Byte (layL l)
  | [], _ => by simp [layL, Byte]
  | c :: l, h => by
    rw [layL_cons]
    refine byte_app ?_ (byte_layL (fun x hx => h x (by simp [hx])))
    intro x hx
    simp only [layC, List.mem_cons] at hx
    rcases hx with rfl | hx
    · exact (h c (by simp)).1
    · exact byte_layN _ x hx
theorem byte_coB {l : List Cn} (h : ∀ x ∈ l, CnWf x) (hr : rightFrom 0 l = true) : Byte (coB l) := by
  have h1 := right_len hr
  intro x hx
  simp only [coB, List.mem_cons] at hx
  rcases hx with rfl | hx
  · omega
  · exact byte_layL h x hx
theorem byte_be (n : Int) : ∀ k, Byte (be n k)
  | 0 => by simp [be, Byte]
  | k + 1 => by
    intro x hx
    simp only [be, List.mem_cons] at hx
    rcases hx with rfl | hx
    · omega
    · exact byte_be n k x hx
theorem byte_vB {v : Vd} (h : VOk v) : Byte (vB v) := by
  have := h.ow
  unfold vB
  refine byte_app (byte_app (byte_app (byte_app (byte_app (byte_app (byte_one (by omega)) (byte_be _ _)) (byte_one (by cases v.jl <;> simp [flI]))) (byte_layN _)) (byte_layN _)) (byte_coB h.iw h.ir)) (byte_coB h.ew h.er)
theorem byte_dB {n : Nat} {d : Dg} (h : DOk n d) : Byte (dB d) := byte_app (byte_layN _) (byte_coB h.iw h.ir)
/-! Keys. -/
def poolB : List Int := [112, 111, 111, 108, 46]
def valP : List Int := [112, 111, 111, 108, 46, 118, 97, 108, 46]
def hasP : List Int := [112, 111, 111, 108, 46, 104, 97, 115, 46]
def kv (i : Nat) : List Int := valP ++ [(i : Int)]
def kd (a b : Nat) : List Int := hasP ++ [(a : Int), (b : Int)]
theorem kv_inj {i j : Nat} : kv i = kv j ↔ i = j := by simp only [kv, valP, List.cons_append, List.nil_append, List.cons.injEq]; constructor <;> intro h <;> simp at h ⊢ <;> omega
theorem kd_inj {a b c e : Nat} : kd a b = kd c e ↔ a = c ∧ b = e := by simp only [kd, hasP, List.cons_append, List.nil_append, List.cons.injEq]; constructor <;> intro h <;> simp at h ⊢ <;> omega
theorem kv_kd (i a b : Nat) : kv i ≠ kd a b := by intro h; have := congrArg List.length h; simp [kv, kd, valP, hasP] at this
theorem byte_kv {i : Nat} (h : i ≤ 255) : Byte (kv i) := byte_app (by unfold Byte valP; decide) (byte_one (by omega))
theorem byte_kd {a b : Nat} (h : a ≤ 255) (k : b ≤ 255) : Byte (kd a b) := byte_app (by unfold Byte hasP; decide) (by intro x hx; simp at hx; omega)
theorem kv_len (i : Nat) : (kv i).length = 10 := by simp [kv, valP]
theorem kd_len (a b : Nat) : (kd a b).length = 11 := by simp [kd, hasP]
theorem begs_kv (i : Nat) : begs (kv i) poolB = true := by simp [begs, kv, valP, poolB]
theorem begs_kd (a b : Nat) : begs (kd a b) poolB = true := by simp [begs, kd, hasP, poolB]
theorem begs_kv2 (i : Nat) (r : List Int) : begs (kv i) (hasP ++ r) = false := by
  simp only [begs, kv, valP, hasP, List.cons_append, List.nil_append, List.length_cons, List.length_nil, Bool.and_eq_false_iff, decide_eq_false_iff_not]
  right
  simp
theorem begs_kd0 (a b : Nat) : begs (kd a b) hasP = true := by simp [begs, kd, hasP]
theorem begs_kd1 (a b c : Nat) : begs (kd a b) (hasP ++ [(c : Int)]) = decide (a = c) := by
  by_cases h : a = c
  · subst h; simp [begs, kd, hasP]
  · have h' : ¬ (a : Int) = (c : Int) := by omega
    simp [begs, kd, hasP, h, h']
theorem begs_pool (k r : List Int) (h : begs k (hasP ++ r) = true) : begs k poolB = true := by
  simp only [begs, Bool.and_eq_true, decide_eq_true_eq] at h ⊢
  obtain ⟨h1, h2⟩ := h
  have e : hasP ++ r = poolB ++ ([104, 97, 115, 46] ++ r) := by simp [hasP, poolB]
  rw [e] at h1 h2
  have h3 := congrArg (List.take 5) h2
  have e5 : poolB.length = 5 := rfl
  rw [List.take_take, List.take_append_of_le_length (by omega), List.take_of_length_le (l := poolB) (by omega), Nat.min_eq_left (by rw [List.length_append]; omega)] at h3
  rw [List.length_append] at h1
  exact ⟨by omega, by rw [e5]; exact h3⟩
/-- Which delegation comes first. -/
def ltK (a b c e : Nat) : Bool := decide (a < c) || (decide (a = c) && decide (b < e))
theorem ltK_iff {a b c e : Nat} : ltK a b c e = true ↔ a < c ∨ a = c ∧ b < e := by simp [ltK]
theorem kd_lt {a b c e : Nat} (h : ltK a b c e = true) : cmpB (kd a b) (kd c e) < 0 := by
  unfold kd
  rw [cmp_pre]
  rcases ltK_iff.1 h with h | ⟨rfl, h⟩
  · have : (a : Int) < (c : Int) := by omega
    simp [cmpB, this]
  · have : (b : Int) < (e : Int) := by omega
    simp [cmpB, this]
def DSrt (D : List Dg) : Prop := D.Pairwise fun x y => ltK x.ow x.va y.ow y.va = true
/-- What a store holds where each place is its own: other layers' keys begin otherwise. -/
structure PoL (L : List (List Int × List Int)) (V : List Vd) (D : List Dg) : Prop where
  srt : SrtC L
  vlen : V.length ≤ 16
  vok : ∀ v ∈ V, VOk v
  dok : ∀ d ∈ D, DOk V.length d
  dsrt : DSrt D
  mem : ∀ x, begs x.1 poolB = true → (x ∈ L ↔ (∃ i v, V[i]? = some v ∧ x = (kv i, vB v)) ∨ ∃ d ∈ D, x = (kd d.ow d.va, dB d))
theorem PoL.new : PoL [] [] [] := ⟨List.Pairwise.nil, by simp, by simp, by simp, List.Pairwise.nil, fun x _ => by simp⟩
section
variable {L : List (List Int × List Int)} {V : List Vd} {D : List Dg}
theorem PoL.getV_yes (h : PoL L V D) {i : Nat} {v : Vd} (hi : V[i]? = some v) : getS L (kv i) = some (vB v) := get_of h.srt ((h.mem (kv i, vB v) (begs_kv i)).2 (.inl ⟨i, v, hi, rfl⟩))
theorem PoL.getV_no (h : PoL L V D) {i : Nat} (hi : V.length ≤ i) : getS L (kv i) = none := by
  cases hg : getS L (kv i) with
  | none => rfl
  | some q =>
    exfalso
    rcases (h.mem (kv i, q) (begs_kv i)).1 (get_mem hg) with ⟨j, v, hj, he⟩ | ⟨d, -, he⟩
    · injection he with h1 h2
      obtain rfl := kv_inj.1 h1
      have := (List.getElem?_eq_some_iff.1 hj).1
      omega
    · injection he with h1 h2
      exact kv_kd _ _ _ h1
theorem PoL.getD_yes (h : PoL L V D) {d : Dg} (hd : d ∈ D) : getS L (kd d.ow d.va) = some (dB d) := get_of h.srt ((h.mem (kd d.ow d.va, dB d) (begs_kd _ _)).2 (.inr ⟨d, hd, rfl⟩))
theorem PoL.getD_no (h : PoL L V D) {a b : Nat} (hn : ∀ d ∈ D, ¬ (d.ow = a ∧ d.va = b)) : getS L (kd a b) = none := by
  cases hg : getS L (kd a b) with
  | none => rfl
  | some q =>
    exfalso
    rcases (h.mem (kd a b, q) (begs_kd a b)).1 (get_mem hg) with ⟨j, v, hj, he⟩ | ⟨d, hd, he⟩
    · injection he with h1 h2
      exact kv_kd _ _ _ h1.symm
    · injection he with h1 h2
      obtain ⟨rfl, rfl⟩ := kd_inj.1 h1
      exact hn d hd ⟨rfl, rfl⟩
/-- Nothing of other layers has changed. -/
def Oth (p : List Int) (L L' : List (List Int × List Int)) : Prop := ∀ x, begs x.1 p = false → (x ∈ L' ↔ x ∈ L)
theorem Oth.rfl' (p : List Int) (L : List (List Int × List Int)) : Oth p L L := fun _ _ => Iff.rfl
theorem Oth.put {p k v : List Int} (h : begs k p = true) : Oth p L (putS L k v) := fun x hx => by
  have hne : x.1 ≠ k := fun e => by rw [e, h] at hx; cases hx
  rw [mem_put]
  constructor
  · rintro (rfl | ⟨-, h⟩)
    · exact absurd rfl hne
    · exact h
  · exact fun h => .inr ⟨hne, h⟩
theorem Oth.drop {p k : List Int} (h : begs k p = true) : Oth p L (dropS L k) := fun x hx => by
  have hne : x.1 ≠ k := fun e => by rw [e, h] at hx; cases hx
  rw [mem_drop]
  exact ⟨fun h => h.2, fun h => ⟨hne, h⟩⟩
theorem PoL.putV (h : PoL L V D) {i : Nat} {v : Vd} {V' : List Vd} (hv : VOk v) (hV : ∀ j, V'[j]? = if j = i then some v else V[j]?) (hl : V'.length ≤ 16) (hle : V.length ≤ V'.length) : PoL (putS L (kv i) (vB v)) V' D := by
  refine ⟨srt_putS h.srt _ _, hl, fun w hw => ?_, fun d hd => ?_, h.dsrt, fun x hx => ?_⟩
  · obtain ⟨j, hj⟩ := List.mem_iff_getElem?.1 hw
    rw [hV] at hj
    split at hj
    · injection hj with hj; subst hj; exact hv
    · exact h.vok w (List.mem_of_getElem? hj)
  · have := h.dok d hd
    exact { this with va := Nat.lt_of_lt_of_le this.va hle }
  · rw [mem_put, h.mem x hx]
    constructor
    · rintro (rfl | ⟨hne, ⟨j, w, hj, rfl⟩ | ⟨d, hd, rfl⟩⟩)
      · exact .inl ⟨i, v, by rw [hV, if_pos rfl], rfl⟩
      · refine .inl ⟨j, w, ?_, rfl⟩
        rw [hV, if_neg (fun e => hne (kv_inj.2 e))]; exact hj
      · exact .inr ⟨d, hd, rfl⟩
    · rintro (⟨j, w, hj, rfl⟩ | ⟨d, hd, rfl⟩)
      · rw [hV] at hj
        split at hj
        · injection hj with hj; subst hj; rename_i hji; subst hji; exact .inl rfl
        · rename_i hji
          exact .inr ⟨fun e => hji (kv_inj.1 e), .inl ⟨j, w, hj, rfl⟩⟩
      · exact .inr ⟨fun e => kv_kd _ _ _ e.symm, .inr ⟨d, hd, rfl⟩⟩
theorem PoL.keys (h : PoL L V D) : keysS L hasP = D.map (fun d => kd d.ow d.va) := by
  refine srt_ext _ _ (keysS_srt h.srt _) ?_ fun x => ?_
  · rw [List.pairwise_map]; exact h.dsrt.imp kd_lt
  · unfold keysS
    rw [List.mem_map, List.mem_map]
    constructor
    · rintro ⟨y, hy, rfl⟩
      obtain ⟨h1, h2⟩ := List.mem_filter.1 hy
      have h3 := begs_pool y.1 [] (by rw [List.append_nil]; exact h2)
      rcases (h.mem y h3).1 h1 with ⟨i, v, -, rfl⟩ | ⟨d, hd, rfl⟩
      · have := begs_kv2 i []; rw [List.append_nil] at this; simp only at h2; rw [this] at h2; cases h2
      · exact ⟨d, hd, rfl⟩
    · rintro ⟨d, hd, rfl⟩
      exact ⟨(kd d.ow d.va, dB d), List.mem_filter.2 ⟨(h.mem _ (begs_kd _ _)).2 (.inr ⟨d, hd, rfl⟩), begs_kd0 _ _⟩, rfl⟩
theorem PoL.keys1 (h : PoL L V D) (o : Nat) : keysS L (hasP ++ [(o : Int)]) = (D.filter (fun d => decide (d.ow = o))).map (fun d => kd d.ow d.va) := by
  refine srt_ext _ _ (keysS_srt h.srt _) ?_ fun x => ?_
  · rw [List.pairwise_map]; exact (h.dsrt.sublist List.filter_sublist).imp kd_lt
  · unfold keysS
    rw [List.mem_map, List.mem_map]
    constructor
    · rintro ⟨y, hy, rfl⟩
      obtain ⟨h1, h2⟩ := List.mem_filter.1 hy
      have h3 := begs_pool y.1 [(o : Int)] h2
      rcases (h.mem y h3).1 h1 with ⟨i, v, -, rfl⟩ | ⟨d, hd, rfl⟩
      · have := begs_kv2 i [(o : Int)]; simp only at h2; rw [this] at h2; cases h2
      · simp only at h2
        rw [begs_kd1] at h2
        exact ⟨d, List.mem_filter.2 ⟨hd, h2⟩, rfl⟩
    · rintro ⟨d, hd, rfl⟩
      obtain ⟨h1, h2⟩ := List.mem_filter.1 hd
      exact ⟨(kd d.ow d.va, dB d), List.mem_filter.2 ⟨(h.mem _ (begs_kd _ _)).2 (.inr ⟨d, h1, rfl⟩), by simp only; rw [begs_kd1]; exact h2⟩, rfl⟩
theorem PoL.dlen (h : PoL L V D) : D.length ≤ L.length := by
  have e : D.length = (keysS L hasP).length := by rw [h.keys, List.length_map]
  rw [e]
  unfold keysS
  rw [List.length_map]
  exact List.length_filter_le _ _
/-! Delegations that come and go. -/
def putD (D : List Dg) (d : Dg) : List Dg := D.filter (fun x => ltK x.ow x.va d.ow d.va) ++ d :: D.filter (fun x => ltK d.ow d.va x.ow x.va)
def dropD (D : List Dg) (a b : Nat) : List Dg := D.filter (fun x => !(decide (x.ow = a) && decide (x.va = b)))
theorem ltK_tri (a b c e : Nat) : ltK a b c e = true ∨ (a = c ∧ b = e) ∨ ltK c e a b = true := by simp only [ltK_iff]; omega
theorem ltK_not {a b c e : Nat} (h : ltK a b c e = true) : ¬ (a = c ∧ b = e) := by rw [ltK_iff] at h; omega
theorem mem_putD {d x : Dg} : x ∈ putD D d ↔ x = d ∨ (¬ (x.ow = d.ow ∧ x.va = d.va) ∧ x ∈ D) := by
  unfold putD
  rw [List.mem_append, List.mem_cons, List.mem_filter, List.mem_filter]
  constructor
  · rintro (⟨h1, h2⟩ | h | ⟨h1, h2⟩)
    · exact .inr ⟨ltK_not h2, h1⟩
    · exact .inl h
    · exact .inr ⟨fun e => ltK_not h2 ⟨e.1.symm, e.2.symm⟩, h1⟩
  · rintro (h | ⟨h1, h2⟩)
    · exact .inr (.inl h)
    · rcases ltK_tri x.ow x.va d.ow d.va with h | h | h
      · exact .inl ⟨h2, h⟩
      · exact absurd h h1
      · exact .inr (.inr ⟨h2, h⟩)
theorem mem_dropD {a b : Nat} {x : Dg} : x ∈ dropD D a b ↔ ¬ (x.ow = a ∧ x.va = b) ∧ x ∈ D := by
  unfold dropD
  rw [List.mem_filter]
  simp only [Bool.not_eq_true', Bool.and_eq_false_iff, decide_eq_false_iff_not]
  constructor
  · rintro ⟨h1, h2⟩; exact ⟨by omega, h1⟩
  · rintro ⟨h1, h2⟩; exact ⟨h2, by omega⟩
theorem ltK_trans {a b c e f g : Nat} (h : ltK a b c e = true) (k : ltK c e f g = true) : ltK a b f g = true := by rw [ltK_iff] at *; omega
theorem srt_putD (h : DSrt D) (d : Dg) : DSrt (putD D d) := by
  unfold DSrt putD
  rw [List.pairwise_append]
  refine ⟨h.sublist List.filter_sublist, ?_, fun x hx y hy => ?_⟩
  · rw [List.pairwise_cons]
    exact ⟨fun x hx => (List.mem_filter.1 hx).2, h.sublist List.filter_sublist⟩
  · have hx2 : ltK x.ow x.va d.ow d.va = true := (List.mem_filter.1 hx).2
    rcases List.mem_cons.1 hy with rfl | hy
    · exact hx2
    · exact ltK_trans hx2 (List.mem_filter.1 hy).2
theorem PoL.putD (h : PoL L V D) {d : Dg} (hd : DOk V.length d) : PoL (putS L (kd d.ow d.va) (dB d)) V (putD D d) := by
  refine ⟨srt_putS h.srt _ _, h.vlen, h.vok, fun x hx => ?_, srt_putD h.dsrt d, fun x hx => ?_⟩
  · rcases mem_putD.1 hx with rfl | ⟨-, hx⟩
    · exact hd
    · exact h.dok x hx
  · rw [mem_put, h.mem x hx]
    constructor
    · rintro (rfl | ⟨hne, ⟨j, w, hj, rfl⟩ | ⟨y, hy, rfl⟩⟩)
      · exact .inr ⟨d, mem_putD.2 (.inl rfl), rfl⟩
      · exact .inl ⟨j, w, hj, rfl⟩
      · exact .inr ⟨y, mem_putD.2 (.inr ⟨fun e => hne (kd_inj.2 e), hy⟩), rfl⟩
    · rintro (⟨j, w, hj, rfl⟩ | ⟨y, hy, rfl⟩)
      · exact .inr ⟨kv_kd _ _ _, .inl ⟨j, w, hj, rfl⟩⟩
      · rcases mem_putD.1 hy with rfl | ⟨h1, hy⟩
        · exact .inl rfl
        · exact .inr ⟨fun e => h1 (kd_inj.1 e), .inr ⟨y, hy, rfl⟩⟩
theorem PoL.dropD (h : PoL L V D) (a b : Nat) : PoL (dropS L (kd a b)) V (dropD D a b) := by
  refine ⟨srt_dropS h.srt _, h.vlen, h.vok, fun x hx => h.dok x (mem_dropD.1 hx).2, h.dsrt.sublist List.filter_sublist, fun x hx => ?_⟩
  rw [mem_drop, h.mem x hx]
  constructor
  · rintro ⟨hne, ⟨j, w, hj, rfl⟩ | ⟨y, hy, rfl⟩⟩
    · exact .inl ⟨j, w, hj, rfl⟩
    · exact .inr ⟨y, mem_dropD.2 ⟨fun e => hne (kd_inj.2 e), hy⟩, rfl⟩
  · rintro (⟨j, w, hj, rfl⟩ | ⟨y, hy, rfl⟩)
    · exact ⟨kv_kd _ _ _, .inl ⟨j, w, hj, rfl⟩⟩
    · obtain ⟨h1, hy⟩ := mem_dropD.1 hy
      exact ⟨fun e => h1 (kd_inj.1 e), .inr ⟨y, hy, rfl⟩⟩
end
/-- The reference's walk over its delegations (each with what its coins lie in). -/
def setGo {α : Type} (f : α → Dg) (d : α) : Bool → List α → List α
  | D, [] => if D then [] else [d]
  | D, x :: r =>
    if D = false ∧ ltK (f d).ow (f d).va (f x).ow (f x).va = true then d :: x :: setGo f d true r
    else if (f x).ow = (f d).ow ∧ (f x).va = (f d).va then setGo f d D r else x :: setGo f d D r
theorem setGo_true {α : Type} (f : α → Dg) (d : α) : ∀ M : List α, (setGo f d true M).map f = dropD (M.map f) (f d).ow (f d).va
  | [] => rfl
  | x :: r => by
    have ih := setGo_true f d r
    unfold setGo dropD
    rw [if_neg (by simp), List.map_cons]
    by_cases h : (f x).ow = (f d).ow ∧ (f x).va = (f d).va
    · rw [if_pos h, List.filter_cons_of_neg (by simp [h])]
      exact ih
    · rw [if_neg h, List.filter_cons_of_pos (by simp; omega), List.map_cons, ih]
      rfl
theorem dropD_gt {D : List Dg} {a b : Nat} (h : ∀ x ∈ D, ltK a b x.ow x.va = true) : dropD D a b = D := by
  unfold dropD
  rw [List.filter_eq_self]
  intro x hx
  have := ltK_not (h x hx)
  simp; omega
theorem setGo_false {α : Type} (f : α → Dg) (d : α) : ∀ M : List α, DSrt (M.map f) → (setGo f d false M).map f = putD (M.map f) (f d)
  | [], _ => rfl
  | x :: r, hs => by
    rw [List.map_cons] at hs
    obtain ⟨h1, h2⟩ := List.pairwise_cons.1 hs
    have ih := setGo_false f d r h2
    unfold setGo
    by_cases hlt : ltK (f d).ow (f d).va (f x).ow (f x).va = true
    · rw [if_pos ⟨rfl, hlt⟩, List.map_cons, List.map_cons, setGo_true]
      have hg : ∀ y ∈ r.map f, ltK (f d).ow (f d).va y.ow y.va = true := fun y hy => ltK_trans hlt (h1 y hy)
      rw [dropD_gt hg]
      unfold putD
      have e : (r.map f).filter (fun x => ltK x.ow x.va (f d).ow (f d).va) = [] := by
        rw [List.filter_eq_nil_iff]
        intro y hy hc
        have := hg y hy
        rw [ltK_iff] at this hc
        omega
      have e2 : (r.map f).filter (fun x => ltK (f d).ow (f d).va x.ow x.va) = r.map f := List.filter_eq_self.2 hg
      rw [List.map_cons, List.filter_cons_of_neg, List.filter_cons_of_pos (by exact hlt), e, e2]
      · rfl
      · intro hc
        rw [ltK_iff] at hc hlt
        omega
    · rw [if_neg (by simp [hlt])]
      by_cases he : (f x).ow = (f d).ow ∧ (f x).va = (f d).va
      · rw [if_pos he, ih]
        unfold putD
        rw [List.map_cons, List.filter_cons_of_neg, List.filter_cons_of_neg (by simpa using hlt)]
        rw [ltK_iff]; omega
      · rw [if_neg he, List.map_cons, ih]
        unfold putD
        have hx : ltK (f x).ow (f x).va (f d).ow (f d).va = true := by
          rcases ltK_tri (f x).ow (f x).va (f d).ow (f d).va with h | h | h
          · exact h
          · exact absurd h he
          · exact absurd h hlt
        rw [List.map_cons, List.filter_cons_of_pos (by exact hx), List.filter_cons_of_neg (by simpa using hlt)]
        rfl
theorem setGo_mem {α : Type} {f : α → Dg} {d x : α} : ∀ {M : List α} {D : Bool}, x ∈ setGo f d D M → x = d ∨ x ∈ M
  | [], D, h => by
    unfold setGo at h
    split at h
    · simp at h
    · simp at h; exact .inl h
  | y :: r, D, h => by
    unfold setGo at h
    split at h
    · rcases List.mem_cons.1 h with h | h
      · exact .inl h
      · rcases List.mem_cons.1 h with h | h
        · exact .inr (by simp [h])
        · rcases setGo_mem h with h | h
          · exact .inl h
          · exact .inr (by simp [h])
    · split at h
      · rcases setGo_mem h with h | h
        · exact .inl h
        · exact .inr (by simp [h])
      · rcases List.mem_cons.1 h with h | h
        · exact .inr (by simp [h])
        · rcases setGo_mem h with h | h
          · exact .inl h
          · exact .inr (by simp [h])
theorem setGo_len {α : Type} {f : α → Dg} {d : α} : ∀ {M : List α} {D : Bool}, (setGo f d D M).length ≤ M.length + 1
  | [], D => by unfold setGo; split <;> simp
  | y :: r, D => by
    unfold setGo
    split
    · have e : ∀ r : List α, (setGo f d true r).length ≤ r.length := fun r => by
        have h1 := congrArg List.length (setGo_true f d r)
        have h2 := List.length_filter_le (fun x : Dg => !(decide (x.ow = (f d).ow) && decide (x.va = (f d).va))) (r.map f)
        rw [List.length_map] at h1 h2
        rw [h1]
        exact h2
      have := e r
      simp; omega
    · have := setGo_len (f := f) (d := d) (M := r) (D := D)
      split <;> simp <;> omega
end Go.Proofs.Ytjhjgncnadhbhaa

/- pool: keys. -/
namespace Go.Proofs.Ytjhjgncnadhbhaa
open Go.RowKit

theorem cv_lit (w : World) (C : Array Value) (n c : Nat) : (convert 42 42 (.slice (some ⟨w.heap.size, 0, none⟩) n c)).run Try.prog (w.alloc (.cells C 5)) = .ok (.slice (some ⟨w.heap.size, 0, none⟩) n c) (w.alloc (.cells C 5 (C.size, C.size + 1))) :=
  Lib.run_convert_bytes_const w 42 5 C n c Try.underlying42 Try.underlying5
/-- Cells behind a row that is full: a new row. -/
theorem wpList_append_full {P : Program} {w : World} {ops : Array Oper} {rest : List Oper} {o : Oper} {a : Act} {Q : Exit → Act → World → Prop} (hgd : o.guard = none) (s x : Operand) (t : TypeId)
    (ho : o.op = .call { callee := .builtin .append, args := #[s, x], argTypes := #[t, t] })
    (e : TypeId) (i : TypeInfo) (ht : P.underlying t = some (.slice e)) (hi : P.info? e = some i) (hz : i.zero = some (.int .u8 0)) (hsz : i.size = 1) (hby : i.bytes = 1)
    (g n : Nat) (cur : Array Value) (hs : a.eval s = .slice (some ⟨g, 0, none⟩) n n) (hg : w.heap[g]? = some (.cells cur e (cur.size, cur.size + 1))) (hcs : cur.size = n) (hm : n < 1000) (y : Nat) (us : List Value) (hu0 : us ≠ []) (hul : us.length < 100) (hx : a.eval x = .slice (some ⟨y, 0, none⟩) us.length us.length) (ha : ∀ j u, us[j]? = some u → w.cell? ⟨y, j, none⟩ = some u)
    (h : ∀ cap' w', w.heap.size < w'.heap.size → (∀ j v, (cur.toList ++ us)[j]? = some v → w'.cell? ⟨w.heap.size, j, none⟩ = some v) → w.grownBy w' none → wpList P ops Q rest (a.put o.dst (.slice (some ⟨w.heap.size, 0, none⟩) (n + us.length) cap')) w') : wpList P ops Q (o :: rest) a w :=
  wpList_plain hgd fun _ hK => by
    have hpos : 0 < us.length := List.length_pos_iff.2 hu0
    have hold : ∀ j v, cur.toList[j]? = some v → w.cell? ((⟨g, 0, none⟩ : Addr).add j) = some v := fun j v hj => by
      rw [add_cell, Nat.zero_add, cell_of_row w g j cur e _ hg]
      simpa using hj
    have hnews : ∀ j v, us[j]? = some v → w.cell? ((⟨y, 0, none⟩ : Addr).add j) = some v := fun j v hj => by
      rw [add_cell, Nat.zero_add]; exact ha j v hj
    have hr := run_append_grow (P := P) w t o.type e i _ ht hi hz ⟨g, 0, none⟩ n n cur.toList (by simp [hsz, hcs]) hold ⟨y, 0, none⟩ us.length us.length us (by simp [hsz]) hnews (by omega) (by omega) (growslice_fits (by omega) (by rw [hby]; omega))
    unfold Oper.wp execOp
    simp only [ho, resolve, invoke, builtin, Sem.run_bind, Sem.run_pure, Result.andThen_ok, List.map_toArray, List.map_cons, List.map_nil, hs, hx, hr]
    refine hK _ _ (h _ _ (by simp) (fun j v hj => ?_) ⟨rfl, rfl, rfl, by simp, fun k hk _ => heap_alloc_old w.drew _ hk⟩)
    rw [cell_of_row _ w.heap.size j _ e _ (heap_alloc_new w.drew _)]
    rw [Array.getElem?_append_left (by
      have := (List.getElem?_eq_some_iff.1 hj).1
      simpa using this)]
    simpa [Array.getElem?_append, List.getElem?_append] using hj
theorem grow_end {w W W' : World} (h : Below w.heap.size w W) (k : W.grownBy W' none) : Below w.heap.size w W' := h.grown k h.size (fun _ hk => by cases hk)
def encV (q : List Int) : Array Value := (encB q).toArray
theorem encV_size (q : List Int) : (encV q).size = q.length := by simp [encV, encB]
theorem src_at {X : World} {g n cap : Nat} {p q : List Int} (hn : n = (p ++ q).length) (h : ∀ j v, (encB p ++ encB q)[j]? = some v → X.cell? ⟨g, j, none⟩ = some v) : Src X (.slice (some ⟨g, 0, none⟩) n cap) (p ++ q) := by
  refine .inr ⟨_, cap, by rw [hn], fun i x hi => ?_⟩
  rw [add_cell, Nat.zero_add]
  refine h i _ ?_
  have e : encB p ++ encB q = encB (p ++ q) := by simp [encB]
  rw [e]
  simp only [encB, List.getElem?_map, hi]
  rfl
end Go.Proofs.Ytjhjgncnadhbhaa

/- pool: a validator is laid. -/
namespace Go.Proofs.Ytjhjgncnadhbhaa
open Go.RowKit

/-- A list of coins that a writer doesn't own. -/
structure Far (W : World) (b : Nat) (v u : Value) (L : List Cn) : Prop where
  is : IsCoins W u L
  far : L ≠ [] → (∀ g, u.ownBlock = some g → g < W.heap.size) ∧ u.ownBlock ≠ some b ∧ (u.ownBlock = none ∨ u.ownBlock ≠ v.ownBlock)
theorem Far.step {W X : World} {b : Nat} {v v' u : Value} {L : List Cn} (h : Far W b v u L) (hF : WF W X b v v') : Far X b v' u L := by
  by_cases hL : L = []
  · refine ⟨?_, fun h => absurd hL h⟩
    rcases h.is with h | ⟨_, _, _, _, hne, _⟩
    · exact .inl h
    · exact absurd hL hne
  · obtain ⟨h1, h2, h3⟩ := h.far hL
    have hh := coins_wf h.is h1 h2 h3 hF
    exact ⟨hh.1, fun _ => ⟨fun g hg => Nat.lt_of_lt_of_le (h1 g hg) hF.size, h2, hh.2⟩⟩
theorem Far.of {W X : World} {b : Nat} {u : Value} {L : List Cn} (h : IsCoins W u L) (hb : W.heap.size ≤ b) (hX : Below W.heap.size W X) : Far X b (.slice none 0 0) u L := by
  refine ⟨h.below hX, fun hL => ?_⟩
  rcases h with ⟨e, -⟩ | ⟨blk, off, cap, rfl, -, -, hlt, -⟩
  · exact absurd e hL
  · refine ⟨fun g hg => ?_, fun e => ?_, .inr (by simp [Value.ownBlock])⟩
    · simp [Value.ownBlock] at hg; subst hg; exact Nat.lt_of_lt_of_le hlt hX.size
    · simp [Value.ownBlock] at e; omega
theorem wCoinsF {W : World} {b base : Nat} {v u : Value} {p : List Int} {L : List Cn} (hW : WrAt W b base v p) (hbase : base ≤ W.heap.size) (hwf : ∀ x ∈ L, CnWf x) (hr : rightFrom 0 L = true) (hl : p.length + 9000 ≤ 1048576) (hu : Far W b v u L) :
    Calls Try.prog 45 #[.pointer (some ⟨b, 0, none⟩), u] W fun e w' => e = .returned (.pointer (some ⟨b, 0, none⟩)) ∧ ∃ v', WrAt w' b base v' (p ++ coB L) ∧ WF W w' b v v' :=
  wCoinsI_any hW hbase hwf (by have := right_len hr; omega) hl hu.is (fun h => (hu.far h).2.1) (fun h => (hu.far h).2.2)
theorem wNumF {W : World} {b base : Nat} {v : Value} {p : List Int} (x0 x1 x2 x3 : Int) (hx : Lim x0 x1 x2 x3) (hW : WrAt W b base v p) (hbase : base ≤ W.heap.size) (hl : p.length + 33 ≤ 1048576) :
    Calls Try.prog 72 #[.pointer (some ⟨b, 0, none⟩), .agg #[.int .u64 x0, .int .u64 x1, .int .u64 x2, .int .u64 x3]] W fun e w' => e = .returned (.pointer (some ⟨b, 0, none⟩)) ∧ ∃ v', WrAt w' b base v' (p ++ layN (val x0 x1 x2 x3)) ∧ WF W w' b v v' := wNum_any x0 x1 x2 x3 hx hW hbase hl
end Go.Proofs.Ytjhjgncnadhbhaa

/- pool: a validator is read. -/
namespace Go.Proofs.Ytjhjgncnadhbhaa
open Go.RowKit

section
variable {W : World} {b : Nat} {D : Option Nat} {r : List Int}
theorem rdByte {x : Int} (hD : D ≠ some b) (h : RdAt W b D (some (x :: r))) :
    Calls Try.prog 49 #[.pointer (some ⟨b, 0, none⟩)] W fun e w' => e = .returned (.int .u8 x) ∧ RdAt w' b D (some r) ∧ W.grownBy w' (some b) := by
  have := rByte_any hD h
  rw [byteS_app] at this
  exact this
theorem rdNum {x0 x1 x2 x3 : Int} (hx : Lim x0 x1 x2 x3) (hD : D ≠ some b) (hDl : ∀ d, D = some d → d < W.heap.size) (h : RdAt W b D (some (layN (val x0 x1 x2 x3) ++ r))) :
    Calls Try.prog 75 #[.pointer (some ⟨b, 0, none⟩)] W fun e w' => e = .returned (.agg #[.int .u64 x0, .int .u64 x1, .int .u64 x2, .int .u64 x3]) ∧ RdAt w' b D (some r) ∧ W.grownBy w' (some b) := by
  have := rNum_any hD hDl h
  rw [nS_app (val_lo hx) (val_hi hx)] at this
  refine this.mono ?_
  rintro e w' ⟨z0, z1, z2, z3, rfl, hz, hv, h1, h2⟩
  obtain ⟨rfl, rfl, rfl, rfl⟩ := val_inj hz hx hv
  exact ⟨rfl, h1, h2⟩
theorem rdCoins {L : List Cn} (hw : ∀ x ∈ L, CnWf x) (hr : rightFrom 0 L = true) (hD : D ≠ some b) (hDl : ∀ d, D = some d → d < W.heap.size) (h : RdAt W b D (some (coB L ++ r))) :
    Calls Try.prog 50 #[.pointer (some ⟨b, 0, none⟩)] W fun e w' => ∃ a c, e = .returned (.slice a L.length c) ∧ w'.ownsRow W.heap.size 66 5 (.slice a L.length c) L.length (cellsL L) ∧ RdAt w' b D (some r) ∧ W.grownBy w' (some b) := by
  have := rCoins_any _ W b D hD hDl h
  rw [coinsS_app2 hw hr] at this
  refine this.mono ?_
  rintro e w' ⟨v, rfl, h1, h2, h3⟩
  obtain ⟨a, c, rfl⟩ := row_slice h1
  exact ⟨a, c, rfl, h1, h2, h3⟩
theorem dlt_of (hDl : ∀ d, D = some d → d < W.heap.size) {X : World} {q : Option Nat} (h : W.grownBy X q) : ∀ d, D = some d → d < X.heap.size := fun d hd => Nat.lt_of_lt_of_le (hDl d hd) h.size
end
theorem own_not {v : Value} {g : Nat} (h : v.ownBlock ≠ some g) : v.ownBlock = none ∨ v.ownBlock ≠ some g := .inr h
theorem vB_cons (v : Vd) : vB v = v.ow :: (be v.rt 2 ++ (flI v.jl :: (layN (val v.t0 v.t1 v.t2 v.t3) ++ (layN (val v.s0 v.s1 v.s2 v.s3) ++ (coB v.ix ++ (coB v.er ++ [])))))) := by simp [vB]
end Go.Proofs.Ytjhjgncnadhbhaa

/- plan: a plan is laid. -/
namespace Go.Proofs.Ytjhjgncnadhbhaa
open Go.RowKit

/-- A period's bytes; a plan's. -/
def qB (q : Pd) : List Int := be q.n 8 ++ coB q.l
def pB (x : Pn) : List Int := [x.k] ++ be x.s 8 ++ be x.e 8 ++ coB x.al ++ [(x.pl.length : Int)] ++ x.pl.flatMap qB
/-- Coins that lie below a writer. -/
theorem Far.low {W0 X : World} {b base : Nat} {v u : Value} {p : List Int} {L : List Cn} (h : IsCoins W0 u L) (hX : Below W0.heap.size W0 X) (hW : WrAt X b base v p) (hb : W0.heap.size ≤ b) (hbase : W0.heap.size ≤ base) : Far X b v u L := by
  refine ⟨h.below hX, fun hL => ?_⟩
  rcases h with ⟨e, -⟩ | ⟨blk, off, cap, rfl, -, -, hlt, -⟩
  · exact absurd e hL
  · refine ⟨fun g hg => ?_, fun e => ?_, .inr fun e => ?_⟩
    · simp [Value.ownBlock] at hg; subst hg; exact Nat.lt_of_lt_of_le hlt hX.size
    · simp [Value.ownBlock] at e; omega
    · have := (hW.2.lt blk (by rw [← e]; rfl)).1; omega
theorem coins_low {l : List Cn} (h : rightFrom 0 l = true) : l.length ≤ 8 := right_len h
/-- What of a plan laying it asks. -/
structure LayOk (x : Pn) : Prop where
  k : 0 ≤ x.k ∧ x.k ≤ 255
  s : 0 ≤ x.s ∧ x.s < 18446744073709551616
  e : 0 ≤ x.e ∧ x.e < 18446744073709551616
  aw : ∀ y ∈ x.al, CnWf y
  ar : rightFrom 0 x.al = true
  n : x.pl.length ≤ 16
  q : ∀ q ∈ x.pl, (0 ≤ q.n ∧ q.n < 18446744073709551616) ∧ (∀ y ∈ q.l, CnWf y) ∧ rightFrom 0 q.l = true
theorem layOk {x : Pn} (ho : PnOk x) (hr : PnR x) : LayOk x := by
  by_cases hk : x.k = 3 ∨ x.k = 5
  · have hs := steps_facts (hr.st hk)
    exact ⟨ho.w.k, ho.w.s, ho.w.e, ho.w.al, hr.al, hs.n16, fun q hq => ⟨(ho.p q hq).n, (ho.p q hq).l, some_right (hs.ok q hq).2⟩⟩
  · have hp := hr.np hk
    exact ⟨ho.w.k, ho.w.s, ho.w.e, ho.w.al, hr.al, by rw [hp]; simp, by rw [hp]; simp⟩
theorem qB_len {q : Pd} (h : rightFrom 0 q.l = true) : (qB q).length ≤ 281 := by
  have := coB_len h
  simp only [qB, List.length_append, be_len]; omega
theorem qsB_len : ∀ {l : List Pd}, (∀ q ∈ l, rightFrom 0 q.l = true) → (l.flatMap qB).length ≤ 281 * l.length
  | [], _ => by simp
  | q :: l, h => by
    have h1 := qB_len (h q (by simp))
    have h2 := qsB_len (l := l) (fun y hy => h y (by simp [hy]))
    rw [List.flatMap_cons, List.length_append, List.length_cons]; omega
theorem WF.low {W0 X Y : World} {b base : Nat} {v v' : Value} {p : List Int} (h : Below W0.heap.size W0 X) (hF : WF X Y b v v') (hW : WrAt X b base v p) (hb : W0.heap.size ≤ b) (hbase : W0.heap.size ≤ base) : Below W0.heap.size W0 Y := WF.below h hF hW hb hbase
set_option maxRecDepth 20000 in
set_option maxHeartbeats 16000000 in
theorem planLay_any {W0 W : World} {b base : Nat} {v : Value} {p : List Int} {x : Pn} (h : PnAt W0 x) (hx : LayOk x) (hW0 : Below W0.heap.size W0 W) (hb : W0.heap.size ≤ b) (hb0 : W0.heap.size ≤ base) (hW : WrAt W b base v p) (hbase : base ≤ W.heap.size) (hl : p.length + 20000 ≤ 1048576) :
    Calls Try.prog 17 #[.pointer (some ⟨b, 0, none⟩), pnV x] W fun e w' => e = .returned (.tuple #[]) ∧ ∃ v', WrAt w' b base v' (p ++ pB x) ∧ WF W w' b v v' := by
  obtain ⟨k, s, t, av, pv, al, pl⟩ := x
  obtain ⟨hk, hs, ht, aw, ar, hn, hq⟩ := hx
  obtain ⟨h1, h2⟩ := h
  simp only at hk hs ht aw ar hn hq h1 h2 ⊢
  obtain ⟨a1, c1, rfl⟩ := h1.slice
  obtain ⟨a2, c2, rfl⟩ := h2.slice
  have hI : Hid (IsCoins W0 (.slice a1 al.length c1) al) := h1.coins (by have := right_len ar; omega)
  have hP : Hid (IsPds W0 (.slice a2 pl.length c2) pl) := h2
  clear h1 h2
  have hq : Hid (∀ q ∈ pl, _) := hq
  show Calls Try.prog 17 #[.pointer (some ⟨b, 0, none⟩), .agg #[.int .u8 k, .int .u64 s, .int .u64 t, .slice a1 al.length c1, .slice a2 pl.length c2]] W _
  have hgA : W.grownBy (W.alloc (.cells #[.int .u8 k, .int .u64 s, .int .u64 t, .slice a1 al.length c1, .slice a2 pl.length c2] 33)).drew none := grown_dr (World.grownBy_alloc W _ none)
  have hWa := hW.kept hgA (by simp) (by cases v.ownBlock <;> simp)
  have hbk := hW.lt
  have hne : some W.heap.size ≠ v.ownBlock := fun e => by have := (hW.2.lt _ e.symm).2; omega
  have hnb : W.heap.size ≠ b := by omega
  have hA0 : (W.alloc (.cells #[.int .u8 k, .int .u64 s, .int .u64 t, .slice a1 al.length c1, .slice a2 pl.length c2] 33)).drew.heap[W.heap.size]? = some (.cells #[.int .u8 k, .int .u64 s, .int .u64 t, .slice a1 al.length c1, .slice a2 pl.length c2] 33 (0, 0)) := al_at rfl
  have hAs : (W.alloc (.cells #[.int .u8 k, .int .u64 s, .int .u64 t, .slice a1 al.length c1, .slice a2 pl.length c2] 33)).drew.heap.size = W.heap.size + 1 := by show (W.alloc _).heap.size = _; simp
  have hWA : Below W0.heap.size W0 (W.alloc (.cells #[.int .u8 k, .int .u64 s, .int .u64 t, .slice a1 al.length c1, .slice a2 pl.length c2] 33)).drew := bd (ba hW0 _)
  have hal := coB_len ar
  have hw8 : IntKind.u8.wrap (pl.length : Int) = (pl.length : Int) := by rw [IntKind.wrap_u8]; omega
  go_enter Try.func17, Try.ntmps17
  go_upto_region 1 with fail
  go_region_held2 (fun Y => Y.cell? ⟨W.heap.size, 0, none⟩ = some (.int .u8 k) ∧ Y.cell? ⟨W.heap.size, 1, none⟩ = some (.int .u64 s) ∧ Y.cell? ⟨W.heap.size, 2, none⟩ = some (.int .u64 t) ∧ Y.cell? ⟨W.heap.size, 3, none⟩ = some (.slice a1 al.length c1) ∧ Y.cell? ⟨W.heap.size, 4, none⟩ = some (.slice a2 pl.length c2)) (go_simp) (first
    | (go_at_call 44; with_reducible refine (wByte_any k hWa (Nat.le_trans hbase hgA.size) (by omega)).mono ?_; rintro e w1 ⟨rfl, v1, hW1, hF1⟩; have n1 := hF1.own_ne (n := W.heap.size) (by omega) hne; have q1 := (hF1.block W.heap.size (by omega) hnb hne).trans hA0; obtain ⟨e1, f1⟩ := cells_of_block q1; have z1 := hF1.size)
    | (go_at_call 16; with_reducible refine (wLong_any s hs hW1 (by omega) (by simp; omega)).mono ?_; rintro e w2 ⟨rfl, v2, hW2, hF2⟩; have n2 := hF2.own_ne (n := W.heap.size) (by omega) n1; have q2 := (hF2.block W.heap.size (by omega) hnb n1).trans q1; obtain ⟨e2, f2⟩ := cells_of_block q2; have z2 := hF2.size)
    | (go_at_call 16; with_reducible refine (wLong_any t ht hW2 (by omega) (by simp [be_len]; omega)).mono ?_; rintro e w3 ⟨rfl, v3, hW3, hF3⟩; have n3 := hF3.own_ne (n := W.heap.size) (by omega) n2; have q3 := (hF3.block W.heap.size (by omega) hnb n2).trans q2; obtain ⟨e3, f3⟩ := cells_of_block q3; have z3 := hF3.size)
    | (go_at_call 45; with_reducible refine (wCoinsF hW3 (by omega) aw ar (by simp [be_len]; omega) (Far.low hI.out (WF.low hWA (hF1.trans (hF2.trans hF3)) hWa hb hb0) hW3 hb hb0)).mono ?_; rintro e w4 ⟨rfl, v4, hW4, hF4⟩; have n4 := hF4.own_ne (n := W.heap.size) (by omega) n3; have q4 := (hF4.block W.heap.size (by omega) hnb n3).trans q3; obtain ⟨e4, f4⟩ := cells_of_block q4; have z4 := hF4.size)
    | (go_at_call 44; refine (wByte_any (pl.length : Int) hW4 (by omega) (by simp [be_len]; omega)).mono ?_; rintro e w5 ⟨rfl, v5, hW5, hF5⟩; have n5 := hF5.own_ne (n := W.heap.size) (by omega) n4; have q5 := (hF5.block W.heap.size (by omega) hnb n4).trans q4; obtain ⟨e5, f5⟩ := cells_of_block q5; have z5 := hF5.size))
  have hF15 := hF1.trans (hF2.trans (hF3.trans (hF4.trans hF5)))
  have hW5' : WrAt w5 b base v5 (p ++ ([k] ++ be s 8 ++ be t 8 ++ coB al ++ [(pl.length : Int)])) := by
    have e : p ++ ([k] ++ be s 8 ++ be t 8 ++ coB al ++ [(pl.length : Int)]) = p ++ [k] ++ be s 8 ++ be t 8 ++ coB al ++ [(pl.length : Int)] := by simp
    rw [e]; exact hW5
  have hB5 : Below W0.heap.size W0 w5 := WF.low hWA hF15 hWa hb hb0
  have hFW := WF.pre hgA hF15
  have hpl : (p ++ ([k] ++ be s 8 ++ be t 8 ++ coB al ++ [(pl.length : Int)])).length ≤ p.length + 300 := by simp [be_len]; omega
  generalize hp0 : p ++ ([k] ++ be s 8 ++ be t 8 ++ coB al ++ [(pl.length : Int)]) = p0 at *
  have hp0 : Hid (p0 = p ++ ([k] ++ be s 8 ++ be t 8 ++ coB al ++ [(pl.length : Int)])) := hp0.symm
  have hW5s := hW5'.lt
  clear hW1 hW2 hW3 hW4 hW5 hF1 hF2 hF3 hF4 hF5 hF15 e1 f1 e2 f2 e3 f3 e4 f4 q1 q2 q3 q4 n1 n2 n3 n4 hWa hA0 hgA hWA hI
  go_wp2
  go_loopw [27] (fun i X => ∃ (j : Nat) (vj : Value), j ≤ pl.length ∧ i = .int .i64 (j : Int) ∧ WrAt X b base vj (p0 ++ (pl.take j).flatMap qB) ∧ WF w5 X b v5 vj) (fun i _ => pl.length - (intOf i).toNat)
  case atStart => exact ⟨0, v5, by omega, rfl, by simpa using hW5', ⟨rfl, rfl, rfl, Nat.le_refl _, fun _ _ _ _ => rfl, .inl rfl⟩⟩
  case round =>
    obtain ⟨j, vj, hj, rfl, hWj, hFj⟩ := hrel
    have hsz := hFj.size
    have hBj := WF.low hB5 hFj hW5' hb hb0
    by_cases hlt : j < pl.length
    · obtain ⟨blk, off, rfl, hbl, d0, d1, d2⟩ := pds_at hP.out j pl[j] (List.getElem?_eq_getElem hlt)
      obtain ⟨hqn, hqw, hqr⟩ := hq.out pl[j] (List.getElem_mem hlt)
      have htk : Hid ((pl.take (j + 1)).flatMap qB = (pl.take j).flatMap qB ++ qB pl[j]) := by show _ = _; rw [List.take_succ_eq_append_getElem hlt, List.flatMap_append]; simp
      have hlen : ((pl.take j).flatMap qB).length ≤ 281 * 16 := by
        have := qsB_len (l := pl.take j) (fun q hq' => (hq.out q (List.mem_of_mem_take hq')).2.2)
        rw [List.length_take] at this
        omega
      have c0 := (hBj.cell (p := ⟨blk, off + j * 2, none⟩) hbl).trans d0
      have c1 := (hBj.cell (p := ⟨blk, off + j * 2 + 1, none⟩) hbl).trans d1
      generalize pl[j] = q at *
      obtain ⟨n, u, l⟩ := q
      simp only at hqn hqw hqr c0 c1 d2
      obtain ⟨aq, cq, rfl⟩ := d2.slice
      have hI : Hid (IsCoins W0 (.slice aq l.length cq) l) := d2.coins (by have := right_len hqr; omega)
      have hlt' : (j : Int) < (pl.length : Int) := by omega
      have hgA : wr.grownBy (wr.alloc (.cells #[.int .u64 n, .slice aq l.length cq] 71)).drew none := grown_dr (World.grownBy_alloc wr _ none)
      have hWa := hWj.kept hgA (by simp) (by cases vj.ownBlock <;> simp)
      have hbk2 := hWj.lt
      have hne2 : some wr.heap.size ≠ vj.ownBlock := fun e => by have := (hWj.2.lt _ e.symm).2; omega
      have hnb2 : wr.heap.size ≠ b := by omega
      have hA0 : (wr.alloc (.cells #[.int .u64 n, .slice aq l.length cq] 71)).drew.heap[wr.heap.size]? = some (.cells #[.int .u64 n, .slice aq l.length cq] 71 (0, 0)) := al_at rfl
      have hAs2 : (wr.alloc (.cells #[.int .u64 n, .slice aq l.length cq] 71)).drew.heap.size = wr.heap.size + 1 := by show (wr.alloc _).heap.size = _; simp
      have hBA : Below W0.heap.size W0 (wr.alloc (.cells #[.int .u64 n, .slice aq l.length cq] 71)).drew := bd (ba hBj _)
      have hpj : (p0 ++ (pl.take j).flatMap qB).length ≤ p.length + 300 + 281 * 16 := by rw [List.length_append]; omega
      clear d0 d1 d2 hlen hpl
      go_upto_region 5 with fail
      go_region_held2 (fun Y => Y.cell? ⟨wr.heap.size, 0, none⟩ = some (.int .u64 n) ∧ Y.cell? ⟨wr.heap.size, 1, none⟩ = some (.slice aq l.length cq)) (go_simp) (first
        | (go_at_call 16; with_reducible refine (wLong_any n hqn hWa (by omega) (by omega)).mono ?_; rintro e w6 ⟨rfl, v6, hW6, hF6⟩; have n6 := hF6.own_ne (n := wr.heap.size) (by omega) hne2; have q6 := (hF6.block wr.heap.size (by omega) hnb2 hne2).trans hA0; obtain ⟨e6, f6⟩ := cells_of_block q6; have z6 := hF6.size)
        | (go_at_call 45; with_reducible refine (wCoinsF hW6 (by omega) hqw hqr (by rw [List.length_append, be_len]; omega) (Far.low hI.out (WF.low hBA hF6 hWa hb hb0) hW6 hb hb0)).mono ?_; rintro e w7 ⟨rfl, v7, hW7, hF7⟩; have q7 := (hF7.block wr.heap.size (by omega) hnb2 n6).trans q6; obtain ⟨e7, f7⟩ := cells_of_block q7))
      all_goals go_wp2
      all_goals go_roundw
      case rel =>
        refine ⟨j + 1, v7, by omega, by go_num, ?_, hFj.trans (WF.pre hgA (hF6.trans hF7))⟩
        rw [htk.out]
        have e : p0 ++ ((pl.take j).flatMap qB ++ qB ⟨n, .slice aq l.length cq, l⟩) = p0 ++ (pl.take j).flatMap qB ++ be n 8 ++ coB l := by simp [qB]
        rw [e]; exact hW7
      case measure => (simp [intOf] <;> omega)
    · obtain rfl : j = pl.length := by omega
      rw [List.take_length] at hWj
      go_wp2
      refine bodyPost_end (v := .tuple #[]) (by simp [results, Try.results17]) rfl ⟨rfl, vj, ?_, hFW.trans hFj⟩
      rw [hp0.out] at hWj
      simpa [pB] using hWj
end Go.Proofs.Ytjhjgncnadhbhaa
