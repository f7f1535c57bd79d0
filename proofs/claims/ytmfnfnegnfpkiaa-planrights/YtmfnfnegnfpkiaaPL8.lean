
/- plan.stepsRight. -/
import Derived.Test.YtmfnfnegnfpkiaaPL7
set_option linter.unusedSimpArgs false
set_option linter.unusedVariables false
set_option maxRecDepth 20000
namespace Go.Proofs.Ytmfnfnegnfpkiaa
open Go.RowKit

theorem all8_le {f g : Nat → Int} {m : Int} (h : ∃ d, d < 8 ∧ m ≤ f d) (hg : ∀ d, d < 8 → g d < m) : all8 f g = false := by
  rw [Bool.eq_false_iff]
  intro e
  obtain ⟨d, hd, h1⟩ := h
  have := all8_true.1 e d hd
  have := hg d hd
  omega
theorem bool_ext {a b : Bool} (h : a = true ↔ b = true) : a = b := by
  cases a <;> cases b <;> simp_all
set_option maxRecDepth 20000 in
set_option maxHeartbeats 8000000 in
theorem steps_any {x : Pn} (w : World) (h : PnAt w x) (ho : PnOk x) (hal : rightFrom 0 x.al = true) :
    Calls Try.prog 45 #[pnV x] w fun e w' => e = .returned (.bool (stepsB x)) ∧ Below w.heap.size w w' := by
  have hsb : Hid (stepsB x = (decide (1 ≤ x.pl.length) && decide (x.pl.length ≤ 16) && x.pl.all pdR && (decide ((ovN x.pl x.s x.e).1 = x.pl.length) && decide ((ovN x.pl x.s x.e).2 = x.e)) && all8 (tot x.pl) (fun d => vl (amP x.al d)))) := by
    unfold Hid stepsB; rw [ovN_full ho.p]
  have hO : Hid (∀ X, Below w.heap.size w X → Calls Try.prog 49 #[pnV x, .int .u64 x.e] X fun e w' => e = .returned (.tuple #[.int .i64 ((ovN x.pl x.s x.e).1 : Int), .int .u64 (ovN x.pl x.s x.e).2]) ∧ Below X.heap.size X w') := fun X hX => over_any X (h.below hX) ho ho.w.e
  have hT : Hid (∀ X, Below w.heap.size w X → (∀ q ∈ x.pl, rightFrom 0 q.l = true) → Calls Try.prog 50 #[x.pv] X _) := fun X hX hr => together_any X (h.2.below hX) ho.p hr
  have hA : Hid (∀ X, Below w.heap.size w X → IsCoins X x.av (lst (amP x.al) 8)) := fun X hX => (h.1.below hX).lst hal
  have hyA := amP_purse ho.w.al
  have hvA : Hid (∀ d, d < 8 → vl (amP x.al d) < 115792089237316195423570985008687907853269984665640564039457584007913129639936) := fun d hd => (vl_lo hyA hd).2
  have hwf := ho.p
  obtain ⟨k, s, u, av, pv, al, pl⟩ := x
  obtain ⟨h1, h2⟩ := h
  simp only at h1 h2 hsb hO hT hA hyA hvA hwf ⊢
  obtain ⟨a1, c1, rfl⟩ := h1.slice
  obtain ⟨a2, c2, rfl⟩ := h2.slice
  generalize hK : stepsB ⟨k, s, u, .slice a1 al.length c1, .slice a2 pl.length c2, al, pl⟩ = K at *
  clear hK
  show Calls Try.prog 45 #[.agg #[.int .u8 k, .int .u64 s, .int .u64 u, .slice a1 al.length c1, .slice a2 pl.length c2]] w _
  have hO' : Hid (∀ X, Below w.heap.size w X → Calls Try.prog 49 #[.agg #[.int .u8 k, .int .u64 s, .int .u64 u, .slice a1 al.length c1, .slice a2 pl.length c2], .int .u64 u] X fun e w' => e = .returned (.tuple #[.int .i64 ((ovN pl s u).1 : Int), .int .u64 (ovN pl s u).2]) ∧ Below X.heap.size X w') := hO
  clear hO
  have hb0 : Below w.heap.size w (w.alloc (.cells #[.int .u8 k, .int .u64 s, .int .u64 u, .slice a1 al.length c1, .slice a2 pl.length c2] 26)) := ba (Below.refl _ _) _
  have hP0 : (w.alloc (.cells #[.int .u8 k, .int .u64 s, .int .u64 u, .slice a1 al.length c1, .slice a2 pl.length c2] 26)).heap.size = w.heap.size + 1 := by simp
  have hkeep : Hid (∀ X, Below (w.alloc (.cells #[.int .u8 k, .int .u64 s, .int .u64 u, .slice a1 al.length c1, .slice a2 pl.length c2] 26)).heap.size (w.alloc (.cells #[.int .u8 k, .int .u64 s, .int .u64 u, .slice a1 al.length c1, .slice a2 pl.length c2] 26)) X → X.cell? ⟨w.heap.size, 0, none⟩ = some (.int .u8 k) ∧ X.cell? ⟨w.heap.size, 1, none⟩ = some (.int .u64 s) ∧ X.cell? ⟨w.heap.size, 2, none⟩ = some (.int .u64 u) ∧ X.cell? ⟨w.heap.size, 3, none⟩ = some (.slice a1 al.length c1) ∧ X.cell? ⟨w.heap.size, 4, none⟩ = some (.slice a2 pl.length c2)) := fun X hX => by
    have q1 := (hX.block w.heap.size (by simp)).trans (al_at rfl)
    exact ⟨(cells_of_block q1).1 0, (cells_of_block q1).1 1, (cells_of_block q1).1 2, (cells_of_block q1).1 3, (cells_of_block q1).1 4⟩
  have hlen := h2.len
  have hlen' : (pl.length : Int) ≤ 1048576 := by omega
  have hP : Hid _ := pds_at h2
  clear h1 h2
  by_cases hlo : pl.length < 1
  · have hlo' : (pl.length : Int) < 1 := by omega
    have hr : Hid (K = false) := by unfold Hid; rw [hsb.out, decide_eq_false (by omega)]; simp
    clear hsb hO' hT hA hkeep
    go_enter Try.func45, Try.ntmps45
    go_wp2
    go_ret
    rw [hr.out]
    exact ⟨rfl, hb0⟩
  by_cases hhi : 16 < pl.length
  · have hhi' : (16 : Int) < (pl.length : Int) := by omega
    have hlo' : ¬ (pl.length : Int) < 1 := by omega
    have hr : Hid (K = false) := by unfold Hid; rw [hsb.out, decide_eq_false (by omega : ¬ pl.length ≤ 16)]; simp
    clear hsb hO' hT hA hkeep
    go_enter Try.func45, Try.ntmps45
    go_wp2
    go_ret
    rw [hr.out]
    exact ⟨rfl, hb0⟩
  have hlo' : ¬ (pl.length : Int) < 1 := by omega
  have hhi' : ¬ (16 : Int) < (pl.length : Int) := by omega
  rw [decide_eq_true (by omega : 1 ≤ pl.length), decide_eq_true (by omega : pl.length ≤ 16)] at hsb
  go_enter Try.func45, Try.ntmps45
  go_wp2
  generalize w.alloc (.cells #[.int .u8 k, .int .u64 s, .int .u64 u, .slice a1 al.length c1, .slice a2 pl.length c2] 26) = P at *
  go_loopw [22] (fun iv X => ∃ (i : Nat), i ≤ pl.length ∧ iv = .int .i64 (i : Int) ∧ Hid (∀ q ∈ pl.take i, pdR q = true) ∧ Below P.heap.size P X) (fun iv _ => pl.length - (intOf iv).toNat)
  case atStart => exact ⟨0, by omega, rfl, by unfold Hid; simp, Below.refl _ _⟩
  case round =>
    obtain ⟨i, hi, rfl, hc, hX⟩ := hrel
    have hXw : Below w.heap.size w wr := hb0.trans (hX.mono (by omega))
    by_cases hlt : i < pl.length
    · have hlt' : (i : Int) < (pl.length : Int) := by omega
      obtain ⟨blk, off, rfl, hbl, hA1⟩ := hP.out i pl[i] (List.getElem?_eq_getElem hlt)
      obtain ⟨d0, d1, hxc⟩ := hA1.below hbl hXw
      obtain ⟨a3, c3, ev1⟩ := hxc.slice
      have hq := hwf pl[i] (List.getElem_mem hlt)
      rw [ev1] at d1 hxc
      have hbx : Below wr.heap.size wr (wr.alloc (.cells #[.int .u64 pl[i].n, .slice a3 pl[i].l.length c3] 73)) := ba (Below.refl _ _) _
      have hS := some_any _ (hxc.below hbx) hq.l
      have hpd : Hid (pdR pl[i] = (decide (1 ≤ pl[i].n) && someB pl[i].l)) := rfl
      have hbad : Hid (pdR pl[i] = false → K = false) := by
        intro e
        rw [hsb.out]
        have : pl.all pdR = false := by
          rw [Bool.eq_false_iff]; intro e2
          have := List.all_eq_true.1 e2 pl[i] (List.getElem_mem hlt)
          rw [e] at this; cases this
        rw [this]; simp
      by_cases hn : pl[i].n < 1
      · have hr : Hid (K = false) := hbad.out (by rw [hpd.out, decide_eq_false (by omega)]; rfl)
        clear hsb hO' hT hA hkeep hS hpd hbad
        go_wp2
        go_ret
        rw [hr.out]
        exact ⟨rfl, ba hXw _⟩
      · cases hsm : someB pl[i].l
        · have hr : Hid (K = false) := hbad.out (by rw [hpd.out, hsm]; simp)
          rw [hsm] at hS
          clear hsb hO' hT hA hkeep hpd hbad hsm
          go_wp2_with (go_at_call 77; refine hS.mono ?_; rintro e w1 ⟨rfl, hb1⟩)
          go_ret
          rw [hr.out]
          exact ⟨rfl, bt (ba hXw _) hb1⟩
        · rw [hsm] at hS
          have hc2 : Hid (∀ q ∈ pl.take (i + 1), pdR q = true) := by
            intro q hq'
            rw [List.take_succ_eq_append_getElem hlt] at hq'
            rcases List.mem_append.1 hq' with h | h
            · exact hc.out q h
            · rw [List.mem_singleton] at h
              subst h
              rw [hpd.out, hsm, decide_eq_true (by omega : 1 ≤ pl[i].n)]; rfl
          clear hsb hO' hT hA hkeep hpd hbad hsm hc
          go_wp2_with (go_at_call 77; refine hS.mono ?_; rintro e w1 ⟨rfl, hb1⟩)
          all_goals go_roundw
          case rel => exact ⟨i + 1, by omega, by go_num, hc2, bt (ba hX _) hb1⟩
          case measure => (simp [intOf]; omega)
    · obtain rfl : i = pl.length := by omega
      rw [List.take_length] at hc
      have hall : pl.all pdR = true := List.all_eq_true.2 hc.out
      have hrt : Hid (∀ q ∈ pl, rightFrom 0 q.l = true) := fun q hq => by
        have := hc.out q hq
        simp only [pdR, Bool.and_eq_true] at this
        exact some_right this.2
      rw [hall] at hsb
      have hpur := sumP_purse hwf
      obtain ⟨k0, k1, k2, k3, k4⟩ := hkeep.out _ hX
      have hT' : Hid (∀ X, Below w.heap.size w X → Calls Try.prog 50 #[.slice a2 pl.length c2] X _) := fun X hX => hT.out X hX hrt.out
      have hle := ovN_le pl s u
      generalize ovN pl s u = o at *
      obtain ⟨o1, o2⟩ := o
      simp only at hsb hO' hle
      clear hall hT hrt hc hP
      by_cases hm : o1 = pl.length
      · subst hm
        by_cases he : o2 = u
        · subst he
          rw [decide_eq_true rfl, decide_eq_true rfl] at hsb
          by_cases hf : ∀ d, d < 8 → tot pl d < 115792089237316195423570985008687907853269984665640564039457584007913129639936
          · have hr : Hid (K = allB eqB (lst (sumP pl) 8) (lst (amP al) 8) 8) := by
              unfold Hid
              rw [hsb.out, allB_eq (hpur hf) hyA]
              simp [sumP_vl]
            have hz := hpur hf
            clear hsb hpur
            go_wp2_with (first
              | (go_at_call 49; refine (hO'.out _ hXw).mono ?_; rintro e w1 ⟨rfl, hb1⟩; have hX1 := bt hXw hb1; obtain ⟨m0, m1, m2, m3, m4⟩ := hkeep.out _ (bt hX hb1))
              | (go_at_call 50; refine (hT'.out _ hX1).mono ?_; rintro e w2 (⟨_, u, rfl, hu, hb2⟩ | ⟨hex, rfl, hb2⟩); rotate_left; obtain ⟨d, hd, e⟩ := hex; have := hf d hd; omega; obtain ⟨au, cu, rfl⟩ := hu.sl; have hu : Hid _ := hu; obtain ⟨n0, n1, n2, n3, n4⟩ := hkeep.out _ (bt (bt hX hb1) hb2))
              | (go_at_call 78; refine (sameP_raw hz hyA _ hu.out (hA.out _ (bt hX1 hb2))).mono ?_; rintro e w3 ⟨rfl, hb3⟩))
            go_ret
            rw [hr.out]
            exact ⟨by simp, bt (bt hX1 hb2) hb3⟩
          · have hr : Hid (K = false) := by
              unfold Hid
              have hex : ∃ d, d < 8 ∧ 115792089237316195423570985008687907853269984665640564039457584007913129639936 ≤ tot pl d := Classical.byContradiction fun hn => hf fun d hd => Int.not_le.1 fun e => hn ⟨d, hd, e⟩
              rw [hsb.out, all8_le hex hvA.out]
              simp
            go_wp2_with (first
              | (go_at_call 49; refine (hO'.out _ hXw).mono ?_; rintro e w1 ⟨rfl, hb1⟩; have hX1 := bt hXw hb1; obtain ⟨m0, m1, m2, m3, m4⟩ := hkeep.out _ (bt hX hb1))
              | (go_at_call 50; refine (hT'.out _ hX1).mono ?_; rintro e w2 (⟨_, u, rfl, hu, hb2⟩ | ⟨hex, rfl, hb2⟩); exact absurd ‹_› hf; obtain ⟨n0, n1, n2, n3, n4⟩ := hkeep.out _ (bt (bt hX hb1) hb2)))
            go_ret
            rw [hr.out]
            exact ⟨by simp, bt hX1 hb2⟩
        · have hr : Hid (K = false) := by unfold Hid; rw [hsb.out, decide_eq_false he]; simp
          have hd2 : (o2 == u) = false := by simpa using he
          go_wp2_with (first
            | (go_at_call 49; refine (hO'.out _ hXw).mono ?_; rintro e w1 ⟨rfl, hb1⟩; have hX1 := bt hXw hb1; obtain ⟨m0, m1, m2, m3, m4⟩ := hkeep.out _ (bt hX hb1))
            | (go_at_call 50; refine (hT'.out _ hX1).mono ?_; rintro e w2 (⟨_, u2, rfl, hu, hb2⟩ | ⟨_, rfl, hb2⟩); obtain ⟨n0, n1, n2, n3, n4⟩ := hkeep.out _ (bt (bt hX hb1) hb2); obtain ⟨au, cu, rfl⟩ := hu.sl; rotate_left; obtain ⟨n0, n1, n2, n3, n4⟩ := hkeep.out _ (bt (bt hX hb1) hb2)))
          all_goals go_wp2
          all_goals go_ret
          all_goals rw [hr.out]
          all_goals exact ⟨by simp, bt hX1 hb2⟩
      · have hr : Hid (K = false) := by unfold Hid; rw [hsb.out, decide_eq_false hm]; simp
        have hd2 : ((o1 : Int) == (pl.length : Int)) = false := by simp; omega
        have hd3 : ¬ (o1 : Int) = (pl.length : Int) := by omega
        go_wp2_with (first
          | (go_at_call 49; refine (hO'.out _ hXw).mono ?_; rintro e w1 ⟨rfl, hb1⟩; have hX1 := bt hXw hb1; obtain ⟨m0, m1, m2, m3, m4⟩ := hkeep.out _ (bt hX hb1))
          | (go_at_call 50; refine (hT'.out _ hX1).mono ?_; rintro e w2 (⟨_, u2, rfl, hu, hb2⟩ | ⟨_, rfl, hb2⟩); obtain ⟨n0, n1, n2, n3, n4⟩ := hkeep.out _ (bt (bt hX hb1) hb2); obtain ⟨au, cu, rfl⟩ := hu.sl; rotate_left; obtain ⟨n0, n1, n2, n3, n4⟩ := hkeep.out _ (bt (bt hX hb1) hb2)))
        all_goals go_wp2
        all_goals go_ret
        all_goals rw [hr.out]
        all_goals exact ⟨by simp, bt hX1 hb2⟩
end Go.Proofs.Ytmfnfnegnfpkiaa
