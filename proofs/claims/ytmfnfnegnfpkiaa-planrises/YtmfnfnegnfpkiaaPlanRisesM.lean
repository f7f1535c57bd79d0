
/- For any plan that is made of anything, at any two times, jointurelaw06.PlanRises returns true and writes nothing that was there: what is free stays free, and together with what is locked it is always all. No condition. -/
import Derived.Test.YtmfnfnegnfpkiaaPM6
import Derived.Deep.CutRange
import Derived.Test.YtmfnfnegnfpkiaaC14
set_option linter.unusedSimpArgs false
set_option linter.unusedVariables false
set_option maxRecDepth 20000
namespace Go.Proofs.Ytmfnfnegnfpkiaa
open Go.ChangeShapes Go.WideShapes Go.ChangeAt Go.RowKit

set_option maxRecDepth 20000 in
set_option maxHeartbeats 16000000 in
theorem planRises_any {w : World} (y : Md) (t t2 : Int) (hy : MdIn w y) (ht : 0 ≤ t ∧ t < 18446744073709551616) (ht2 : 0 ≤ t2 ∧ t2 < 18446744073709551616) :
    Calls Try.prog 6 #[mdV y, .int .u64 t, .int .u64 t2] w fun e w' => e = .returned (.bool true) ∧ Below w.heap.size w w' := by
  have hpad := pads
  have hFew : Hid (∀ X, Below w.heap.size w X → Calls Try.prog 15 #[mdV y] X fun e w' => e = .returned (.bool (fewM y)) ∧ Below X.heap.size X w') := fun X hX => few6_any hy X hX
  have hPl : Hid (fewM y = true → ∀ X, Below w.heap.size w X → Calls Try.prog 16 #[mdV y] X fun e w' => ∃ (k s u : Int) (a1 : Option Addr) (n1 c1 : Nat) (a2 : Option Addr) (n2 c2 : Nat) (x : Pn), e = .returned (.agg #[.int .u8 k, .int .u64 s, .int .u64 u, .slice a1 n1 c1, .slice a2 n2 c2]) ∧ Hid (x = ⟨k, s, u, .slice a1 n1 c1, .slice a2 n2 c2, x.al, x.pl⟩) ∧ Hid (MF w' x) ∧ Below X.heap.size X w') := fun hf X hX => plansS_any hy hf X hX
  clear hy
  obtain ⟨k, s, n, a1, n1, c1, a2, n2, c2, l, ps⟩ := y
  generalize hF : fewM ⟨k, s, n, a1, n1, c1, a2, n2, c2, l, ps⟩ = F at *
  clear hF
  show Calls Try.prog 6 #[.agg #[.int .u8 k, .int .u32 s, .int .u16 n, .slice a1 n1 c1, .slice a2 n2 c2], .int .u64 t, .int .u64 t2] w _
  have hFew : Hid (∀ X, Below w.heap.size w X → Calls Try.prog 15 #[.agg #[.int .u8 k, .int .u32 s, .int .u16 n, .slice a1 n1 c1, .slice a2 n2 c2]] X fun e w' => e = .returned (.bool F) ∧ Below X.heap.size X w') := hFew
  have hPl : Hid (F = true → ∀ X, Below w.heap.size w X → Calls Try.prog 16 #[.agg #[.int .u8 k, .int .u32 s, .int .u16 n, .slice a1 n1 c1, .slice a2 n2 c2]] X fun e w' => ∃ (k s u : Int) (a1 : Option Addr) (n1 c1 : Nat) (a2 : Option Addr) (n2 c2 : Nat) (x : Pn), e = .returned (.agg #[.int .u8 k, .int .u64 s, .int .u64 u, .slice a1 n1 c1, .slice a2 n2 c2]) ∧ Hid (x = ⟨k, s, u, .slice a1 n1 c1, .slice a2 n2 c2, x.al, x.pl⟩) ∧ Hid (MF w' x) ∧ Below X.heap.size X w') := hPl
  have hb0 : Below w.heap.size w (w.alloc (.cells #[.int .u8 k, .int .u32 s, .int .u16 n, .slice a1 n1 c1, .slice a2 n2 c2] 33)) := ba (Below.refl _ _) _
  have hkeep : Hid (∀ X, Below (w.alloc (.cells #[.int .u8 k, .int .u32 s, .int .u16 n, .slice a1 n1 c1, .slice a2 n2 c2] 33)).heap.size (w.alloc (.cells #[.int .u8 k, .int .u32 s, .int .u16 n, .slice a1 n1 c1, .slice a2 n2 c2] 33)) X → X.cell? ⟨w.heap.size, 0, none⟩ = some (.int .u8 k) ∧ X.cell? ⟨w.heap.size, 1, none⟩ = some (.int .u32 s) ∧ X.cell? ⟨w.heap.size, 2, none⟩ = some (.int .u16 n) ∧ X.cell? ⟨w.heap.size, 3, none⟩ = some (.slice a1 n1 c1) ∧ X.cell? ⟨w.heap.size, 4, none⟩ = some (.slice a2 n2 c2)) := fun X hX => by
    have q1 := (cells_of_block ((hX.block w.heap.size (by simp)).trans (al_at rfl))).1
    exact ⟨q1 0, q1 1, q1 2, q1 3, q1 4⟩
  cases F
  · clear hPl
    go_enter Try.func6, Try.ntmps6
    go_wp2_with (first
      | (go_at_call 15; refine (hFew.out _ (bt hb0 hb1)).mono ?_; rintro e w2 ⟨rfl, hb2⟩)
      | (go_at_call 12; with_reducible refine (even_any (w.alloc (.cells #[.int .u8 k, .int .u32 s, .int .u16 n, .slice a1 n1 c1, .slice a2 n2 c2] 33))).mono ?_; rintro e w1 ⟨rfl, hb1⟩; obtain ⟨q0, q1, q2, q3, q4⟩ := hkeep.out _ hb1)
      | (go_at_call 12; with_reducible refine (even_any w2).mono ?_; rintro e w3 ⟨rfl, hb3⟩))
    go_ret
    exact ⟨rfl, bt (bt (bt hb0 hb1) hb2) hb3⟩
  have hPl2 : Hid (∀ X, _) := fun X => hPl.out rfl X
  go_enter Try.func6, Try.ntmps6
  go_upto_region 4 with (first
    | (go_at_call 15; refine (hFew.out _ (bt hb0 hb1)).mono ?_; rintro e w2 ⟨rfl, hb2⟩; obtain ⟨r0, r1, r2, r3, r4⟩ := hkeep.out _ (bt hb1 hb2))
    | (go_at_call 12; refine (even_any _).mono ?_; rintro e w1 ⟨rfl, hb1⟩; obtain ⟨q0, q1, q2, q3, q4⟩ := hkeep.out _ hb1)
    | (go_at_call 16; refine (hPl2.out _ (bt (bt hb0 hb1) hb2)).mono ?_; rintro e w3 ⟨pk, p0, p1, b1, m1, d1, b2, m2, d2, x, rfl, hx, hMF, hb3⟩))
  have hW3 : Below w.heap.size w w3 := bt (bt (bt hb0 hb1) hb2) hb3
  clear hFew hPl hPl2 hkeep hb0 hb1 hb2 hb3 q0 q1 q2 q3 q4 r0 r1 r2 r3 r4
  have hpv : Hid (pnV x = .agg #[.int .u8 pk, .int .u64 p0, .int .u64 p1, .slice b1 m1 d1, .slice b2 m2 d2]) := by unfold Hid; rw [hx.out]; rfl
  have hk1 : Hid (x.k = pk ∧ x.s = p0 ∧ x.e = p1 ∧ x.av = .slice b1 m1 d1 ∧ x.pv = .slice b2 m2 d2) := by unfold Hid; rw [hx.out]; exact ⟨rfl, rfl, rfl, rfl, rfl⟩
  have hok : Hid (PnOk x) := hMF.out.ok
  have hrf : Hid (PnR x) := right_facts hMF.out.rb
  have hAC := mf_coins hMF.out
  have hxav : x.av = .slice b1 m1 d1 := hk1.out.2.2.2.1
  by_cases hsw : t2 < t
  · have hlo := ht2
    have hhi := ht
    have hV1 := mf_vested (t := t2) hMF.out hlo
    have hV2 := mf_vested (t := t) hMF.out hhi
    have hL1 := mf_locked (t := t2) hMF.out hlo
    rw [hpv.out] at hV1 hV2 hL1
    have hvp1 : Hid (Purse (vestP x t2)) := vest_purse hok.out hrf.out t2
    have hvp2 : Hid (Purse (vestP x t)) := vest_purse hok.out hrf.out t
    have hlp : Hid (Purse (lockP x t2)) := lock_purse hok.out hrf.out t2
    have hap : Hid (Purse (amP x.al)) := amP_purse hok.out.w.al
    have hmo : Hid (∀ d, d < 8 → vl (vestP x t2 d) ≤ vl (vestP x t d)) := fun d hd => vest_mono hok.out hrf.out (by omega) hd
    have hfit : Hid (∀ d, d < 8 → vl (vestP x t2 d) + vl (lockP x t2 d) < 115792089237316195423570985008687907853269984665640564039457584007913129639936) := fun d hd => by rw [lock_vl hok.out hrf.out t2 hd]; have := al_lo hok.out hd; omega
    have hsum : Hid (lst (opP (· + ·) (vestP x t2) (lockP x t2)) 8 = lst (amP x.al) 8) := lst_vl (purse_sum hvp1.out hlp.out hfit.out) hap.out fun d hd => by
      show vl (cnOf d (vl (vestP x t2 d) + vl (lockP x t2 d))) = _
      rw [cnOf_vl, lock_vl hok.out hrf.out t2 hd]; omega
    have hr1 : Hid (rightFrom 0 (lst (vestP x t2) 8) = true) := right_eq (lst_right hvp1.out 8 (Nat.le_refl _)) (lst_wf hvp1.out)
    have hr2 : Hid (rightFrom 0 (lst (lockP x t2) 8) = true) := right_eq (lst_right hlp.out 8 (Nat.le_refl _)) (lst_wf hlp.out)
    clear hpv hk1 hok hrf hx hMF
    generalize vestP x t2 = VP at *
    generalize vestP x t = VQ at *
    generalize lockP x t2 = LP at *
    generalize amP x.al = AP at *
    have hU : Below w3.heap.size w3 (w3.alloc (.cells #[.int .u8 pk, .int .u64 p0, .int .u64 p1, .slice b1 m1 d1, .slice b2 m2 d2] 26)) := ba (Below.refl _ _) _
    have hkp : Hid (∀ X, Below (w3.alloc (.cells #[.int .u8 pk, .int .u64 p0, .int .u64 p1, .slice b1 m1 d1, .slice b2 m2 d2] 26)).heap.size (w3.alloc (.cells #[.int .u8 pk, .int .u64 p0, .int .u64 p1, .slice b1 m1 d1, .slice b2 m2 d2] 26)) X → X.cell? ⟨w3.heap.size, 0, none⟩ = some (.int .u8 pk) ∧ X.cell? ⟨w3.heap.size, 1, none⟩ = some (.int .u64 p0) ∧ X.cell? ⟨w3.heap.size, 2, none⟩ = some (.int .u64 p1) ∧ X.cell? ⟨w3.heap.size, 3, none⟩ = some (.slice b1 m1 d1) ∧ X.cell? ⟨w3.heap.size, 4, none⟩ = some (.slice b2 m2 d2)) := fun X hX => by
      have q1 := (cells_of_block ((hX.block w3.heap.size (by simp)).trans (al_at rfl))).1
      exact ⟨q1 0, q1 1, q1 2, q1 3, q1 4⟩
    go_upto_region 6 with fail
    generalize w3.alloc (.cells #[.int .u8 pk, .int .u64 p0, .int .u64 p1, .slice b1 m1 d1, .slice b2 m2 d2] 26) = U at *
    have hbb : Hid (∀ X, Below U.heap.size U X → Below w3.heap.size w3 X) := fun X hX => bt hU hX
    have hbw : Hid (∀ X, Below U.heap.size U X → Below w.heap.size w X) := fun X hX => bt hW3 (bt hU hX)
    go_cut [8, 9] from 27 to 32 (fun s8 s9 wx => ∃ (a8 a9 : Option Addr) (c8 c9 : Nat), s8 = .slice a8 (lst VP 8).length c8 ∧ s9 = .slice a9 (lst VQ 8).length c9 ∧ Hid (IsCoins wx (.slice a8 (lst VP 8).length c8) (lst VP 8)) ∧ Hid (IsCoins wx (.slice a9 (lst VQ 8).length c9) (lst VQ 8)) ∧ Below U.heap.size U wx)
    case first =>
      go_region_held2 (fun X => X.cell? ⟨w3.heap.size, 0, none⟩ = some (.int .u8 pk) ∧ X.cell? ⟨w3.heap.size, 1, none⟩ = some (.int .u64 p0) ∧ X.cell? ⟨w3.heap.size, 2, none⟩ = some (.int .u64 p1) ∧ X.cell? ⟨w3.heap.size, 3, none⟩ = some (.slice b1 m1 d1) ∧ X.cell? ⟨w3.heap.size, 4, none⟩ = some (.slice b2 m2 d2)) (exact hkp.out _ (by (repeat (first | (with_reducible exact Below.refl _ _) | (with_reducible assumption) | (with_reducible apply bd) | (with_reducible apply ba) | (with_reducible refine bp ?_ (by first | omega | (simp [pad_size]; done) | (simp [pad_size]; omega)) _ _) | (with_reducible refine bs ?_ (by first | omega | (simp [pad_size]; done) | (simp [pad_size]; omega)) _) | (with_reducible refine bt ?_ (by assumption)))))) (first
        | (go_at_call 18; with_reducible refine (hV1.out _ (hbb.out _ (by (repeat (first | (with_reducible exact Below.refl _ _) | (with_reducible assumption) | (with_reducible apply bd) | (with_reducible apply ba) | (with_reducible refine bp ?_ (by first | omega | (simp [pad_size]; done) | (simp [pad_size]; omega)) _ _) | (with_reducible refine bs ?_ (by first | omega | (simp [pad_size]; done) | (simp [pad_size]; omega)) _) | (with_reducible refine bt ?_ (by assumption))))))).mono ?_; rintro e wq ⟨va, vc, rfl, hJ0, hb⟩; obtain ⟨pm1, pg1, pr1, phm1, rfl⟩ := pad_of hb; clear hb; simp [pad_size] at phm1; (try rw [hpad.2.2.2.2.2] at hJ0); have hJ := hidI hJ0; clear hJ0)
        | (go_at_call 18; with_reducible refine (hV2.out _ (hbb.out _ (by (repeat (first | (with_reducible exact Below.refl _ _) | (with_reducible assumption) | (with_reducible apply bd) | (with_reducible apply ba) | (with_reducible refine bp ?_ (by first | omega | (simp [pad_size]; done) | (simp [pad_size]; omega)) _ _) | (with_reducible refine bs ?_ (by first | omega | (simp [pad_size]; done) | (simp [pad_size]; omega)) _) | (with_reducible refine bt ?_ (by assumption))))))).mono ?_; rintro e wq ⟨vb, vd, rfl, hK0, hb⟩; obtain ⟨pm2, pg2, pr2, phm2, rfl⟩ := pad_of hb; clear hb; simp [pad_size] at phm2; (try rw [hpad.2.2.2.2.2] at hK0); have hK := hidI hK0; clear hK0))
      all_goals (go_wp2_with fail; go_meet)
      all_goals exact ⟨_, _, _, _, rfl, rfl, IsCoins.below hJ.out (by (repeat (first | (with_reducible exact Below.refl _ _) | (with_reducible assumption) | (with_reducible apply bd) | (with_reducible apply ba) | (with_reducible refine bp ?_ (by first | omega | (simp [pad_size]; done) | (simp [pad_size]; omega)) _ _) | (with_reducible refine bs ?_ (by first | omega | (simp [pad_size]; done) | (simp [pad_size]; omega)) _) | (with_reducible refine bt ?_ (by assumption))))), IsCoins.below hK.out (by (repeat (first | (with_reducible exact Below.refl _ _) | (with_reducible assumption) | (with_reducible apply bd) | (with_reducible apply ba) | (with_reducible refine bp ?_ (by first | omega | (simp [pad_size]; done) | (simp [pad_size]; omega)) _ _) | (with_reducible refine bs ?_ (by first | omega | (simp [pad_size]; done) | (simp [pad_size]; omega)) _) | (with_reducible refine bt ?_ (by assumption))))), by (repeat (first | (with_reducible exact Below.refl _ _) | (with_reducible assumption) | (with_reducible apply bd) | (with_reducible apply ba) | (with_reducible refine bp ?_ (by first | omega | (simp [pad_size]; done) | (simp [pad_size]; omega)) _ _) | (with_reducible refine bs ?_ (by first | omega | (simp [pad_size]; done) | (simp [pad_size]; omega)) _) | (with_reducible refine bt ?_ (by assumption))))⟩
    case rest =>
      obtain ⟨a8, a9, c8, c9, rfl, rfl, hJ, hK, hb4⟩ := hcut
      obtain ⟨q0, q1, q2, q3, q4⟩ := hkp.out _ hb4
      have hb5 := hbb.out _ hb4
      rw [hxav] at hAC
      go_wp2_with (first
        | (go_at_call 20; with_reducible refine (hL1.out _ (bt hb5 hb8)).mono ?_; rintro e w9 ⟨la2, lc2, rfl, hM2, hb9⟩; replace hM2 := hidI hM2)
        | (go_at_call 20; with_reducible refine (hL1.out _ hb5).mono ?_; rintro e w5 ⟨la, lc, rfl, hM, hb6⟩; replace hM := hidI hM)
        | (go_at_call 22; refine addK hvp1.out hlp.out hfit.out (IsCoins.below hJ.out hb6) hM.out ?_; rintro e w6 ⟨sa, sn, sc, rfl, hS, hb7⟩; rw [hsum.out] at hS; replace hS := hidI hS; have hb7' := bt hb6 hb7)
        | (go_at_call 23; refine (withinR_any hvp1.out hvp2.out true (.inl ⟨rfl, hmo.out⟩) _ (IsCoins.below hJ.out hb7') (IsCoins.below hK.out hb7')).mono ?_; rintro e w7 ⟨rfl, hw7⟩; have hb8a := bt hb7' hw7; obtain ⟨r0, r1, r2, r3, r4⟩ := hkp.out _ (bt hb4 hb8a))
        | (go_at_call 17; refine sameK (IsCL.below (IsCoins.cl hS.out) hw7) (IsCoins.cl (hAC.out _ (bt hb5 hb8a))) ?_; rintro e wA ⟨rfl, hwA⟩; simp only [clB_self]; have hb8b := bt hb8a hwA)
        | (go_at_call 24; refine rightK (IsCoins.cl (IsCoins.below hJ.out hb8b)) (lst_wf hvp1.out) hr1.out ?_; rintro e wB ⟨rfl, hwB⟩; have hb8 := bt hb8b hwB; obtain ⟨s0, s1, s2, s3, s4⟩ := hkp.out _ (bt hb4 hb8))
        | (go_at_call 24; refine rightK (IsCoins.cl hM2.out) (lst_wf hlp.out) hr2.out ?_; rintro e wC ⟨rfl, hwC⟩))
      go_ret
      exact ⟨by simp [clB_self], hbw.out _ (bt (bt (bt hb4 hb8) hb9) hwC)⟩
  · have hlo := ht
    have hhi := ht2
    have hV1 := mf_vested (t := t) hMF.out hlo
    have hV2 := mf_vested (t := t2) hMF.out hhi
    have hL1 := mf_locked (t := t) hMF.out hlo
    rw [hpv.out] at hV1 hV2 hL1
    have hvp1 : Hid (Purse (vestP x t)) := vest_purse hok.out hrf.out t
    have hvp2 : Hid (Purse (vestP x t2)) := vest_purse hok.out hrf.out t2
    have hlp : Hid (Purse (lockP x t)) := lock_purse hok.out hrf.out t
    have hap : Hid (Purse (amP x.al)) := amP_purse hok.out.w.al
    have hmo : Hid (∀ d, d < 8 → vl (vestP x t d) ≤ vl (vestP x t2 d)) := fun d hd => vest_mono hok.out hrf.out (by omega) hd
    have hfit : Hid (∀ d, d < 8 → vl (vestP x t d) + vl (lockP x t d) < 115792089237316195423570985008687907853269984665640564039457584007913129639936) := fun d hd => by rw [lock_vl hok.out hrf.out t hd]; have := al_lo hok.out hd; omega
    have hsum : Hid (lst (opP (· + ·) (vestP x t) (lockP x t)) 8 = lst (amP x.al) 8) := lst_vl (purse_sum hvp1.out hlp.out hfit.out) hap.out fun d hd => by
      show vl (cnOf d (vl (vestP x t d) + vl (lockP x t d))) = _
      rw [cnOf_vl, lock_vl hok.out hrf.out t hd]; omega
    have hr1 : Hid (rightFrom 0 (lst (vestP x t) 8) = true) := right_eq (lst_right hvp1.out 8 (Nat.le_refl _)) (lst_wf hvp1.out)
    have hr2 : Hid (rightFrom 0 (lst (lockP x t) 8) = true) := right_eq (lst_right hlp.out 8 (Nat.le_refl _)) (lst_wf hlp.out)
    clear hpv hk1 hok hrf hx hMF
    generalize vestP x t = VP at *
    generalize vestP x t2 = VQ at *
    generalize lockP x t = LP at *
    generalize amP x.al = AP at *
    have hU : Below w3.heap.size w3 (w3.alloc (.cells #[.int .u8 pk, .int .u64 p0, .int .u64 p1, .slice b1 m1 d1, .slice b2 m2 d2] 26)) := ba (Below.refl _ _) _
    have hkp : Hid (∀ X, Below (w3.alloc (.cells #[.int .u8 pk, .int .u64 p0, .int .u64 p1, .slice b1 m1 d1, .slice b2 m2 d2] 26)).heap.size (w3.alloc (.cells #[.int .u8 pk, .int .u64 p0, .int .u64 p1, .slice b1 m1 d1, .slice b2 m2 d2] 26)) X → X.cell? ⟨w3.heap.size, 0, none⟩ = some (.int .u8 pk) ∧ X.cell? ⟨w3.heap.size, 1, none⟩ = some (.int .u64 p0) ∧ X.cell? ⟨w3.heap.size, 2, none⟩ = some (.int .u64 p1) ∧ X.cell? ⟨w3.heap.size, 3, none⟩ = some (.slice b1 m1 d1) ∧ X.cell? ⟨w3.heap.size, 4, none⟩ = some (.slice b2 m2 d2)) := fun X hX => by
      have q1 := (cells_of_block ((hX.block w3.heap.size (by simp)).trans (al_at rfl))).1
      exact ⟨q1 0, q1 1, q1 2, q1 3, q1 4⟩
    go_upto_region 6 with fail
    generalize w3.alloc (.cells #[.int .u8 pk, .int .u64 p0, .int .u64 p1, .slice b1 m1 d1, .slice b2 m2 d2] 26) = U at *
    have hbb : Hid (∀ X, Below U.heap.size U X → Below w3.heap.size w3 X) := fun X hX => bt hU hX
    have hbw : Hid (∀ X, Below U.heap.size U X → Below w.heap.size w X) := fun X hX => bt hW3 (bt hU hX)
    go_cut [8, 9] from 27 to 32 (fun s8 s9 wx => ∃ (a8 a9 : Option Addr) (c8 c9 : Nat), s8 = .slice a8 (lst VP 8).length c8 ∧ s9 = .slice a9 (lst VQ 8).length c9 ∧ Hid (IsCoins wx (.slice a8 (lst VP 8).length c8) (lst VP 8)) ∧ Hid (IsCoins wx (.slice a9 (lst VQ 8).length c9) (lst VQ 8)) ∧ Below U.heap.size U wx)
    case first =>
      go_region_held2 (fun X => X.cell? ⟨w3.heap.size, 0, none⟩ = some (.int .u8 pk) ∧ X.cell? ⟨w3.heap.size, 1, none⟩ = some (.int .u64 p0) ∧ X.cell? ⟨w3.heap.size, 2, none⟩ = some (.int .u64 p1) ∧ X.cell? ⟨w3.heap.size, 3, none⟩ = some (.slice b1 m1 d1) ∧ X.cell? ⟨w3.heap.size, 4, none⟩ = some (.slice b2 m2 d2)) (exact hkp.out _ (by (repeat (first | (with_reducible exact Below.refl _ _) | (with_reducible assumption) | (with_reducible apply bd) | (with_reducible apply ba) | (with_reducible refine bp ?_ (by first | omega | (simp [pad_size]; done) | (simp [pad_size]; omega)) _ _) | (with_reducible refine bs ?_ (by first | omega | (simp [pad_size]; done) | (simp [pad_size]; omega)) _) | (with_reducible refine bt ?_ (by assumption)))))) (first
        | (go_at_call 18; with_reducible refine (hV1.out _ (hbb.out _ (by (repeat (first | (with_reducible exact Below.refl _ _) | (with_reducible assumption) | (with_reducible apply bd) | (with_reducible apply ba) | (with_reducible refine bp ?_ (by first | omega | (simp [pad_size]; done) | (simp [pad_size]; omega)) _ _) | (with_reducible refine bs ?_ (by first | omega | (simp [pad_size]; done) | (simp [pad_size]; omega)) _) | (with_reducible refine bt ?_ (by assumption))))))).mono ?_; rintro e wq ⟨va, vc, rfl, hJ0, hb⟩; obtain ⟨pm1, pg1, pr1, phm1, rfl⟩ := pad_of hb; clear hb; simp [pad_size] at phm1; (try rw [hpad.2.2.2.2.2] at hJ0); have hJ := hidI hJ0; clear hJ0)
        | (go_at_call 18; with_reducible refine (hV2.out _ (hbb.out _ (by (repeat (first | (with_reducible exact Below.refl _ _) | (with_reducible assumption) | (with_reducible apply bd) | (with_reducible apply ba) | (with_reducible refine bp ?_ (by first | omega | (simp [pad_size]; done) | (simp [pad_size]; omega)) _ _) | (with_reducible refine bs ?_ (by first | omega | (simp [pad_size]; done) | (simp [pad_size]; omega)) _) | (with_reducible refine bt ?_ (by assumption))))))).mono ?_; rintro e wq ⟨vb, vd, rfl, hK0, hb⟩; obtain ⟨pm2, pg2, pr2, phm2, rfl⟩ := pad_of hb; clear hb; simp [pad_size] at phm2; (try rw [hpad.2.2.2.2.2] at hK0); have hK := hidI hK0; clear hK0))
      all_goals (go_wp2_with fail; go_meet)
      all_goals exact ⟨_, _, _, _, rfl, rfl, IsCoins.below hJ.out (by (repeat (first | (with_reducible exact Below.refl _ _) | (with_reducible assumption) | (with_reducible apply bd) | (with_reducible apply ba) | (with_reducible refine bp ?_ (by first | omega | (simp [pad_size]; done) | (simp [pad_size]; omega)) _ _) | (with_reducible refine bs ?_ (by first | omega | (simp [pad_size]; done) | (simp [pad_size]; omega)) _) | (with_reducible refine bt ?_ (by assumption))))), IsCoins.below hK.out (by (repeat (first | (with_reducible exact Below.refl _ _) | (with_reducible assumption) | (with_reducible apply bd) | (with_reducible apply ba) | (with_reducible refine bp ?_ (by first | omega | (simp [pad_size]; done) | (simp [pad_size]; omega)) _ _) | (with_reducible refine bs ?_ (by first | omega | (simp [pad_size]; done) | (simp [pad_size]; omega)) _) | (with_reducible refine bt ?_ (by assumption))))), by (repeat (first | (with_reducible exact Below.refl _ _) | (with_reducible assumption) | (with_reducible apply bd) | (with_reducible apply ba) | (with_reducible refine bp ?_ (by first | omega | (simp [pad_size]; done) | (simp [pad_size]; omega)) _ _) | (with_reducible refine bs ?_ (by first | omega | (simp [pad_size]; done) | (simp [pad_size]; omega)) _) | (with_reducible refine bt ?_ (by assumption))))⟩
    case rest =>
      obtain ⟨a8, a9, c8, c9, rfl, rfl, hJ, hK, hb4⟩ := hcut
      obtain ⟨q0, q1, q2, q3, q4⟩ := hkp.out _ hb4
      have hb5 := hbb.out _ hb4
      rw [hxav] at hAC
      go_wp2_with (first
        | (go_at_call 20; with_reducible refine (hL1.out _ (bt hb5 hb8)).mono ?_; rintro e w9 ⟨la2, lc2, rfl, hM2, hb9⟩; replace hM2 := hidI hM2)
        | (go_at_call 20; with_reducible refine (hL1.out _ hb5).mono ?_; rintro e w5 ⟨la, lc, rfl, hM, hb6⟩; replace hM := hidI hM)
        | (go_at_call 22; refine addK hvp1.out hlp.out hfit.out (IsCoins.below hJ.out hb6) hM.out ?_; rintro e w6 ⟨sa, sn, sc, rfl, hS, hb7⟩; rw [hsum.out] at hS; replace hS := hidI hS; have hb7' := bt hb6 hb7)
        | (go_at_call 23; refine (withinR_any hvp1.out hvp2.out true (.inl ⟨rfl, hmo.out⟩) _ (IsCoins.below hJ.out hb7') (IsCoins.below hK.out hb7')).mono ?_; rintro e w7 ⟨rfl, hw7⟩; have hb8a := bt hb7' hw7; obtain ⟨r0, r1, r2, r3, r4⟩ := hkp.out _ (bt hb4 hb8a))
        | (go_at_call 17; refine sameK (IsCL.below (IsCoins.cl hS.out) hw7) (IsCoins.cl (hAC.out _ (bt hb5 hb8a))) ?_; rintro e wA ⟨rfl, hwA⟩; simp only [clB_self]; have hb8b := bt hb8a hwA)
        | (go_at_call 24; refine rightK (IsCoins.cl (IsCoins.below hJ.out hb8b)) (lst_wf hvp1.out) hr1.out ?_; rintro e wB ⟨rfl, hwB⟩; have hb8 := bt hb8b hwB; obtain ⟨s0, s1, s2, s3, s4⟩ := hkp.out _ (bt hb4 hb8))
        | (go_at_call 24; refine rightK (IsCoins.cl hM2.out) (lst_wf hlp.out) hr2.out ?_; rintro e wC ⟨rfl, hwC⟩))
      go_ret
      exact ⟨by simp [clB_self], hbw.out _ (bt (bt (bt hb4 hb8) hb9) hwC)⟩

theorem planRises_own : ownKnob Try.prog.godebug = none := by kernel_rfl
theorem planRises_laid : laidOutB Try.prog = true := by kernel_rfl

set_option maxRecDepth 100000 in
theorem planRises_lifted (os : Os) (started : os.Started) (H : Type) (enc : TypeId × Value → H) :
    ReturnsInHanded {} Try.checked os 6 .any (Rows.planRisesSpec.pre6 enc Try.prog Try.f6 Rows.planRisesRow.domain false) (Rows.planRisesSpec.post enc Try.prog Try.f6 false true false false) := by
  refine returnsInHanded_of_change (C := Try.checked) planRises_own started (by kernel_rfl) Try.func6
    (ChangeSpec.witness6 (enc := enc) (C := Try.checked) false ⟨#[], #[.agg #[.int .u8 0, .int .u32 0, .int .u16 0, .slice none 0 0, .slice none 0 0], .int .u64 0, .int .u64 0], []⟩ 8 (by kernel_rfl) (by kernel_rfl) (by kernel_rfl) (by kernel_rfl)) ?_
  intro W base args ds gs before hval0 hW hcnd _
  have hval : ∀ (j : Nat) t v, Try.f6.params[j]? = some t → args[j]? = some v → Value.okWide Try.prog W .any base t v := hval0
  have hW' := hW
  obtain ⟨p, q, hA0, hV, rfl, hfz, hnd⟩ := hW
  have hA : DataW.TrodAll enc Try.prog W 0 (fun _ => true) true Try.f6.params.toList args.toList ds p := hA0
  rw [Try.params6] at hA hval
  obtain ⟨v0, vs0, d0, ds0, p0, q0, hargs0, rfl, rfl, h0, r0⟩ := trodAll_cons hA
  obtain ⟨v1, vs1, d1, ds1, p1, q1, hargs1, rfl, rfl, h1, r1⟩ := trodAll_cons r0
  obtain ⟨v2, vs2, d2, ds2, p2, q2, hargs2, rfl, rfl, h2, r2⟩ := trodAll_cons r1
  obtain ⟨rfl, rfl, rfl⟩ := trodAll_nil r2
  obtain rfl : args = #[v0, v1, v2] := by cases args; simp_all
  obtain ⟨rfl, rfl⟩ := trodVars_none hV
  have k0 := h0
  have lt0 : ∀ x ∈ p0, x.block < W.heap.size := by obtain ⟨m, hm⟩ := k0; exact DataW.trod_lt m _ _ _ hm
  have k1 := h1
  have lt1 : ∀ x ∈ p1, x.block < W.heap.size := by obtain ⟨m, hm⟩ := k1; exact DataW.trod_lt m _ _ _ hm
  have k2 := h2
  have lt2 : ∀ x ∈ p2, x.block < W.heap.size := by obtain ⟨m, hm⟩ := k2; exact DataW.trod_lt m _ _ _ hm
  obtain ⟨y0, rfl, hl0⟩ := made_in (hval 0 33 v0 rfl rfl) h0
  obtain ⟨n1, rfl⟩ := okWide_int Try.underlying22 (hval 1 22 v1 rfl rfl)
  obtain ⟨fuel1, hf1⟩ := h1
  simp only [Value.cells] at hf1
  obtain ⟨n2, rfl⟩ := okWide_int Try.underlying22 (hval 2 22 v2 rfl rfl)
  obtain ⟨fuel2, hf2⟩ := h2
  simp only [Value.cells] at hf2
  clear hA0 hval0
  have walk : Calls Try.prog 6 _ W fun e w' => e = .returned (.bool true) ∧ Below W.heap.size W w' := planRises_any y0 n1 n2 hl0 (u64_in hf1) (u64_in hf2)
  refine walk.mono fun e W' ⟨he, bel⟩ => ?_
  subst he
  exact ⟨_, rfl, _, _, _, [], _, [], hW', trodAll_mk1 (shut_bool Try.underlying4 _), trodAll_cons_mk (Below.trod planRises_laid (by kernel_rfl) (of_decide_eq_true (by kernel_rfl)) k0 bel lt0) (trodAll_cons_mk (Below.trod planRises_laid (by kernel_rfl) (of_decide_eq_true (by kernel_rfl)) k1 bel lt1) (trodAll_cons_mk (Below.trod planRises_laid (by kernel_rfl) (of_decide_eq_true (by kernel_rfl)) k2 bel lt2) (trodAll_mk0))), rfl, bel.frame _, fun h => by cases h⟩

theorem planRises_holds : Rows.PlanRisesSaid :=
  OpenClaim.holds_of_wide 6 Try.f6 rfl rfl rfl rfl rfl rfl rfl ⟨rfl, rfl, rfl, rfl, rfl⟩ rfl rfl rfl rfl rfl (by kernel_rfl) Try.func6 (by kernel_rfl)
    (of_decide_eq_true (by kernel_rfl)) (by unfold Func.isWrapper; first | (rw [if_pos (by decide +kernel)]; kernel_rfl) | (rw [if_neg (by decide +kernel)]; exact ⟨rfl, rfl⟩))
    (fun os started H enc _ => planRises_lifted os started H enc)
#print axioms planRises_holds
end Go.Proofs.Ytmfnfnegnfpkiaa
