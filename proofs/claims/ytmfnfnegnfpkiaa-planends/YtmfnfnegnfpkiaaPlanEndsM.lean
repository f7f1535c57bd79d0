
/- For any plan that is made of anything, at any time, jointurelaw06.PlanEnds returns true and writes nothing that was there: from its end on all is free, but of what never is; ahead of its start nothing. No condition. -/
import Derived.Test.YtmfnfnegnfpkiaaPM6
import Derived.Deep.CutRange
set_option linter.unusedSimpArgs false
set_option linter.unusedVariables false
set_option maxRecDepth 20000
namespace Go.Proofs.Ytmfnfnegnfpkiaa
open Go.ChangeShapes Go.WideShapes Go.ChangeAt Go.RowKit

set_option maxRecDepth 20000 in
set_option maxHeartbeats 16000000 in
theorem planEnds_any {w : World} (y : Md) (t : Int) (hy : MdIn w y) (ht : 0 ≤ t ∧ t < 18446744073709551616) :
    Calls Try.prog 7 #[mdV y, .int .u64 t] w fun e w' => e = .returned (.bool true) ∧ Below w.heap.size w w' := by
  have hpad := pads
  have hFew : Hid (∀ X, Below w.heap.size w X → Calls Try.prog 15 #[mdV y] X fun e w' => e = .returned (.bool (fewM y)) ∧ Below X.heap.size X w') := fun X hX => few6_any hy X hX
  have hPl : Hid (fewM y = true → ∀ X, Below w.heap.size w X → Calls Try.prog 16 #[mdV y] X fun e w' => ∃ (k s u : Int) (a1 : Option Addr) (n1 c1 : Nat) (a2 : Option Addr) (n2 c2 : Nat) (x : Pn), e = .returned (.agg #[.int .u8 k, .int .u64 s, .int .u64 u, .slice a1 n1 c1, .slice a2 n2 c2]) ∧ Hid (x = ⟨k, s, u, .slice a1 n1 c1, .slice a2 n2 c2, x.al, x.pl⟩) ∧ Hid (MF w' x) ∧ Below X.heap.size X w') := fun hf X hX => plansS_any hy hf X hX
  clear hy
  obtain ⟨k, s, n, a1, n1, c1, a2, n2, c2, l, ps⟩ := y
  generalize hF : fewM ⟨k, s, n, a1, n1, c1, a2, n2, c2, l, ps⟩ = F at *
  clear hF
  show Calls Try.prog 7 #[.agg #[.int .u8 k, .int .u32 s, .int .u16 n, .slice a1 n1 c1, .slice a2 n2 c2], .int .u64 t] w _
  have hFew : Hid (∀ X, Below w.heap.size w X → Calls Try.prog 15 #[.agg #[.int .u8 k, .int .u32 s, .int .u16 n, .slice a1 n1 c1, .slice a2 n2 c2]] X fun e w' => e = .returned (.bool F) ∧ Below X.heap.size X w') := hFew
  have hPl : Hid (F = true → ∀ X, Below w.heap.size w X → Calls Try.prog 16 #[.agg #[.int .u8 k, .int .u32 s, .int .u16 n, .slice a1 n1 c1, .slice a2 n2 c2]] X fun e w' => ∃ (k s u : Int) (a1 : Option Addr) (n1 c1 : Nat) (a2 : Option Addr) (n2 c2 : Nat) (x : Pn), e = .returned (.agg #[.int .u8 k, .int .u64 s, .int .u64 u, .slice a1 n1 c1, .slice a2 n2 c2]) ∧ Hid (x = ⟨k, s, u, .slice a1 n1 c1, .slice a2 n2 c2, x.al, x.pl⟩) ∧ Hid (MF w' x) ∧ Below X.heap.size X w') := hPl
  have hb0 : Below w.heap.size w (w.alloc (.cells #[.int .u8 k, .int .u32 s, .int .u16 n, .slice a1 n1 c1, .slice a2 n2 c2] 33)) := ba (Below.refl _ _) _
  have hkeep : Hid (∀ X, Below (w.alloc (.cells #[.int .u8 k, .int .u32 s, .int .u16 n, .slice a1 n1 c1, .slice a2 n2 c2] 33)).heap.size (w.alloc (.cells #[.int .u8 k, .int .u32 s, .int .u16 n, .slice a1 n1 c1, .slice a2 n2 c2] 33)) X → X.cell? ⟨w.heap.size, 0, none⟩ = some (.int .u8 k) ∧ X.cell? ⟨w.heap.size, 1, none⟩ = some (.int .u32 s) ∧ X.cell? ⟨w.heap.size, 2, none⟩ = some (.int .u16 n) ∧ X.cell? ⟨w.heap.size, 3, none⟩ = some (.slice a1 n1 c1) ∧ X.cell? ⟨w.heap.size, 4, none⟩ = some (.slice a2 n2 c2)) := fun X hX => by
    have q1 := (cells_of_block ((hX.block w.heap.size (by simp)).trans (al_at rfl))).1
    exact ⟨q1 0, q1 1, q1 2, q1 3, q1 4⟩
  cases F
  · clear hPl
    go_enter Try.func7, Try.ntmps7
    go_wp2_with (first
      | (go_at_call 15; refine (hFew.out _ (bt hb0 hb1)).mono ?_; rintro e w2 ⟨rfl, hb2⟩)
      | (go_at_call 12; with_reducible refine (even_any (w.alloc (.cells #[.int .u8 k, .int .u32 s, .int .u16 n, .slice a1 n1 c1, .slice a2 n2 c2] 33))).mono ?_; rintro e w1 ⟨rfl, hb1⟩; obtain ⟨q0, q1, q2, q3, q4⟩ := hkeep.out _ hb1)
      | (go_at_call 12; with_reducible refine (even_any w2).mono ?_; rintro e w3 ⟨rfl, hb3⟩))
    go_ret
    exact ⟨rfl, bt (bt (bt hb0 hb1) hb2) hb3⟩
  have hPl2 : Hid (∀ X, _) := fun X => hPl.out rfl X
  go_enter Try.func7, Try.ntmps7
  go_upto_region 4 with (first
    | (go_at_call 15; refine (hFew.out _ (bt hb0 hb1)).mono ?_; rintro e w2 ⟨rfl, hb2⟩; obtain ⟨r0, r1, r2, r3, r4⟩ := hkeep.out _ (bt hb1 hb2))
    | (go_at_call 12; refine (even_any _).mono ?_; rintro e w1 ⟨rfl, hb1⟩; obtain ⟨q0, q1, q2, q3, q4⟩ := hkeep.out _ hb1)
    | (go_at_call 16; refine (hPl2.out _ (bt (bt hb0 hb1) hb2)).mono ?_; rintro e w3 ⟨pk, p0, p1, b1, m1, d1, b2, m2, d2, x, rfl, hx, hMF, hb3⟩))
  have hW3 : Below w.heap.size w w3 := bt (bt (bt hb0 hb1) hb2) hb3
  clear hFew hPl hPl2 hkeep hb0 hb1 hb2 hb3 q0 q1 q2 q3 q4 r0 r1 r2 r3 r4
  have hpv : Hid (pnV x = .agg #[.int .u8 pk, .int .u64 p0, .int .u64 p1, .slice b1 m1 d1, .slice b2 m2 d2]) := by unfold Hid; rw [hx.out]; rfl
  have hk1 : Hid (x.k = pk ∧ x.s = p0 ∧ x.e = p1 ∧ x.av = .slice b1 m1 d1 ∧ x.pv = .slice b2 m2 d2) := by unfold Hid; rw [hx.out]; exact ⟨rfl, rfl, rfl, rfl, rfl⟩
  have hok : Hid (PnOk x) := hMF.out.ok
  have hrf : Hid (PnR x) := right_facts hMF.out.rb
  have hAC := mf_coins hMF.out
  have hV := mf_vested (t := t) hMF.out ht
  have hL := mf_locked (t := t) hMF.out ht
  rw [hpv.out] at hV hL
  rw [hk1.out.2.2.2.1] at hAC
  have hvp : Hid (Purse (vestP x t)) := vest_purse hok.out hrf.out t
  have hlp : Hid (Purse (lockP x t)) := lock_purse hok.out hrf.out t
  have hap : Hid (Purse (amP x.al)) := amP_purse hok.out.w.al
  have h4 : Hid (pk = 4 → vestP x t = zeroP) := fun e => vest_never (by rw [hk1.out.1]; exact e)
  have hE : Hid (pk ≠ 4 → p1 ≤ t → ∀ d, d < 8 → vl (vestP x t d) = vl (amP x.al d)) := fun e h d hd => vest_end hok.out hrf.out (by rw [hk1.out.1]; exact e) (by rw [hk1.out.2.2.1]; exact h) hd
  have hS : Hid (t < p1 → t ≤ p0 → ∀ d, vl (vestP x t d) = 0) := fun e h d => vest_start hrf.out (by rw [hk1.out.2.2.1]; exact e) (by rw [hk1.out.2.1]; exact h) d
  have hlv : Hid (∀ d, d < 8 → vl (lockP x t d) = vl (amP x.al d) - vl (vestP x t d)) := fun d hd => lock_vl hok.out hrf.out t hd
  clear hpv hk1 hok hrf hx hMF
  generalize vestP x t = VP at *
  generalize lockP x t = LP at *
  generalize amP x.al = AP at *
  have hU : Below w3.heap.size w3 (w3.alloc (.cells #[.int .u8 pk, .int .u64 p0, .int .u64 p1, .slice b1 m1 d1, .slice b2 m2 d2] 26)) := ba (Below.refl _ _) _
  have hkp : Hid (∀ X, Below (w3.alloc (.cells #[.int .u8 pk, .int .u64 p0, .int .u64 p1, .slice b1 m1 d1, .slice b2 m2 d2] 26)).heap.size (w3.alloc (.cells #[.int .u8 pk, .int .u64 p0, .int .u64 p1, .slice b1 m1 d1, .slice b2 m2 d2] 26)) X → X.cell? ⟨w3.heap.size, 0, none⟩ = some (.int .u8 pk) ∧ X.cell? ⟨w3.heap.size, 1, none⟩ = some (.int .u64 p0) ∧ X.cell? ⟨w3.heap.size, 2, none⟩ = some (.int .u64 p1) ∧ X.cell? ⟨w3.heap.size, 3, none⟩ = some (.slice b1 m1 d1) ∧ X.cell? ⟨w3.heap.size, 4, none⟩ = some (.slice b2 m2 d2)) := fun X hX => by
    have q1 := (cells_of_block ((hX.block w3.heap.size (by simp)).trans (al_at rfl))).1
    exact ⟨q1 0, q1 1, q1 2, q1 3, q1 4⟩
  by_cases hk4 : pk = 4
  · have hk4b : (pk == 4) = true := by simp [hk4]
    have hv0 : VP = zeroP := h4.out hk4
    have hv8 : lst VP 8 = [] := by rw [hv0]; exact lst_zero 8
    have hll : Hid (lst LP 8 = lst AP 8) := lst_vl hlp.out hap.out fun d hd => by rw [hlv.out d hd, hv0, vl_zero]; omega
    rw [hll.out] at hL
    rw [hv8] at hV
    simp only [List.length_nil] at hV
    generalize lst AP 8 = AL at *
    generalize AL.length = an at *
    clear h4 hE hS hlv hvp hlp hap hv0 hv8 hk4 hll
    obtain ⟨U0, hU0⟩ : ∃ U0 : World, Hid (U0 = w3) := ⟨_, rfl⟩
    go_upto_region 5 with fail
    generalize w3.alloc (.cells #[.int .u8 pk, .int .u64 p0, .int .u64 p1, .slice b1 m1 d1, .slice b2 m2 d2] 26) = U at *
    have hbb : Hid (∀ X, Below U.heap.size U X → Below w3.heap.size w3 X) := fun X hX => bt hU hX
    have hbw : Hid (∀ X, Below U.heap.size U X → Below w.heap.size w X) := fun X hX => bt hW3 (bt hU hX)
    go_region_held2 (fun X => X.cell? ⟨w3.heap.size, 0, none⟩ = some (.int .u8 pk) ∧ X.cell? ⟨w3.heap.size, 1, none⟩ = some (.int .u64 p0) ∧ X.cell? ⟨w3.heap.size, 2, none⟩ = some (.int .u64 p1) ∧ X.cell? ⟨w3.heap.size, 3, none⟩ = some (.slice b1 m1 d1) ∧ X.cell? ⟨w3.heap.size, 4, none⟩ = some (.slice b2 m2 d2)) (exact hkp.out _ (by (repeat (first | (with_reducible exact Below.refl _ _) | (with_reducible assumption) | (with_reducible apply bd) | (with_reducible apply ba) | (with_reducible refine bp ?_ (by first | omega | (simp [pad_size]; done) | (simp [pad_size]; omega)) _ _) | (with_reducible refine bs ?_ (by first | omega | (simp [pad_size]; done) | (simp [pad_size]; omega)) _) | (with_reducible refine bt ?_ (by assumption)))))) (first
      | (go_at_call 18; with_reducible refine (hV.out _ (hbb.out _ (by (repeat (first | (with_reducible exact Below.refl _ _) | (with_reducible assumption) | (with_reducible apply bd) | (with_reducible apply ba) | (with_reducible refine bp ?_ (by first | omega | (simp [pad_size]; done) | (simp [pad_size]; omega)) _ _) | (with_reducible refine bs ?_ (by first | omega | (simp [pad_size]; done) | (simp [pad_size]; omega)) _) | (with_reducible refine bt ?_ (by assumption))))))).mono ?_; rintro e wq ⟨va, vc, rfl, hI, hb⟩; obtain ⟨pm1, pg1, pr1, phm1, rfl⟩ := pad_of hb; clear hb; simp [pad_size] at phm1)
      | (go_at_call 20; with_reducible refine (hL.out _ (hbb.out _ (by (repeat (first | (with_reducible exact Below.refl _ _) | (with_reducible assumption) | (with_reducible apply bd) | (with_reducible apply ba) | (with_reducible refine bp ?_ (by first | omega | (simp [pad_size]; done) | (simp [pad_size]; omega)) _ _) | (with_reducible refine bs ?_ (by first | omega | (simp [pad_size]; done) | (simp [pad_size]; omega)) _) | (with_reducible refine bt ?_ (by assumption))))))).mono ?_; rintro e wq ⟨la, lc, rfl, hJ0, hb⟩; obtain ⟨pm2, pg2, pr2, phm2, rfl⟩ := pad_of hb; clear hb; simp [pad_size] at phm2; (try rw [hpad.2.2.2.2.2] at hJ0); have hJ := hidI hJ0; clear hJ0)
      | (go_at_call 17; refine sameK (IsCL.below (IsCoins.cl hJ.out) (by (repeat (first | (with_reducible exact Below.refl _ _) | (with_reducible assumption) | (with_reducible apply bd) | (with_reducible apply ba) | (with_reducible refine bp ?_ (by first | omega | (simp [pad_size]; done) | (simp [pad_size]; omega)) _ _) | (with_reducible refine bs ?_ (by first | omega | (simp [pad_size]; done) | (simp [pad_size]; omega)) _) | (with_reducible refine bt ?_ (by assumption)))))) (IsCoins.cl (hAC.out _ (hbb.out _ (by (repeat (first | (with_reducible exact Below.refl _ _) | (with_reducible assumption) | (with_reducible apply bd) | (with_reducible apply ba) | (with_reducible refine bp ?_ (by first | omega | (simp [pad_size]; done) | (simp [pad_size]; omega)) _ _) | (with_reducible refine bs ?_ (by first | omega | (simp [pad_size]; done) | (simp [pad_size]; omega)) _) | (with_reducible refine bt ?_ (by assumption)))))))) ?_; rintro e wq ⟨rfl, hb⟩; obtain ⟨pm3, pg3, pr3, phm3, rfl⟩ := pad_of hb; clear hb; simp [pad_size] at phm3))
    all_goals go_wp2_with fail
    all_goals go_ret
    all_goals exact ⟨by simp [clB_self], hbw.out _ (by (repeat (first | (with_reducible exact Below.refl _ _) | (with_reducible assumption) | (with_reducible apply bd) | (with_reducible apply ba) | (with_reducible refine bp ?_ (by first | omega | (simp [pad_size]; done) | (simp [pad_size]; omega)) _ _) | (with_reducible refine bs ?_ (by first | omega | (simp [pad_size]; done) | (simp [pad_size]; omega)) _) | (with_reducible refine bt ?_ (by assumption)))))⟩
  · have hk4b : (pk == 4) = false := by simpa using hk4
    by_cases hge : p1 ≤ t
    · have hvv : Hid (lst VP 8 = lst AP 8) := lst_vl hvp.out hap.out fun d hd => hE.out hk4 hge d hd
      have hl8 : lst LP 8 = [] := lst_nil hlp.out fun d hd => by rw [hlv.out d hd, hE.out hk4 hge d hd]; omega
      rw [hvv.out] at hV
      rw [hl8] at hL
      simp only [List.length_nil] at hL
      generalize lst AP 8 = AL at *
      generalize AL.length = an at *
      clear h4 hE hS hlv hvp hlp hap hl8 hk4 hvv
      go_upto_region 7 with fail
      generalize w3.alloc (.cells #[.int .u8 pk, .int .u64 p0, .int .u64 p1, .slice b1 m1 d1, .slice b2 m2 d2] 26) = U at *
      have hbb : Hid (∀ X, Below U.heap.size U X → Below w3.heap.size w3 X) := fun X hX => bt hU hX
      have hbw : Hid (∀ X, Below U.heap.size U X → Below w.heap.size w X) := fun X hX => bt hW3 (bt hU hX)
      go_region_held2 (fun X => X.cell? ⟨w3.heap.size, 0, none⟩ = some (.int .u8 pk) ∧ X.cell? ⟨w3.heap.size, 1, none⟩ = some (.int .u64 p0) ∧ X.cell? ⟨w3.heap.size, 2, none⟩ = some (.int .u64 p1) ∧ X.cell? ⟨w3.heap.size, 3, none⟩ = some (.slice b1 m1 d1) ∧ X.cell? ⟨w3.heap.size, 4, none⟩ = some (.slice b2 m2 d2)) (exact hkp.out _ (by (repeat (first | (with_reducible exact Below.refl _ _) | (with_reducible assumption) | (with_reducible apply bd) | (with_reducible apply ba) | (with_reducible refine bp ?_ (by first | omega | (simp [pad_size]; done) | (simp [pad_size]; omega)) _ _) | (with_reducible refine bs ?_ (by first | omega | (simp [pad_size]; done) | (simp [pad_size]; omega)) _) | (with_reducible refine bt ?_ (by assumption)))))) (first
        | (go_at_call 18; with_reducible refine (hV.out _ (hbb.out _ (by (repeat (first | (with_reducible exact Below.refl _ _) | (with_reducible assumption) | (with_reducible apply bd) | (with_reducible apply ba) | (with_reducible refine bp ?_ (by first | omega | (simp [pad_size]; done) | (simp [pad_size]; omega)) _ _) | (with_reducible refine bs ?_ (by first | omega | (simp [pad_size]; done) | (simp [pad_size]; omega)) _) | (with_reducible refine bt ?_ (by assumption))))))).mono ?_; rintro e wq ⟨va, vc, rfl, hJ0, hb⟩; obtain ⟨pm1, pg1, pr1, phm1, rfl⟩ := pad_of hb; clear hb; simp [pad_size] at phm1; (try rw [hpad.2.2.2.2.2] at hJ0); have hJ := hidI hJ0; clear hJ0)
        | (go_at_call 20; with_reducible refine (hL.out _ (hbb.out _ (by (repeat (first | (with_reducible exact Below.refl _ _) | (with_reducible assumption) | (with_reducible apply bd) | (with_reducible apply ba) | (with_reducible refine bp ?_ (by first | omega | (simp [pad_size]; done) | (simp [pad_size]; omega)) _ _) | (with_reducible refine bs ?_ (by first | omega | (simp [pad_size]; done) | (simp [pad_size]; omega)) _) | (with_reducible refine bt ?_ (by assumption))))))).mono ?_; rintro e wq ⟨la, lc, rfl, hI, hb⟩; obtain ⟨pm2, pg2, pr2, phm2, rfl⟩ := pad_of hb; clear hb; simp [pad_size] at phm2)
        | (go_at_call 17; refine sameK (IsCL.below (IsCoins.cl hJ.out) (by (repeat (first | (with_reducible exact Below.refl _ _) | (with_reducible assumption) | (with_reducible apply bd) | (with_reducible apply ba) | (with_reducible refine bp ?_ (by first | omega | (simp [pad_size]; done) | (simp [pad_size]; omega)) _ _) | (with_reducible refine bs ?_ (by first | omega | (simp [pad_size]; done) | (simp [pad_size]; omega)) _) | (with_reducible refine bt ?_ (by assumption)))))) (IsCoins.cl (hAC.out _ (hbb.out _ (by (repeat (first | (with_reducible exact Below.refl _ _) | (with_reducible assumption) | (with_reducible apply bd) | (with_reducible apply ba) | (with_reducible refine bp ?_ (by first | omega | (simp [pad_size]; done) | (simp [pad_size]; omega)) _ _) | (with_reducible refine bs ?_ (by first | omega | (simp [pad_size]; done) | (simp [pad_size]; omega)) _) | (with_reducible refine bt ?_ (by assumption)))))))) ?_; rintro e wq ⟨rfl, hb⟩; obtain ⟨pm3, pg3, pr3, phm3, rfl⟩ := pad_of hb; clear hb; simp [pad_size] at phm3; simp only [clB_self]))
      all_goals go_wp2_with fail
      all_goals go_ret
      all_goals exact ⟨by simp [clB_self], hbw.out _ (by (repeat (first | (with_reducible exact Below.refl _ _) | (with_reducible assumption) | (with_reducible apply bd) | (with_reducible apply ba) | (with_reducible refine bp ?_ (by first | omega | (simp [pad_size]; done) | (simp [pad_size]; omega)) _ _) | (with_reducible refine bs ?_ (by first | omega | (simp [pad_size]; done) | (simp [pad_size]; omega)) _) | (with_reducible refine bt ?_ (by assumption)))))⟩
    · by_cases hts : p0 < t
      · clear hV hL hAC h4 hE hS hlv hvp hlp hap
        go_wp2
        go_ret
        exact ⟨rfl, bt hW3 hU⟩
      · have hv8 : lst VP 8 = [] := lst_nil hvp.out fun d _ => hS.out (by omega) (by omega) d
        rw [hv8] at hV
        simp only [List.length_nil] at hV
        clear hL hAC h4 hE hS hlv hvp hlp hap hv8
        go_wp2_with (go_at_call 18; refine (hV.out _ hU).mono ?_; rintro e w4 ⟨va, vc, rfl, hI, hb4⟩)
        go_ret
        exact ⟨rfl, bt hW3 (bt hU hb4)⟩

theorem planEnds_own : ownKnob Try.prog.godebug = none := by kernel_rfl
theorem planEnds_laid : laidOutB Try.prog = true := by kernel_rfl

set_option maxRecDepth 100000 in
theorem planEnds_lifted (os : Os) (started : os.Started) (H : Type) (enc : TypeId × Value → H) :
    ReturnsInHanded {} Try.checked os 7 .any (Rows.planEndsSpec.pre6 enc Try.prog Try.f7 Rows.planEndsRow.domain false) (Rows.planEndsSpec.post enc Try.prog Try.f7 false true false false) := by
  refine returnsInHanded_of_change (C := Try.checked) planEnds_own started (by kernel_rfl) Try.func7
    (ChangeSpec.witness6 (enc := enc) (C := Try.checked) false ⟨#[], #[.agg #[.int .u8 0, .int .u32 0, .int .u16 0, .slice none 0 0, .slice none 0 0], .int .u64 0], []⟩ 8 (by kernel_rfl) (by kernel_rfl) (by kernel_rfl) (by kernel_rfl)) ?_
  intro W base args ds gs before hval0 hW hcnd _
  have hval : ∀ (j : Nat) t v, Try.f7.params[j]? = some t → args[j]? = some v → Value.okWide Try.prog W .any base t v := hval0
  have hW' := hW
  obtain ⟨p, q, hA0, hV, rfl, hfz, hnd⟩ := hW
  have hA : DataW.TrodAll enc Try.prog W 0 (fun _ => true) true Try.f7.params.toList args.toList ds p := hA0
  rw [Try.params7] at hA hval
  obtain ⟨v0, vs0, d0, ds0, p0, q0, hargs0, rfl, rfl, h0, r0⟩ := trodAll_cons hA
  obtain ⟨v1, vs1, d1, ds1, p1, q1, hargs1, rfl, rfl, h1, r1⟩ := trodAll_cons r0
  obtain ⟨rfl, rfl, rfl⟩ := trodAll_nil r1
  obtain rfl : args = #[v0, v1] := by cases args; simp_all
  obtain ⟨rfl, rfl⟩ := trodVars_none hV
  have k0 := h0
  have lt0 : ∀ x ∈ p0, x.block < W.heap.size := by obtain ⟨m, hm⟩ := k0; exact DataW.trod_lt m _ _ _ hm
  have k1 := h1
  have lt1 : ∀ x ∈ p1, x.block < W.heap.size := by obtain ⟨m, hm⟩ := k1; exact DataW.trod_lt m _ _ _ hm
  obtain ⟨y0, rfl, hl0⟩ := made_in (hval 0 33 v0 rfl rfl) h0
  obtain ⟨n1, rfl⟩ := okWide_int Try.underlying22 (hval 1 22 v1 rfl rfl)
  obtain ⟨fuel1, hf1⟩ := h1
  simp only [Value.cells] at hf1
  clear hA0 hval0
  have walk : Calls Try.prog 7 _ W fun e w' => e = .returned (.bool true) ∧ Below W.heap.size W w' := planEnds_any y0 n1 hl0 (u64_in hf1)
  refine walk.mono fun e W' ⟨he, bel⟩ => ?_
  subst he
  exact ⟨_, rfl, _, _, _, [], _, [], hW', trodAll_mk1 (shut_bool Try.underlying4 _), trodAll_cons_mk (Below.trod planEnds_laid (by kernel_rfl) (of_decide_eq_true (by kernel_rfl)) k0 bel lt0) (trodAll_cons_mk (Below.trod planEnds_laid (by kernel_rfl) (of_decide_eq_true (by kernel_rfl)) k1 bel lt1) (trodAll_mk0)), rfl, bel.frame _, fun h => by cases h⟩

theorem planEnds_holds : Rows.PlanEndsSaid :=
  OpenClaim.holds_of_wide 7 Try.f7 rfl rfl rfl rfl rfl rfl rfl ⟨rfl, rfl, rfl, rfl, rfl⟩ rfl rfl rfl rfl rfl (by kernel_rfl) Try.func7 (by kernel_rfl)
    (of_decide_eq_true (by kernel_rfl)) (by unfold Func.isWrapper; first | (rw [if_pos (by decide +kernel)]; kernel_rfl) | (rw [if_neg (by decide +kernel)]; exact ⟨rfl, rfl⟩))
    (fun os started H enc _ => planEnds_lifted os started H enc)
#print axioms planEnds_holds
end Go.Proofs.Ytmfnfnegnfpkiaa
