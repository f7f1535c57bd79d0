
/- For any plan that is made of anything, with any other kind, end and without its coins or not, jointurelaw06.PlanMade returns true and writes nothing that was there: what was made may be, and with something else in it it is judged as the document does. No condition. -/
import Derived.Test.YtmfnfnegnfpkiaaPM6
import Derived.Deep.CutRange
set_option linter.unusedSimpArgs false
set_option linter.unusedVariables false
set_option maxRecDepth 20000
namespace Go.Proofs.Ytmfnfnegnfpkiaa
open Go.ChangeShapes Go.WideShapes Go.ChangeAt Go.RowKit

set_option maxRecDepth 20000 in
set_option maxHeartbeats 16000000 in
theorem planMade_any {w : World} (y : Md) (kd mo : Int) (b : Bool) (hy : MdIn w y) (hkd : 0 ≤ kd ∧ kd ≤ 255) :
    Calls Try.prog 4 #[mdV y, .int .u8 kd, .int .i8 mo, .bool b] w fun e w' => e = .returned (.bool true) ∧ Below w.heap.size w w' := by
  have hpad := pads
  have hFew : Hid (∀ X, Below w.heap.size w X → Calls Try.prog 15 #[mdV y] X fun e w' => e = .returned (.bool (fewM y)) ∧ Below X.heap.size X w') := fun X hX => few6_any hy X hX
  have hPl : Hid (fewM y = true → ∀ X, Below w.heap.size w X → Calls Try.prog 16 #[mdV y] X fun e w' => ∃ (k s u : Int) (a1 : Option Addr) (n1 c1 : Nat) (a2 : Option Addr) (n2 c2 : Nat) (x : Pn), e = .returned (.agg #[.int .u8 k, .int .u64 s, .int .u64 u, .slice a1 n1 c1, .slice a2 n2 c2]) ∧ Hid (x = ⟨k, s, u, .slice a1 n1 c1, .slice a2 n2 c2, x.al, x.pl⟩) ∧ Hid (MF w' x) ∧ Below X.heap.size X w') := fun hf X hX => plansS_any hy hf X hX
  clear hy
  obtain ⟨k, s, n, a1, n1, c1, a2, n2, c2, l, ps⟩ := y
  generalize hF : fewM ⟨k, s, n, a1, n1, c1, a2, n2, c2, l, ps⟩ = F at *
  clear hF
  show Calls Try.prog 4 #[.agg #[.int .u8 k, .int .u32 s, .int .u16 n, .slice a1 n1 c1, .slice a2 n2 c2], .int .u8 kd, .int .i8 mo, .bool b] w _
  have hFew : Hid (∀ X, Below w.heap.size w X → Calls Try.prog 15 #[.agg #[.int .u8 k, .int .u32 s, .int .u16 n, .slice a1 n1 c1, .slice a2 n2 c2]] X fun e w' => e = .returned (.bool F) ∧ Below X.heap.size X w') := hFew
  have hPl : Hid (F = true → ∀ X, Below w.heap.size w X → Calls Try.prog 16 #[.agg #[.int .u8 k, .int .u32 s, .int .u16 n, .slice a1 n1 c1, .slice a2 n2 c2]] X fun e w' => ∃ (k s u : Int) (a1 : Option Addr) (n1 c1 : Nat) (a2 : Option Addr) (n2 c2 : Nat) (x : Pn), e = .returned (.agg #[.int .u8 k, .int .u64 s, .int .u64 u, .slice a1 n1 c1, .slice a2 n2 c2]) ∧ Hid (x = ⟨k, s, u, .slice a1 n1 c1, .slice a2 n2 c2, x.al, x.pl⟩) ∧ Hid (MF w' x) ∧ Below X.heap.size X w') := hPl
  have hb0 : Below w.heap.size w (w.alloc (.cells #[.int .u8 k, .int .u32 s, .int .u16 n, .slice a1 n1 c1, .slice a2 n2 c2] 33)) := ba (Below.refl _ _) _
  have hkeep : Hid (∀ X, Below (w.alloc (.cells #[.int .u8 k, .int .u32 s, .int .u16 n, .slice a1 n1 c1, .slice a2 n2 c2] 33)).heap.size (w.alloc (.cells #[.int .u8 k, .int .u32 s, .int .u16 n, .slice a1 n1 c1, .slice a2 n2 c2] 33)) X → X.cell? ⟨w.heap.size, 0, none⟩ = some (.int .u8 k) ∧ X.cell? ⟨w.heap.size, 1, none⟩ = some (.int .u32 s) ∧ X.cell? ⟨w.heap.size, 2, none⟩ = some (.int .u16 n) ∧ X.cell? ⟨w.heap.size, 3, none⟩ = some (.slice a1 n1 c1) ∧ X.cell? ⟨w.heap.size, 4, none⟩ = some (.slice a2 n2 c2)) := fun X hX => by
    have q1 := (cells_of_block ((hX.block w.heap.size (by simp)).trans (al_at rfl))).1
    exact ⟨q1 0, q1 1, q1 2, q1 3, q1 4⟩
  cases F
  · clear hPl
    go_enter Try.func4, Try.ntmps4
    go_wp2_with (first
      | (go_at_call 15; refine (hFew.out _ (bt hb0 hb1)).mono ?_; rintro e w2 ⟨rfl, hb2⟩)
      | (go_at_call 12; with_reducible refine (even_any (w.alloc (.cells #[.int .u8 k, .int .u32 s, .int .u16 n, .slice a1 n1 c1, .slice a2 n2 c2] 33))).mono ?_; rintro e w1 ⟨rfl, hb1⟩; obtain ⟨q0, q1, q2, q3, q4⟩ := hkeep.out _ hb1)
      | (go_at_call 12; with_reducible refine (even_any w2).mono ?_; rintro e w3 ⟨rfl, hb3⟩))
    go_ret
    exact ⟨rfl, bt (bt (bt hb0 hb1) hb2) hb3⟩
  have hPl2 : Hid (∀ X, _) := fun X => hPl.out rfl X
  go_enter Try.func4, Try.ntmps4
  go_upto_region 4 with (first
    | (go_at_call 15; refine (hFew.out _ (bt hb0 hb1)).mono ?_; rintro e w2 ⟨rfl, hb2⟩; obtain ⟨r0, r1, r2, r3, r4⟩ := hkeep.out _ (bt hb1 hb2))
    | (go_at_call 12; refine (even_any _).mono ?_; rintro e w1 ⟨rfl, hb1⟩; obtain ⟨q0, q1, q2, q3, q4⟩ := hkeep.out _ hb1)
    | (go_at_call 16; refine (hPl2.out _ (bt (bt hb0 hb1) hb2)).mono ?_; rintro e w3 ⟨pk, p0, p1, b1, m1, d1, b2, m2, d2, x, rfl, hx, hMF, hb3⟩))
  have hW3 : Below w.heap.size w w3 := bt (bt (bt hb0 hb1) hb2) hb3
  clear hFew hPl hPl2 hkeep hb0 hb1 hb2 hb3 q0 q1 q2 q3 q4 r0 r1 r2 r3 r4
  have hpv : Hid (pnV x = .agg #[.int .u8 pk, .int .u64 p0, .int .u64 p1, .slice b1 m1 d1, .slice b2 m2 d2]) := by unfold Hid; rw [hx.out]; rfl
  have hk1 : Hid (x.k = pk ∧ x.s = p0 ∧ x.e = p1 ∧ x.av = .slice b1 m1 d1 ∧ x.pv = .slice b2 m2 d2) := by unfold Hid; rw [hx.out]; exact ⟨rfl, rfl, rfl, rfl, rfl⟩
  have hok : Hid (PnOk x) := hMF.out.ok
  have hrf : Hid (PnR x) := right_facts hMF.out.rb
  have hAC := mf_coins hMF.out
  have hR1 : Hid (∀ X, Below w3.heap.size w3 X → Calls Try.prog 13 #[pnV x] X fun e w' => e = .returned (.bool true) ∧ Below X.heap.size X w') := mf_right hMF.out
  have hR2 : Hid (∀ X, Below w3.heap.size w3 X → Calls Try.prog 14 #[pnV x] X fun e w' => e = .returned (.bool true) ∧ Below X.heap.size X w') := fun X hX => by
    have := rightR6_any X (hMF.out.at'.below hX) hMF.out.ok
    rwa [hMF.out.rb] at this
  rw [hpv.out] at hR1 hR2
  have hU : Below w3.heap.size w3 (w3.alloc (.cells #[.int .u8 pk, .int .u64 p0, .int .u64 p1, .slice b1 m1 d1, .slice b2 m2 d2] 26)) := ba (Below.refl _ _) _
  have hkp : Hid (∀ X, Below (w3.alloc (.cells #[.int .u8 pk, .int .u64 p0, .int .u64 p1, .slice b1 m1 d1, .slice b2 m2 d2] 26)).heap.size (w3.alloc (.cells #[.int .u8 pk, .int .u64 p0, .int .u64 p1, .slice b1 m1 d1, .slice b2 m2 d2] 26)) X → X.cell? ⟨w3.heap.size, 0, none⟩ = some (.int .u8 pk) ∧ X.cell? ⟨w3.heap.size, 1, none⟩ = some (.int .u64 p0) ∧ X.cell? ⟨w3.heap.size, 2, none⟩ = some (.int .u64 p1) ∧ X.cell? ⟨w3.heap.size, 3, none⟩ = some (.slice b1 m1 d1) ∧ X.cell? ⟨w3.heap.size, 4, none⟩ = some (.slice b2 m2 d2)) := fun X hX => by
    have q1 := (cells_of_block ((hX.block w3.heap.size (by simp)).trans (al_at rfl))).1
    exact ⟨q1 0, q1 1, q1 2, q1 3, q1 4⟩
  obtain ⟨NE, hNE⟩ : ∃ NE, IntKind.u64.wrap (p1 + IntKind.u64.wrap (wrap64 mo)) = NE := ⟨_, rfl⟩
  have hne : 0 ≤ NE ∧ NE < 18446744073709551616 := by rw [← hNE, IntKind.wrap_u64]; omega
  go_upto_region 6 with (first
    | (go_at_call 13; with_reducible refine (hR1.out _ hU).mono ?_; rintro e w4 ⟨rfl, hb4⟩; obtain ⟨q0, q1, q2, q3, q4⟩ := hkp.out _ hb4)
    | (go_at_call 14; with_reducible refine (hR2.out _ (bt hU hb4)).mono ?_; rintro e w5 ⟨rfl, hb5⟩))
  have hB5 : w5.heap[w3.heap.size]? = some (.cells #[.int .u8 pk, .int .u64 p0, .int .u64 p1, .slice b1 m1 d1, .slice b2 m2 d2] 26 (0, 0)) := ((bt hb4 hb5).block w3.heap.size (by simp)).trans (al_at rfl)
  have hb6 : Below w3.heap.size w3 w5 := bt hU (bt hb4 hb5)
  obtain ⟨c5, f5⟩ := cells_of_block hB5
  clear hkp q0 q1 q2 q3 q4
  cases b
  · skip
    have hQ : Hid (PnOk ⟨kd, p0, NE, .slice b1 m1 d1, .slice b2 m2 d2, x.al, x.pl⟩) := ⟨⟨hkd, by rw [← hk1.out.2.1]; exact hok.out.w.s, hne, hok.out.w.al⟩, hok.out.p⟩
    have hA : Hid (∀ X, Below w3.heap.size w3 X → PnAt X ⟨kd, p0, NE, .slice b1 m1 d1, .slice b2 m2 d2, x.al, x.pl⟩) := fun X hX => ⟨by have := (hMF.out.at'.below hX).1; rw [hk1.out.2.2.2.1] at this; exact this, by have := (hMF.out.at'.below hX).2; rw [hk1.out.2.2.2.2] at this; exact this⟩
    have hR3 : Hid (∀ X, Below w3.heap.size w3 X → Calls Try.prog 13 #[.agg #[.int .u8 kd, .int .u64 p0, .int .u64 NE, .slice b1 m1 d1, .slice b2 m2 d2]] X fun e w' => e = .returned (.bool (rightB ⟨kd, p0, NE, .slice b1 m1 d1, .slice b2 m2 d2, x.al, x.pl⟩)) ∧ Below X.heap.size X w') := fun X hX => planRight_any (x := ⟨kd, p0, NE, .slice b1 m1 d1, .slice b2 m2 d2, x.al, x.pl⟩) X (hA.out X hX) hQ.out
    have hR4 : Hid (∀ X, Below w3.heap.size w3 X → Calls Try.prog 14 #[.agg #[.int .u8 kd, .int .u64 p0, .int .u64 NE, .slice b1 m1 d1, .slice b2 m2 d2]] X fun e w' => e = .returned (.bool (rightB ⟨kd, p0, NE, .slice b1 m1 d1, .slice b2 m2 d2, x.al, x.pl⟩)) ∧ Below X.heap.size X w') := fun X hX => rightR6_any (x := ⟨kd, p0, NE, .slice b1 m1 d1, .slice b2 m2 d2, x.al, x.pl⟩) X (hA.out X hX) hQ.out
    generalize rightB ⟨kd, p0, NE, .slice b1 m1 d1, .slice b2 m2 d2, x.al, x.pl⟩ = R at *
    clear hQ hA hR1 hR2 hok hrf hx hMF hk1 hpv hAC
    go_upto_region 10 with fail
    (try rw [hNE])
    have hZ : (((w5.setCell ⟨w3.heap.size, 0, none⟩ (.int .u8 kd)).setCell ⟨w3.heap.size, 2, none⟩ (.int .u64 NE))).heap[w3.heap.size]? = some (.cells #[.int .u8 kd, .int .u64 p0, .int .u64 NE, .slice b1 m1 d1, .slice b2 m2 d2] 26 (0, 0)) := by rw [block_set _ (block_set _ hB5)]; rfl
    have hZb : Below w3.heap.size w3 (((w5.setCell ⟨w3.heap.size, 0, none⟩ (.int .u8 kd)).setCell ⟨w3.heap.size, 2, none⟩ (.int .u64 NE))) := by (repeat (first | (with_reducible exact Below.refl _ _) | (with_reducible assumption) | (with_reducible apply bd) | (with_reducible apply ba) | (with_reducible refine bp ?_ (by first | omega | (simp [pad_size]; done) | (simp [pad_size]; omega)) _ _) | (with_reducible refine bs ?_ (by first | omega | (simp [pad_size]; done) | (simp [pad_size]; omega)) _) | (with_reducible refine bt ?_ (by assumption))))
    generalize (((w5.setCell ⟨w3.heap.size, 0, none⟩ (.int .u8 kd)).setCell ⟨w3.heap.size, 2, none⟩ (.int .u64 NE))) = Z at *
    have hkz : Hid (∀ X, Below Z.heap.size Z X → X.cell? ⟨w3.heap.size, 0, none⟩ = some (.int .u8 kd) ∧ X.cell? ⟨w3.heap.size, 1, none⟩ = some (.int .u64 p0) ∧ X.cell? ⟨w3.heap.size, 2, none⟩ = some (.int .u64 NE) ∧ X.cell? ⟨w3.heap.size, 3, none⟩ = some (.slice b1 m1 d1) ∧ X.cell? ⟨w3.heap.size, 4, none⟩ = some (.slice b2 m2 d2)) := fun X hX => by
      have q1 := (cells_of_block ((hX.block w3.heap.size (Array.getElem?_eq_some_iff.1 hZ).1).trans hZ)).1
      exact ⟨q1 0, q1 1, q1 2, q1 3, q1 4⟩
    have hbb : Hid (∀ X, Below Z.heap.size Z X → Below w3.heap.size w3 X) := fun X hX => bt hZb hX
    clear hZ
    go_region_held2 (fun X => X.cell? ⟨w3.heap.size, 0, none⟩ = some (.int .u8 kd) ∧ X.cell? ⟨w3.heap.size, 1, none⟩ = some (.int .u64 p0) ∧ X.cell? ⟨w3.heap.size, 2, none⟩ = some (.int .u64 NE) ∧ X.cell? ⟨w3.heap.size, 3, none⟩ = some (.slice b1 m1 d1) ∧ X.cell? ⟨w3.heap.size, 4, none⟩ = some (.slice b2 m2 d2)) (exact hkz.out _ (by (repeat (first | (with_reducible exact Below.refl _ _) | (with_reducible assumption) | (with_reducible apply bd) | (with_reducible apply ba) | (with_reducible refine bp ?_ (by first | omega | (simp [pad_size]; done) | (simp [pad_size]; omega)) _ _) | (with_reducible refine bs ?_ (by first | omega | (simp [pad_size]; done) | (simp [pad_size]; omega)) _) | (with_reducible refine bt ?_ (by assumption)))))) (first
      | (go_at_call 13; with_reducible refine (hR3.out _ (hbb.out _ (by (repeat (first | (with_reducible exact Below.refl _ _) | (with_reducible assumption) | (with_reducible apply bd) | (with_reducible apply ba) | (with_reducible refine bp ?_ (by first | omega | (simp [pad_size]; done) | (simp [pad_size]; omega)) _ _) | (with_reducible refine bs ?_ (by first | omega | (simp [pad_size]; done) | (simp [pad_size]; omega)) _) | (with_reducible refine bt ?_ (by assumption))))))).mono ?_; rintro e wq ⟨rfl, hb⟩; obtain ⟨pm1, pg1, pr1, phm1, rfl⟩ := pad_of hb; clear hb; simp [pad_size] at phm1)
      | (go_at_call 14; with_reducible refine (hR4.out _ (hbb.out _ (by (repeat (first | (with_reducible exact Below.refl _ _) | (with_reducible assumption) | (with_reducible apply bd) | (with_reducible apply ba) | (with_reducible refine bp ?_ (by first | omega | (simp [pad_size]; done) | (simp [pad_size]; omega)) _ _) | (with_reducible refine bs ?_ (by first | omega | (simp [pad_size]; done) | (simp [pad_size]; omega)) _) | (with_reducible refine bt ?_ (by assumption))))))).mono ?_; rintro e wq ⟨rfl, hb⟩; obtain ⟨pm2, pg2, pr2, phm2, rfl⟩ := pad_of hb; clear hb; simp [pad_size] at phm2))
    all_goals go_wp2_with fail
    all_goals go_ret
    all_goals exact ⟨by simp, bt hW3 (hbb.out _ (by (repeat (first | (with_reducible exact Below.refl _ _) | (with_reducible assumption) | (with_reducible apply bd) | (with_reducible apply ba) | (with_reducible refine bp ?_ (by first | omega | (simp [pad_size]; done) | (simp [pad_size]; omega)) _ _) | (with_reducible refine bs ?_ (by first | omega | (simp [pad_size]; done) | (simp [pad_size]; omega)) _) | (with_reducible refine bt ?_ (by assumption))))))⟩
  · skip
    have hQ : Hid (PnOk ⟨kd, p0, NE, .slice none 0 0, .slice b2 m2 d2, [], x.pl⟩) := ⟨⟨hkd, by rw [← hk1.out.2.1]; exact hok.out.w.s, hne, by simp⟩, hok.out.p⟩
    have hA : Hid (∀ X, Below w3.heap.size w3 X → PnAt X ⟨kd, p0, NE, .slice none 0 0, .slice b2 m2 d2, [], x.pl⟩) := fun X hX => ⟨.inl ⟨rfl, none, 0, rfl⟩, by have := (hMF.out.at'.below hX).2; rw [hk1.out.2.2.2.2] at this; exact this⟩
    have hR3 : Hid (∀ X, Below w3.heap.size w3 X → Calls Try.prog 13 #[.agg #[.int .u8 kd, .int .u64 p0, .int .u64 NE, .slice none 0 0, .slice b2 m2 d2]] X fun e w' => e = .returned (.bool (rightB ⟨kd, p0, NE, .slice none 0 0, .slice b2 m2 d2, [], x.pl⟩)) ∧ Below X.heap.size X w') := fun X hX => planRight_any (x := ⟨kd, p0, NE, .slice none 0 0, .slice b2 m2 d2, [], x.pl⟩) X (hA.out X hX) hQ.out
    have hR4 : Hid (∀ X, Below w3.heap.size w3 X → Calls Try.prog 14 #[.agg #[.int .u8 kd, .int .u64 p0, .int .u64 NE, .slice none 0 0, .slice b2 m2 d2]] X fun e w' => e = .returned (.bool (rightB ⟨kd, p0, NE, .slice none 0 0, .slice b2 m2 d2, [], x.pl⟩)) ∧ Below X.heap.size X w') := fun X hX => rightR6_any (x := ⟨kd, p0, NE, .slice none 0 0, .slice b2 m2 d2, [], x.pl⟩) X (hA.out X hX) hQ.out
    generalize rightB ⟨kd, p0, NE, .slice none 0 0, .slice b2 m2 d2, [], x.pl⟩ = R at *
    clear hQ hA hR1 hR2 hok hrf hx hMF hk1 hpv hAC
    go_upto_region 10 with fail
    (try rw [hNE])
    have hZ : (((w5.setCell ⟨w3.heap.size, 0, none⟩ (.int .u8 kd)).setCell ⟨w3.heap.size, 2, none⟩ (.int .u64 NE)).setCell ⟨w3.heap.size, 3, none⟩ (.slice none 0 0)).heap[w3.heap.size]? = some (.cells #[.int .u8 kd, .int .u64 p0, .int .u64 NE, .slice none 0 0, .slice b2 m2 d2] 26 (0, 0)) := by rw [block_set _ (block_set _ (block_set _ hB5))]; rfl
    have hZb : Below w3.heap.size w3 (((w5.setCell ⟨w3.heap.size, 0, none⟩ (.int .u8 kd)).setCell ⟨w3.heap.size, 2, none⟩ (.int .u64 NE)).setCell ⟨w3.heap.size, 3, none⟩ (.slice none 0 0)) := by (repeat (first | (with_reducible exact Below.refl _ _) | (with_reducible assumption) | (with_reducible apply bd) | (with_reducible apply ba) | (with_reducible refine bp ?_ (by first | omega | (simp [pad_size]; done) | (simp [pad_size]; omega)) _ _) | (with_reducible refine bs ?_ (by first | omega | (simp [pad_size]; done) | (simp [pad_size]; omega)) _) | (with_reducible refine bt ?_ (by assumption))))
    generalize (((w5.setCell ⟨w3.heap.size, 0, none⟩ (.int .u8 kd)).setCell ⟨w3.heap.size, 2, none⟩ (.int .u64 NE)).setCell ⟨w3.heap.size, 3, none⟩ (.slice none 0 0)) = Z at *
    have hkz : Hid (∀ X, Below Z.heap.size Z X → X.cell? ⟨w3.heap.size, 0, none⟩ = some (.int .u8 kd) ∧ X.cell? ⟨w3.heap.size, 1, none⟩ = some (.int .u64 p0) ∧ X.cell? ⟨w3.heap.size, 2, none⟩ = some (.int .u64 NE) ∧ X.cell? ⟨w3.heap.size, 3, none⟩ = some (.slice none 0 0) ∧ X.cell? ⟨w3.heap.size, 4, none⟩ = some (.slice b2 m2 d2)) := fun X hX => by
      have q1 := (cells_of_block ((hX.block w3.heap.size (Array.getElem?_eq_some_iff.1 hZ).1).trans hZ)).1
      exact ⟨q1 0, q1 1, q1 2, q1 3, q1 4⟩
    have hbb : Hid (∀ X, Below Z.heap.size Z X → Below w3.heap.size w3 X) := fun X hX => bt hZb hX
    clear hZ
    go_region_held2 (fun X => X.cell? ⟨w3.heap.size, 0, none⟩ = some (.int .u8 kd) ∧ X.cell? ⟨w3.heap.size, 1, none⟩ = some (.int .u64 p0) ∧ X.cell? ⟨w3.heap.size, 2, none⟩ = some (.int .u64 NE) ∧ X.cell? ⟨w3.heap.size, 3, none⟩ = some (.slice none 0 0) ∧ X.cell? ⟨w3.heap.size, 4, none⟩ = some (.slice b2 m2 d2)) (exact hkz.out _ (by (repeat (first | (with_reducible exact Below.refl _ _) | (with_reducible assumption) | (with_reducible apply bd) | (with_reducible apply ba) | (with_reducible refine bp ?_ (by first | omega | (simp [pad_size]; done) | (simp [pad_size]; omega)) _ _) | (with_reducible refine bs ?_ (by first | omega | (simp [pad_size]; done) | (simp [pad_size]; omega)) _) | (with_reducible refine bt ?_ (by assumption)))))) (first
      | (go_at_call 13; with_reducible refine (hR3.out _ (hbb.out _ (by (repeat (first | (with_reducible exact Below.refl _ _) | (with_reducible assumption) | (with_reducible apply bd) | (with_reducible apply ba) | (with_reducible refine bp ?_ (by first | omega | (simp [pad_size]; done) | (simp [pad_size]; omega)) _ _) | (with_reducible refine bs ?_ (by first | omega | (simp [pad_size]; done) | (simp [pad_size]; omega)) _) | (with_reducible refine bt ?_ (by assumption))))))).mono ?_; rintro e wq ⟨rfl, hb⟩; obtain ⟨pm1, pg1, pr1, phm1, rfl⟩ := pad_of hb; clear hb; simp [pad_size] at phm1)
      | (go_at_call 14; with_reducible refine (hR4.out _ (hbb.out _ (by (repeat (first | (with_reducible exact Below.refl _ _) | (with_reducible assumption) | (with_reducible apply bd) | (with_reducible apply ba) | (with_reducible refine bp ?_ (by first | omega | (simp [pad_size]; done) | (simp [pad_size]; omega)) _ _) | (with_reducible refine bs ?_ (by first | omega | (simp [pad_size]; done) | (simp [pad_size]; omega)) _) | (with_reducible refine bt ?_ (by assumption))))))).mono ?_; rintro e wq ⟨rfl, hb⟩; obtain ⟨pm2, pg2, pr2, phm2, rfl⟩ := pad_of hb; clear hb; simp [pad_size] at phm2))
    all_goals go_wp2_with fail
    all_goals go_ret
    all_goals exact ⟨by simp, bt hW3 (hbb.out _ (by (repeat (first | (with_reducible exact Below.refl _ _) | (with_reducible assumption) | (with_reducible apply bd) | (with_reducible apply ba) | (with_reducible refine bp ?_ (by first | omega | (simp [pad_size]; done) | (simp [pad_size]; omega)) _ _) | (with_reducible refine bs ?_ (by first | omega | (simp [pad_size]; done) | (simp [pad_size]; omega)) _) | (with_reducible refine bt ?_ (by assumption))))))⟩

theorem planMade_own : ownKnob Try.prog.godebug = none := by kernel_rfl
theorem planMade_laid : laidOutB Try.prog = true := by kernel_rfl

set_option maxRecDepth 100000 in
theorem planMade_lifted (os : Os) (started : os.Started) (H : Type) (enc : TypeId × Value → H) :
    ReturnsInHanded {} Try.checked os 4 .any (Rows.planMadeSpec.pre6 enc Try.prog Try.f4 Rows.planMadeRow.domain false) (Rows.planMadeSpec.post enc Try.prog Try.f4 false true false false) := by
  refine returnsInHanded_of_change (C := Try.checked) planMade_own started (by kernel_rfl) Try.func4
    (ChangeSpec.witness6 (enc := enc) (C := Try.checked) false ⟨#[], #[.agg #[.int .u8 0, .int .u32 0, .int .u16 0, .slice none 0 0, .slice none 0 0], .int .u8 0, .int .i8 0, .bool false], []⟩ 8 (by kernel_rfl) (by kernel_rfl) (by kernel_rfl) (by kernel_rfl)) ?_
  intro W base args ds gs before hval0 hW hcnd _
  have hval : ∀ (j : Nat) t v, Try.f4.params[j]? = some t → args[j]? = some v → Value.okWide Try.prog W .any base t v := hval0
  have hW' := hW
  obtain ⟨p, q, hA0, hV, rfl, hfz, hnd⟩ := hW
  have hA : DataW.TrodAll enc Try.prog W 0 (fun _ => true) true Try.f4.params.toList args.toList ds p := hA0
  rw [Try.params4] at hA hval
  obtain ⟨v0, vs0, d0, ds0, p0, q0, hargs0, rfl, rfl, h0, r0⟩ := trodAll_cons hA
  obtain ⟨v1, vs1, d1, ds1, p1, q1, hargs1, rfl, rfl, h1, r1⟩ := trodAll_cons r0
  obtain ⟨v2, vs2, d2, ds2, p2, q2, hargs2, rfl, rfl, h2, r2⟩ := trodAll_cons r1
  obtain ⟨v3, vs3, d3, ds3, p3, q3, hargs3, rfl, rfl, h3, r3⟩ := trodAll_cons r2
  obtain ⟨rfl, rfl, rfl⟩ := trodAll_nil r3
  obtain rfl : args = #[v0, v1, v2, v3] := by cases args; simp_all
  obtain ⟨rfl, rfl⟩ := trodVars_none hV
  have k0 := h0
  have lt0 : ∀ x ∈ p0, x.block < W.heap.size := by obtain ⟨m, hm⟩ := k0; exact DataW.trod_lt m _ _ _ hm
  have k1 := h1
  have lt1 : ∀ x ∈ p1, x.block < W.heap.size := by obtain ⟨m, hm⟩ := k1; exact DataW.trod_lt m _ _ _ hm
  have k2 := h2
  have lt2 : ∀ x ∈ p2, x.block < W.heap.size := by obtain ⟨m, hm⟩ := k2; exact DataW.trod_lt m _ _ _ hm
  have k3 := h3
  have lt3 : ∀ x ∈ p3, x.block < W.heap.size := by obtain ⟨m, hm⟩ := k3; exact DataW.trod_lt m _ _ _ hm
  obtain ⟨y0, rfl, hl0⟩ := made_in (hval 0 33 v0 rfl rfl) h0
  obtain ⟨n1, rfl⟩ := okWide_int Try.underlying5 (hval 1 5 v1 rfl rfl)
  obtain ⟨fuel1, hf1⟩ := h1
  simp only [Value.cells] at hf1
  obtain ⟨n2, rfl⟩ := okWide_int Try.underlying34 (hval 2 34 v2 rfl rfl)
  obtain ⟨b3, rfl⟩ := okWide_bool Try.underlying4 (hval 3 4 v3 rfl rfl)
  clear hA0 hval0
  have walk : Calls Try.prog 4 _ W fun e w' => e = .returned (.bool true) ∧ Below W.heap.size W w' := planMade_any y0 n1 n2 b3 hl0 (u8_in hf1)
  refine walk.mono fun e W' ⟨he, bel⟩ => ?_
  subst he
  exact ⟨_, rfl, _, _, _, [], _, [], hW', trodAll_mk1 (shut_bool Try.underlying4 _), trodAll_cons_mk (Below.trod planMade_laid (by kernel_rfl) (of_decide_eq_true (by kernel_rfl)) k0 bel lt0) (trodAll_cons_mk (Below.trod planMade_laid (by kernel_rfl) (of_decide_eq_true (by kernel_rfl)) k1 bel lt1) (trodAll_cons_mk (Below.trod planMade_laid (by kernel_rfl) (of_decide_eq_true (by kernel_rfl)) k2 bel lt2) (trodAll_cons_mk (Below.trod planMade_laid (by kernel_rfl) (of_decide_eq_true (by kernel_rfl)) k3 bel lt3) (trodAll_mk0)))), rfl, bel.frame _, fun h => by cases h⟩

theorem planMade_holds : Rows.PlanMadeSaid :=
  OpenClaim.holds_of_wide 4 Try.f4 rfl rfl rfl rfl rfl rfl rfl ⟨rfl, rfl, rfl, rfl, rfl⟩ rfl rfl rfl rfl rfl (by kernel_rfl) Try.func4 (by kernel_rfl)
    (of_decide_eq_true (by kernel_rfl)) (by unfold Func.isWrapper; first | (rw [if_pos (by decide +kernel)]; kernel_rfl) | (rw [if_neg (by decide +kernel)]; exact ⟨rfl, rfl⟩))
    (fun os started H enc _ => planMade_lifted os started H enc)
#print axioms planMade_holds
end Go.Proofs.Ytmfnfnegnfpkiaa
