
/- The law GaugeSums of some points. -/
import Derived.Test.YtjildnmcjggfaaaGS
set_option linter.unusedSimpArgs false
set_option linter.unusedVariables false
namespace Go.Proofs.Ytjildnmcjggfaaa
open Go.RowKit
set_option maxRecDepth 100000 in
set_option maxHeartbeats 4000000 in
theorem gaugeSums_cons {W : World} (a : Option Addr) (len cap : Nat) (t : Tw8) (l : List Tw8) (hlen : len ≤ 9223372036854775807) (h : TwosIn W a len (t :: l)) : Calls Try.prog 7 #[.slice a len cap] W fun e w' => e = .returned (.bool true) ∧ Below W.heap.size W w' := by
  have hpad := pads
  by_cases hbig : 50 < len
  · have hdl : decide ((50 : Int) < (len : Int)) = true := decide_eq_true (by omega)
    go_enter Try.func7, Try.ntmps7
    go_wp2_with (go_at_call 11; with_reducible refine (says_turns.at _).mono ?_; rintro e w' ⟨rfl, hb⟩; obtain ⟨m1, g1, d1, hm1, rfl⟩ := pad_of hb; clear hb; (try simp [pad_size] at hm1))
    go_ret
    exact ⟨rfl, by (repeat (first | (with_reducible exact Below.refl _ _) | (with_reducible assumption) | (with_reducible apply bd) | (with_reducible apply ba) | (with_reducible refine bp ?_ (by first | omega | (simp [pad_size]; done) | (simp [pad_size]; omega)) _ _) | (with_reducible refine bs ?_ (by first | omega | (simp [pad_size]; done) | (simp [pad_size]; omega)) _) | (with_reducible refine bt ?_ (by assumption))))⟩
  · have hdl : decide ((50 : Int) < (len : Int)) = false := decide_eq_false (by omega)
    have hok := h.ok
    have hll := h.ln
    go_enter Try.func7, Try.ntmps7
    go_upto_region 4 with (go_at_call 18; with_reducible refine (points_any h (by omega)).mono ?_; rintro e w1 ⟨p, q, rfl, hJ⟩)
    have ht := hok t (by simp)
    have hl2 : ∀ y ∈ l.map ptO, PsP y := by
      intro y hy
      obtain ⟨z, hz, rfl⟩ := List.mem_map.1 hy
      exact ptO_ps (hok z (by simp [hz]))
    have hx := ptO_ps ht
    have hs0 := sum0_cons ht (l.map ptO)
    have hlm : (l.map ptO).length ≤ 1000 := by simp at hll ⊢; omega
    simp only [List.map_cons] at hJ
    generalize ptO t = x at *
    generalize l.map ptO = L at *
    obtain ⟨g, c, g2, c2, rfl, rfl, hcap, hg, hg2, hcp, hcq⟩ := pj_rows hJ
    have hall : ∀ y ∈ x :: L, PsP y := by
      intro y hy
      rcases List.mem_cons.1 hy with rfl | hy
      · exact hx
      · exact hl2 y hy
    obtain ⟨s1, s2⟩ : PsP (sumP x L) := sumP_ps hx hl2
    have hR : Hid (∀ X : World, Below w1.heap.size w1 X → Calls Try.prog 19 #[.slice (some ⟨g2, 0, none⟩) (L.length + 1) c2] X fun e w' => e = .returned (.agg #[.float .f64 (sumP x L).1, .float .f64 (sumP x L).2]) ∧ Below X.heap.size X w') := by
      intro X hX
      have := sumR_any (W := X) (cap := c2) (g := g2) (l := x :: L) (n := L.length + 1) (a := some ⟨g2, 0, none⟩) rfl (by omega) (.inr ⟨rfl, Nat.lt_of_lt_of_le hg2 hX.size⟩) (fun i y hy => ⟨(hX.cell (p := ⟨g2, i * 2, none⟩) hg2).trans (hcq i y hy).1, (hX.cell (p := ⟨g2, i * 2 + 1, none⟩) hg2).trans (hcq i y hy).2⟩) hall
      rw [hs0] at this
      exact this
    have hS : Hid (∀ X : World, Below w1.heap.size w1 X → Calls Try.prog 20 #[.slice (some ⟨g, 0, none⟩) (L.length + 1) c] X fun e w' => e = .returned (.complex .f64 (sumP x L).1 (sumP x L).2) ∧ w' = X) := by
      intro X hX
      refine sum_any X g 0 c L.length x L rfl (by omega) (by omega) ?_ ((hX.cell (p := ⟨g, 0, none⟩) hg).trans (hcp 0 x rfl)) (fun i y hy => ?_) hx hl2
      · omega
      · rw [show 0 + 1 + i = i + 1 by omega]
        exact (hX.cell (p := ⟨g, i + 1, none⟩) hg).trans (hcp (i + 1) y (by simpa using hy))
    have hS1 : Hid (∀ X : World, Below w1.heap.size w1 X → Calls Try.prog 20 #[.slice (some ⟨g, 0, none⟩) 1 c] X fun e w' => e = .returned (.complex .f64 x.1 x.2) ∧ w' = X) := by
      intro X hX
      refine sum_any X g 0 c 0 x [] rfl (by omega) (by omega) ?_ ((hX.cell (p := ⟨g, 0, none⟩) hg).trans (hcp 0 x rfl)) (fun i y hy => by simp at hy) hx (by simp)
      omega
    have hM := same_point (ps_eq s1) (ps_eq s2)
    have hx1 := ps_eq hx.1
    have hx2 := ps_eq hx.2
    have hbJ := hJ.below
    have hp0 := hcp 0 x rfl
    obtain ⟨x1, x2⟩ := x
    simp only at hx1 hx2 hp0
    have hne : (((L.length + 1 : Nat) : Int) == 0) = false := by simp; omega
    have hne2 : ((L.length : Int) + 1 == 0) = false := by simp; omega
    have hc1 : (1 : Int) ≤ (c : Int) := by omega
    have hc2 : (0 : Int) < (L.length : Int) + 1 := by omega
    have hK : Hid (∀ X : World, Below w1.heap.size w1 X → X.cell? ⟨g, 0, none⟩ = some (.complex .f64 x1 x2)) := fun X hX => (hX.cell (p := ⟨g, 0, none⟩) hg).trans hp0
    clear h hJ hcp hcq hall hl2 hx s1 s2 hs0 ht hok
    generalize (sumP (x1, x2) L).1 = s1 at *
    generalize (sumP (x1, x2) L).2 = s2 at *
    go_region_held2 (fun X => X.cell? ⟨g, 0, none⟩ = some (.complex .f64 x1 x2)) (exact hK.out _ (by (repeat (first | (with_reducible exact Below.refl _ _) | (with_reducible assumption) | (with_reducible apply bd) | (with_reducible apply ba) | (with_reducible refine bp ?_ (by first | omega | (simp [pad_size]; done) | (simp [pad_size]; omega)) _ _) | (with_reducible refine bs ?_ (by first | omega | (simp [pad_size]; done) | (simp [pad_size]; omega)) _) | (with_reducible refine bt ?_ (by assumption)))))) (first
      | (go_at_call 11; with_reducible refine (says_turns.at _).mono ?_; rintro e w' ⟨rfl, hb⟩; obtain ⟨m1, g1, d1, hm1, rfl⟩ := pad_of hb; clear hb; (try simp [pad_size] at hm1))
      | (go_at_call 19; with_reducible refine (hR.out _ (by (repeat (first | (with_reducible exact Below.refl _ _) | (with_reducible assumption) | (with_reducible apply bd) | (with_reducible apply ba) | (with_reducible refine bp ?_ (by first | omega | (simp [pad_size]; done) | (simp [pad_size]; omega)) _ _) | (with_reducible refine bs ?_ (by first | omega | (simp [pad_size]; done) | (simp [pad_size]; omega)) _) | (with_reducible refine bt ?_ (by assumption)))))).mono ?_; rintro e w' ⟨rfl, hb⟩; obtain ⟨m2, g3, d2, hm2, rfl⟩ := pad_of hb; clear hb; (try simp [pad_size] at hm2))
      | (go_at_call 20; with_reducible refine (hS.out _ (by (repeat (first | (with_reducible exact Below.refl _ _) | (with_reducible assumption) | (with_reducible apply bd) | (with_reducible apply ba) | (with_reducible refine bp ?_ (by first | omega | (simp [pad_size]; done) | (simp [pad_size]; omega)) _ _) | (with_reducible refine bs ?_ (by first | omega | (simp [pad_size]; done) | (simp [pad_size]; omega)) _) | (with_reducible refine bt ?_ (by assumption)))))).mono ?_; rintro e w' ⟨rfl, rfl⟩)
      | (go_at_call 20; with_reducible refine (hS1.out _ (by (repeat (first | (with_reducible exact Below.refl _ _) | (with_reducible assumption) | (with_reducible apply bd) | (with_reducible apply ba) | (with_reducible refine bp ?_ (by first | omega | (simp [pad_size]; done) | (simp [pad_size]; omega)) _ _) | (with_reducible refine bs ?_ (by first | omega | (simp [pad_size]; done) | (simp [pad_size]; omega)) _) | (with_reducible refine bt ?_ (by assumption)))))).mono ?_; rintro e w' ⟨rfl, rfl⟩)
      | (go_at_call 16; with_reducible refine (hM _).mono ?_; rintro e w' ⟨rfl, hb⟩; obtain ⟨m3, g3', d3, hm3, rfl⟩ := pad_of hb; clear hb; (try simp [pad_size] at hm3)))
    all_goals go_wp2
    all_goals go_ret
    all_goals exact ⟨rfl, bt hbJ (by (repeat (first | (with_reducible exact Below.refl _ _) | (with_reducible assumption) | (with_reducible apply bd) | (with_reducible apply ba) | (with_reducible refine bp ?_ (by first | omega | (simp [pad_size]; done) | (simp [pad_size]; omega)) _ _) | (with_reducible refine bs ?_ (by first | omega | (simp [pad_size]; done) | (simp [pad_size]; omega)) _) | (with_reducible refine bt ?_ (by assumption)))))⟩

end Go.Proofs.Ytjildnmcjggfaaa
