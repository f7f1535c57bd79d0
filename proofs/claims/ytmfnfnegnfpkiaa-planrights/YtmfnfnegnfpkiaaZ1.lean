
/- num.MulDiv. -/
import Derived.Test.YtmfnfnegnfpkiaaY2
import Derived.Test.YtmfnfnegnfpkiaaH
import Derived.Deep.RegionWith
set_option linter.unusedSimpArgs false
set_option linter.unusedVariables false
set_option maxRecDepth 20000
namespace Go.Proofs.Ytmfnfnegnfpkiaa
open Go.RowKit

def upI (up : Bool) (q r : Int) : Int := if up = true ∧ r ≠ 0 then q + 1 else q
def MdS (a b c : Int) (up : Bool) (z e : Int) : Prop := (c = 0 ∧ e = 1 ∧ z = 0) ∨
  (0 < c ∧ ∃ q r : Int, a * b = q * c + r ∧ 0 ≤ r ∧ r < c ∧ 0 ≤ q ∧ ((upI up q r < 115792089237316195423570985008687907853269984665640564039457584007913129639936 ∧ e = 0 ∧ z = upI up q r) ∨ (115792089237316195423570985008687907853269984665640564039457584007913129639936 ≤ upI up q r ∧ e = 2 ∧ z = 0)))

set_option maxHeartbeats 2000000 in
theorem muldiv_zero (x0 x1 x2 x3 y0 y1 y2 y3 c0 c1 c2 c3 : Int) (up : Bool) (hq : eq4 c0 c1 c2 c3 0 0 0 0 = true) (w : World) :
    Calls Try.prog 79 #[.agg #[.int .u64 x0, .int .u64 x1, .int .u64 x2, .int .u64 x3], .agg #[.int .u64 y0, .int .u64 y1, .int .u64 y2, .int .u64 y3], .agg #[.int .u64 c0, .int .u64 c1, .int .u64 c2, .int .u64 c3], .bool up] w fun e w' =>
      e = .returned (.tuple #[.agg #[.int .u64 0, .int .u64 0, .int .u64 0, .int .u64 0], .int .i64 1]) ∧ Below w.heap.size w w' := by
  have heq := eq_num
  go_enter Try.func79, Try.ntmps79
  go_wp2
  refine bodyPost_ret (v := .tuple #[.agg #[.int .u64 0, .int .u64 0, .int .u64 0, .int .u64 0], .int .i64 1]) (by simp only [results, Try.results79]; go_simp) rfl ⟨rfl, ?_⟩
  (repeat (first | (with_reducible exact Below.refl _ _) | (with_reducible assumption) | (with_reducible apply bd) | (with_reducible apply ba) | (with_reducible refine bp ?_ (by first | omega | (simp [pad_size]; done) | (simp [pad_size]; omega)) _ _) | (with_reducible refine bs ?_ (by first | omega | (simp [pad_size]; done) | (simp [pad_size]; omega)) _) | (with_reducible refine bt ?_ (by assumption))))

theorem md_over {a b c h l : Int} {up : Bool} (hc : 0 < c) (ha : 0 ≤ a) (hb : 0 ≤ b) (hl : 0 ≤ l) (e : Hid (a * b = h * 115792089237316195423570985008687907853269984665640564039457584007913129639936 + l)) (hh : c ≤ h) : MdS a b c up 0 2 := by
  have e := e.out
  have h1 := Int.emod_add_mul_ediv (a * b) c
  have h2 := Int.emod_nonneg (a * b) (show c ≠ 0 by omega)
  have h3 := Int.emod_lt_of_pos (a * b) hc
  have hp : 0 ≤ a * b := Int.mul_nonneg ha hb
  have h4 : 0 ≤ a * b / c := Int.ediv_nonneg hp (by omega)
  have h5 : 115792089237316195423570985008687907853269984665640564039457584007913129639936 ≤ a * b / c := by
    apply (Int.le_ediv_iff_mul_le hc).2
    rw [e]
    omega
  refine .inr ⟨hc, a * b / c, a * b % c, by rw [Int.mul_comm (a * b / c) c]; omega, h2, h3, h4, .inr ⟨?_, rfl, rfl⟩⟩
  unfold upI; split <;> omega

theorem cmp_cases (a b : Int) : (a < b ∧ ¬ 0 ≤ cmpI a b) ∨ (b ≤ a ∧ 0 ≤ cmpI a b) := by
  unfold cmpI
  by_cases h : a < b
  · left; simp [h]
  · right; refine ⟨by omega, ?_⟩
    rw [if_neg h]; split <;> omega

theorem md_done {a b c h l q r : Int} {up : Bool} (hc : 0 < c) (e : Hid (a * b = h * 115792089237316195423570985008687907853269984665640564039457584007913129639936 + l)) (e2 : Hid (h * 115792089237316195423570985008687907853269984665640564039457584007913129639936 + l = q * c + r)) (h0 : 0 ≤ r) (h1 : r < c) (hq0 : 0 ≤ q) (hq1 : q < 115792089237316195423570985008687907853269984665640564039457584007913129639936) (hz : upI up q r = q) :
    MdS a b c up q 0 := by
  refine .inr ⟨hc, q, r, e.out.trans e2.out, h0, h1, hq0, .inl ⟨by rw [hz]; exact hq1, rfl, hz.symm⟩⟩

theorem md_up {a b c h l q r z e' : Int} (hc : 0 < c) (e : Hid (a * b = h * 115792089237316195423570985008687907853269984665640564039457584007913129639936 + l)) (e2 : Hid (h * 115792089237316195423570985008687907853269984665640564039457584007913129639936 + l = q * c + r)) (h0 : 0 ≤ r) (h1 : r < c) (hr : r ≠ 0) (hq0 : 0 ≤ q) (hs : AddS q 1 z e') :
    MdS a b c true z e' := by
  have hu : upI true q r = q + 1 := by simp [upI, hr]
  refine .inr ⟨hc, q, r, e.out.trans e2.out, h0, h1, hq0, ?_⟩
  rw [hu]
  exact hs

set_option maxHeartbeats 4000000 in
theorem muldiv_pos (x0 x1 x2 x3 y0 y1 y2 y3 c0 c1 c2 c3 : Int) (up : Bool) (hx : Lim x0 x1 x2 x3) (hy : Lim y0 y1 y2 y3) (hc : Lim c0 c1 c2 c3) (hq : eq4 c0 c1 c2 c3 0 0 0 0 = false) (w : World) :
    Calls Try.prog 79 #[.agg #[.int .u64 x0, .int .u64 x1, .int .u64 x2, .int .u64 x3], .agg #[.int .u64 y0, .int .u64 y1, .int .u64 y2, .int .u64 y3], .agg #[.int .u64 c0, .int .u64 c1, .int .u64 c2, .int .u64 c3], .bool up] w fun e w' =>
      ∃ z0 z1 z2 z3 e' : Int, e = .returned (.tuple #[.agg #[.int .u64 z0, .int .u64 z1, .int .u64 z2, .int .u64 z3], .int .i64 e']) ∧ Lim z0 z1 z2 z3 ∧ MdS (val x0 x1 x2 x3) (val y0 y1 y2 y3) (val c0 c1 c2 c3) up (val z0 z1 z2 z3) e' ∧ Below w.heap.size w w' := by
  have heq := eq_num
  have hpad := pads
  have hcp : 0 < val c0 c1 c2 c3 := by
    have h1 := val_lo hc
    rw [eq4_zero hc, decide_eq_false_iff_not] at hq; omega
  go_enter Try.func79, Try.ntmps79
  have hnot : ∀ (x : Bool) (w : World), (Op.unary .not (.bool x)).run Try.prog w = .ok (.bool (!x)) w := fun _ _ => rfl
  go_wp2_with (first
    | (go_at_call 101; refine (product_any _ _ _ _ _ _ _ _ hx hy _).mono ?_; rintro e w1 ⟨h0, h1, h2, h3, l0, l1, l2, l3, rfl, hh, hl, he, hb⟩; obtain ⟨m1, g1, d1, hm1, rfl⟩ := pad_of hb; clear hb; (try simp [pad_size] at hm1); have st1_w := sz4 (n := w.heap.size) (m := m1) (by omega))
    | (go_at_call 102; refine (cmp_any h0 h1 h2 h3 c0 c1 c2 c3 hh hc _).mono ?_; rintro e w1 ⟨rfl, hb⟩; obtain ⟨m2, g2, d2, hm2, rfl⟩ := pad_of hb; clear hb; (try simp [pad_size] at hm2); have st2_w := sz4 (n := w.heap.size) (m := m2) (by omega); have st2_1 := sz2 (n := m1) (m := m2) (by omega); rcases cmp_cases (val h0 h1 h2 h3) (val c0 c1 c2 c3) with ⟨hlt, hcm⟩ | ⟨hge, hcm⟩)
    | (go_at_call 103; refine (divide_any h0 h1 h2 h3 l0 l1 l2 l3 c0 c1 c2 c3 hh hl hc hlt _).mono ?_; rintro e w1 ⟨q0, q1, q2, q3, r, rfl, hql, hr0, hr1, hqe, hb⟩; obtain ⟨m3, g3, d3, hm3, rfl⟩ := pad_of (bt (bp (Below.refl _ _) (by first | omega | (simp [pad_size]; omega)) _ _) hb); clear hb; (try simp [pad_size] at hm3); have st3_w := sz4 (n := w.heap.size) (m := m3) (by omega); have st3_1 := sz2 (n := m1) (m := m3) (by omega); clear st2_w hm2; clear st2_1; rcases (show r = 0 ∨ r ≠ 0 by omega) with rfl | hrn <;> cases up))
  · refine bodyPost_ret (v := .tuple #[.agg #[.int .u64 q0, .int .u64 q1, .int .u64 q2, .int .u64 q3], .int .i64 0]) (by simp only [results, Try.results79]; go_simp) rfl ⟨q0, q1, q2, q3, 0, rfl, hql, md_done hcp he hqe hr0 hr1 (val_lo hql) (val_hi hql) (by simp [upI]), ?_⟩
    (repeat (first | (with_reducible exact Below.refl _ _) | (with_reducible assumption) | (with_reducible apply bd) | (with_reducible apply ba) | (with_reducible refine bp ?_ (by first | omega | (simp [pad_size]; done) | (simp [pad_size]; omega)) _ _) | (with_reducible refine bs ?_ (by first | omega | (simp [pad_size]; done) | (simp [pad_size]; omega)) _) | (with_reducible refine bt ?_ (by assumption))))
  · refine bodyPost_ret (v := .tuple #[.agg #[.int .u64 q0, .int .u64 q1, .int .u64 q2, .int .u64 q3], .int .i64 0]) (by simp only [results, Try.results79]; go_simp) rfl ⟨q0, q1, q2, q3, 0, rfl, hql, md_done hcp he hqe hr0 hr1 (val_lo hql) (val_hi hql) (by simp [upI]), ?_⟩
    (repeat (first | (with_reducible exact Below.refl _ _) | (with_reducible assumption) | (with_reducible apply bd) | (with_reducible apply ba) | (with_reducible refine bp ?_ (by first | omega | (simp [pad_size]; done) | (simp [pad_size]; omega)) _ _) | (with_reducible refine bs ?_ (by first | omega | (simp [pad_size]; done) | (simp [pad_size]; omega)) _) | (with_reducible refine bt ?_ (by assumption))))
  · refine bodyPost_ret (v := .tuple #[.agg #[.int .u64 q0, .int .u64 q1, .int .u64 q2, .int .u64 q3], .int .i64 0]) (by simp only [results, Try.results79]; go_simp) rfl ⟨q0, q1, q2, q3, 0, rfl, hql, md_done hcp he hqe hr0 hr1 (val_lo hql) (val_hi hql) (by simp [upI]), ?_⟩
    (repeat (first | (with_reducible exact Below.refl _ _) | (with_reducible assumption) | (with_reducible apply bd) | (with_reducible apply ba) | (with_reducible refine bp ?_ (by first | omega | (simp [pad_size]; done) | (simp [pad_size]; omega)) _ _) | (with_reducible refine bs ?_ (by first | omega | (simp [pad_size]; done) | (simp [pad_size]; omega)) _) | (with_reducible refine bt ?_ (by assumption))))
  · have hone : Lim 1 0 0 0 := by unfold Lim; omega
    go_region_with (first
      | (go_at_call 80; refine (of_any _ _).mono ?_; rintro e w1 ⟨rfl, hb⟩; obtain ⟨m4, g4, d4, hm4, rfl⟩ := pad_of hb; clear hb; (try simp [pad_size] at hm4); have st4_w := sz4 (n := w.heap.size) (m := m4) (by omega); have st4_3 := sz1 (n := m3) (m := m4) (by omega))
      | (go_at_call 104; refine (add_any q0 q1 q2 q3 1 0 0 0 hql hone _).mono ?_; rintro e w1 ⟨z0, z1, z2, z3, e', rfl, hzl, hs, hb⟩; rw [val_of] at hs; obtain ⟨m5, g5, d5, hm5, rfl⟩ := pad_of hb; clear hb; (try simp [pad_size] at hm5); have st5_w := sz4 (n := w.heap.size) (m := m5) (by omega); have st5_3 := sz1 (n := m3) (m := m5) (by omega)))
    all_goals go_wp2
    all_goals refine bodyPost_ret (v := .tuple #[.agg #[.int .u64 z0, .int .u64 z1, .int .u64 z2, .int .u64 z3], .int .i64 e']) (by simp only [results, Try.results79]; go_simp) rfl ⟨z0, z1, z2, z3, e', rfl, hzl, md_up hcp he hqe hr0 hr1 hrn (val_lo hql) hs, ?_⟩
    all_goals (repeat (first | (with_reducible exact Below.refl _ _) | (with_reducible assumption) | (with_reducible apply bd) | (with_reducible apply ba) | (with_reducible refine bp ?_ (by first | omega | (simp [pad_size]; done) | (simp [pad_size]; omega)) _ _) | (with_reducible refine bs ?_ (by first | omega | (simp [pad_size]; done) | (simp [pad_size]; omega)) _) | (with_reducible refine bt ?_ (by assumption))))
  · refine bodyPost_ret (v := .tuple #[.agg #[.int .u64 0, .int .u64 0, .int .u64 0, .int .u64 0], .int .i64 2]) (by simp only [results, Try.results79]; go_simp) rfl ⟨0, 0, 0, 0, 2, rfl, lim_zero, by rw [val0]; exact md_over hcp (val_lo hx) (val_lo hy) (val_lo hl) he hge, ?_⟩
    (repeat (first | (with_reducible exact Below.refl _ _) | (with_reducible assumption) | (with_reducible apply bd) | (with_reducible apply ba) | (with_reducible refine bp ?_ (by first | omega | (simp [pad_size]; done) | (simp [pad_size]; omega)) _ _) | (with_reducible refine bs ?_ (by first | omega | (simp [pad_size]; done) | (simp [pad_size]; omega)) _) | (with_reducible refine bt ?_ (by assumption))))

theorem muldiv_any (x0 x1 x2 x3 y0 y1 y2 y3 c0 c1 c2 c3 : Int) (up : Bool) (hx : Lim x0 x1 x2 x3) (hy : Lim y0 y1 y2 y3) (hc : Lim c0 c1 c2 c3) (w : World) :
    Calls Try.prog 79 #[.agg #[.int .u64 x0, .int .u64 x1, .int .u64 x2, .int .u64 x3], .agg #[.int .u64 y0, .int .u64 y1, .int .u64 y2, .int .u64 y3], .agg #[.int .u64 c0, .int .u64 c1, .int .u64 c2, .int .u64 c3], .bool up] w fun e w' =>
      ∃ z0 z1 z2 z3 e' : Int, e = .returned (.tuple #[.agg #[.int .u64 z0, .int .u64 z1, .int .u64 z2, .int .u64 z3], .int .i64 e']) ∧ Lim z0 z1 z2 z3 ∧ MdS (val x0 x1 x2 x3) (val y0 y1 y2 y3) (val c0 c1 c2 c3) up (val z0 z1 z2 z3) e' ∧ Below w.heap.size w w' := by
  rcases Bool.eq_false_or_eq_true (eq4 c0 c1 c2 c3 0 0 0 0) with hq | hq
  · refine (muldiv_zero _ _ _ _ _ _ _ _ _ _ _ _ up hq w).mono ?_
    rintro e w' ⟨rfl, hb⟩
    rw [eq4_zero hc, decide_eq_true_iff] at hq
    exact ⟨0, 0, 0, 0, 1, rfl, lim_zero, .inl ⟨hq, rfl, val0⟩, hb⟩
  · exact muldiv_pos _ _ _ _ _ _ _ _ _ _ _ _ up hx hy hc hq w
end Go.Proofs.Ytmfnfnegnfpkiaa
