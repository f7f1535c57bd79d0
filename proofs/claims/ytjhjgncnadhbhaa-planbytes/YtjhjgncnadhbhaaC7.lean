
/- coins.Add, Sub, Least, Rest by purses. -/
import Derived.Test.YtjhjgncnadhbhaaC6
set_option linter.unusedSimpArgs false
set_option linter.unusedVariables false
set_option maxRecDepth 20000
namespace Go.Proofs.Ytjhjgncnadhbhaa
open Go.RowKit

/-- The coin of a denomination and a number. -/
def cnOf (d : Nat) (n : Int) : Cn := ⟨d, n % 18446744073709551616, n / 18446744073709551616 % 18446744073709551616, n / 340282366920938463463374607431768211456 % 18446744073709551616, n / 6277101735386680763835789423207666416102355444464034512896⟩
theorem cnOf_lim {d : Nat} {n : Int} (h0 : 0 ≤ n) (h1 : n < 115792089237316195423570985008687907853269984665640564039457584007913129639936) : LimC (cnOf d n) := by unfold LimC cnOf Lim; simp only; omega
theorem cnOf_vl {d : Nat} {n : Int} : vl (cnOf d n) = n := by unfold vl cnOf val; simp only; omega
theorem cn_one {x : Cn} {d : Nat} {n : Int} (hx : LimC x) (hd : x.d = d) (hv : vl x = n) : x = cnOf d n := by
  have hx' := hx
  unfold LimC Lim at hx'
  have hb := cnOf_vl (d := d) (n := n)
  have h0 : 0 ≤ n := by rw [← hv]; exact val_lo hx
  have h1 : n < 115792089237316195423570985008687907853269984665640564039457584007913129639936 := by rw [← hv]; exact val_hi hx
  obtain ⟨e0, e1, e2, e3⟩ := val_inj hx (cnOf_lim (d := d) h0 h1) (show vl x = vl (cnOf d n) by rw [hb, hv])
  cases x with | mk d' a b c e => simp only at hd e0 e1 e2 e3; rw [hd, e0, e1, e2, e3]; rfl
def opP (f : Int → Int → Int) (z y : Nat → Cn) : Nat → Cn := fun d => cnOf d (f (vl (z d)) (vl (y d)))
theorem purse_op {f : Int → Int → Int} {z y : Nat → Cn} (h : ∀ d, d < 8 → 0 ≤ f (vl (z d)) (vl (y d)) ∧ f (vl (z d)) (vl (y d)) < 115792089237316195423570985008687907853269984665640564039457584007913129639936) : Purse (opP f z y) :=
  fun d hd => ⟨cnOf_lim (h d hd).1 (h d hd).2, rfl⟩
theorem vl_lo {z : Nat → Cn} (hz : Purse z) {d : Nat} (hd : d < 8) : 0 ≤ vl (z d) ∧ vl (z d) < 115792089237316195423570985008687907853269984665640564039457584007913129639936 := ⟨val_lo (hz d hd).1, val_hi (hz d hd).1⟩
theorem lst_op {f : Int → Int → Int} {z y s : Nat → Cn} (h : ∀ d, d < 8 → LimC (s d) ∧ (s d).d = d ∧ vl (s d) = f (vl (z d)) (vl (y d))) : lst s 8 = lst (opP f z y) 8 :=
  lst_congr 8 (fun d hd => cn_one (h d hd).1 (h d hd).2.1 (h d hd).2.2)
theorem purse_rest {z y : Nat → Cn} (hz : Purse z) (hy : Purse y) : Purse (opP restI z y) := purse_op (fun d hd => by
  have h1 := vl_lo hz hd; have h2 := vl_lo hy hd; unfold restI; split <;> omega)
theorem purse_least {z y : Nat → Cn} (hz : Purse z) (hy : Purse y) : Purse (opP leastI z y) := purse_op (fun d hd => by
  have h1 := vl_lo hz hd; have h2 := vl_lo hy hd; unfold leastI; split <;> omega)
theorem purse_sum {z y : Nat → Cn} (hz : Purse z) (hy : Purse y) (h : ∀ d, d < 8 → vl (z d) + vl (y d) < 115792089237316195423570985008687907853269984665640564039457584007913129639936) : Purse (opP (· + ·) z y) := purse_op (fun d hd => by
  have h1 := vl_lo hz hd; have h2 := vl_lo hy hd; have h3 := h d hd; exact ⟨by omega, by omega⟩)

set_option maxHeartbeats 2000000 in
theorem addC_raw {va vb : Value} {z y : Nat → Cn} (hz : Purse z) (hy : Purse y) (w : World) (hA : IsCoins w va (lst z 8)) (hB : IsCoins w vb (lst y 8)) :
    Calls Try.prog 67 #[va, vb] w fun e w' =>
      (∃ (s : Nat → Cn) (v : Value), e = .returned (.tuple #[v, .int .i64 0]) ∧ (∀ d : Nat, d < 8 → LimC (s d) ∧ (s d).d = d ∧ AddS (vl (z d)) (vl (y d)) (vl (s d)) 0) ∧ IsCoins w' v (lst s 8) ∧ Below w.heap.size w w') ∨
      (∃ (k : Nat) (c z0 : Int), k < 8 ∧ c ≠ 0 ∧ AddS (vl (z k)) (vl (y k)) z0 c ∧ e = .returned (.tuple #[.slice none 0 0, .int .i64 c]) ∧ Below w.heap.size w w') := by
  have hof : ∀ (x0 x1 x2 x3 y0 y1 y2 y3 : Int) (W : World), Lim x0 x1 x2 x3 → Lim y0 y1 y2 y3 →
      Below (w.alloc (.cells #[.func (.func 88) #[] #[]] 108)).heap.size (w.alloc (.cells #[.func (.func 88) #[] #[]] 108)) W →
      Calls Try.prog 88 (#[.agg #[.int .u64 x0, .int .u64 x1, .int .u64 x2, .int .u64 x3], .agg #[.int .u64 y0, .int .u64 y1, .int .u64 y2, .int .u64 y3]] ++ #[]) W fun e w' =>
        ∃ z0 z1 z2 z3 c : Int, e = .returned (.tuple #[.agg #[.int .u64 z0, .int .u64 z1, .int .u64 z2, .int .u64 z3], .int .i64 c]) ∧ Lim z0 z1 z2 z3 ∧ AddS (val x0 x1 x2 x3) (val y0 y1 y2 y3) (val z0 z1 z2 z3) c ∧ Below W.heap.size W w' :=
    fun x0 x1 x2 x3 y0 y1 y2 y3 W hx hy _ => add_any x0 x1 x2 x3 y0 y1 y2 y3 hx hy W
  go_enter Try.func67, Try.ntmps67
  go_wp2_with (first
    | (go_at_call 68; refine (ofEachM_any _ _ rfl).mono ?_; rintro e w1 ⟨rfl, rfl⟩)
    | (go_at_call 89; refine (ofEach_any 88 #[] AddS w.heap.size _ (hA.below (by (repeat (first | (with_reducible exact Below.refl _ _) | (with_reducible assumption) | (with_reducible apply bd) | (with_reducible apply ba) | (with_reducible refine bp ?_ (by first | omega | (simp [pad_size]; done) | (simp [pad_size]; omega)) _ _) | (with_reducible refine bs ?_ (by first | omega | (simp [pad_size]; done) | (simp [pad_size]; omega)) _) | (with_reducible refine bt ?_ (by assumption)))))) (hB.below (by (repeat (first | (with_reducible exact Below.refl _ _) | (with_reducible assumption) | (with_reducible apply bd) | (with_reducible apply ba) | (with_reducible refine bp ?_ (by first | omega | (simp [pad_size]; done) | (simp [pad_size]; omega)) _ _) | (with_reducible refine bs ?_ (by first | omega | (simp [pad_size]; done) | (simp [pad_size]; omega)) _) | (with_reducible refine bt ?_ (by assumption)))))) (amt_lim hz) (amt_lim hy) (by (repeat (first | (with_reducible exact al_at (by simp [pad_size])) | (with_reducible refine Eq.trans (dr_blk _ _) ?_) | (with_reducible refine Eq.trans (al_old (by first | omega | (simp [pad_size]; done) | (simp [pad_size]; omega))) ?_) | (with_reducible refine Eq.trans (pad_block (by first | omega | (simp [pad_size]; done) | (simp [pad_size]; omega)) (by first | omega | (simp [pad_size]; done) | (simp [pad_size]; omega))) ?_) | (with_reducible assumption)))) (enters_of Try.func88 (by kernel_rfl) rfl) hof).mono ?_; clear hof; rintro e w1 (⟨s, v, rfl, hs, hown, hb⟩ | ⟨kk, c, z0, hk, hc, hS, rfl, hb⟩)))
  · go_ret2
    refine .inl ⟨s, v, rfl, fun d hd => ?_, own_coins hown (lst8 _), bt (by (repeat (first | (with_reducible exact Below.refl _ _) | (with_reducible assumption) | (with_reducible apply bd) | (with_reducible apply ba) | (with_reducible refine bp ?_ (by first | omega | (simp [pad_size]; done) | (simp [pad_size]; omega)) _ _) | (with_reducible refine bs ?_ (by first | omega | (simp [pad_size]; done) | (simp [pad_size]; omega)) _) | (with_reducible refine bt ?_ (by assumption))))) hb⟩
    have := hs d hd
    rw [amt_full hz hd, amt_full hy hd] at this
    exact this
  · go_ret2
    refine .inr ⟨kk, c, z0, hk, hc, ?_, rfl, bt (by (repeat (first | (with_reducible exact Below.refl _ _) | (with_reducible assumption) | (with_reducible apply bd) | (with_reducible apply ba) | (with_reducible refine bp ?_ (by first | omega | (simp [pad_size]; done) | (simp [pad_size]; omega)) _ _) | (with_reducible refine bs ?_ (by first | omega | (simp [pad_size]; done) | (simp [pad_size]; omega)) _) | (with_reducible refine bt ?_ (by assumption))))) hb⟩
    rw [amt_full hz hk, amt_full hy hk] at hS
    exact hS

theorem addC_fit {va vb : Value} {z y : Nat → Cn} (hz : Purse z) (hy : Purse y) (h : ∀ d, d < 8 → vl (z d) + vl (y d) < 115792089237316195423570985008687907853269984665640564039457584007913129639936) (w : World) (hA : IsCoins w va (lst z 8)) (hB : IsCoins w vb (lst y 8)) :
    Calls Try.prog 67 #[va, vb] w fun e w' => ∃ u, e = .returned (.tuple #[u, .int .i64 0]) ∧ IsCoins w' u (lst (opP (· + ·) z y) 8) ∧ Below w.heap.size w w' := by
  refine (addC_raw hz hy w hA hB).mono ?_
  rintro e w' (⟨s, v, rfl, hs, hI, hb⟩ | ⟨k, c, z0, hk, hc, hS, rfl, hb⟩)
  · refine ⟨v, rfl, ?_, hb⟩
    rw [← lst_op (s := s) (fun d hd => ⟨(hs d hd).1, (hs d hd).2.1, ?_⟩)]
    · exact hI
    · have h1 := h d hd
      rcases (hs d hd).2.2 with ⟨-, -, e⟩ | ⟨-, e, -⟩
      · exact e
      · omega
  · have h1 := h k hk
    rcases hS with ⟨-, e, -⟩ | ⟨e, -⟩ <;> omega
theorem addC_no {va vb : Value} {z y : Nat → Cn} (hz : Purse z) (hy : Purse y) (h : ∃ d, d < 8 ∧ 115792089237316195423570985008687907853269984665640564039457584007913129639936 ≤ vl (z d) + vl (y d)) (w : World) (hA : IsCoins w va (lst z 8)) (hB : IsCoins w vb (lst y 8)) :
    Calls Try.prog 67 #[va, vb] w fun e w' => e = .returned (.tuple #[.slice none 0 0, .int .i64 2]) ∧ Below w.heap.size w w' := by
  refine (addC_raw hz hy w hA hB).mono ?_
  rintro e w' (⟨s, v, rfl, hs, hI, hb⟩ | ⟨k, c, z0, hk, hc, hS, rfl, hb⟩)
  · obtain ⟨d, hd, h1⟩ := h
    rcases (hs d hd).2.2 with ⟨e, -, -⟩ | ⟨-, e, -⟩ <;> omega
  · rcases hS with ⟨-, e, -⟩ | ⟨-, rfl, -⟩
    · exact absurd e hc
    · exact ⟨rfl, hb⟩

theorem restC_any {va vb : Value} {z y : Nat → Cn} (hz : Purse z) (hy : Purse y) (w : World) (hA : IsCoins w va (lst z 8)) (hB : IsCoins w vb (lst y 8)) :
    Calls Try.prog 42 #[va, vb] w fun e w' => ∃ u, e = .returned u ∧ IsCoins w' u (lst (opP restI z y) 8) ∧ Below w.heap.size w w' := by
  refine (coinsRest_any w hA hB (amt_lim hz) (amt_lim hy)).mono ?_
  rintro e w' ⟨s, v, rfl, hs, hown, hb⟩
  refine ⟨v, rfl, ?_, hb⟩
  rw [← lst_op (s := s) (fun d hd => by have := hs d hd; rw [amt_full hz hd, amt_full hy hd] at this; exact this)]
  exact own_coins hown (lst8 _)
end Go.Proofs.Ytjhjgncnadhbhaa
