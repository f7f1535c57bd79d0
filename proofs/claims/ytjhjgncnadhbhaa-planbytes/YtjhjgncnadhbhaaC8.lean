
/- coins.Within, Same: forAll's closure, whatever question it holds. -/
import Derived.Test.YtjhjgncnadhbhaaC7
set_option linter.unusedSimpArgs false
set_option linter.unusedVariables false
set_option maxRecDepth 20000
namespace Go.Proofs.Ytjhjgncnadhbhaa
open Go.RowKit

def allB (B : Int → Int → Bool) (la lb : List Cn) : Nat → Bool
  | 0 => true
  | k + 1 => allB B la lb k && B (vl (amt la k)) (vl (amt lb k))
theorem allB_false {B : Int → Int → Bool} {la lb : List Cn} {k : Nat} (h : B (vl (amt la k)) (vl (amt lb k)) = false) : ∀ n, k < n → allB B la lb n = false
  | 0, hn => by omega
  | n + 1, hn => by
    by_cases e : k = n
    · subst e; simp [allB, h]
    · simp [allB, allB_false h n (by omega)]

set_option maxHeartbeats 2000000 in
theorem forAll_any (k : Nat) (cap : Array Value) (B : Int → Int → Bool) (pc : Nat) {va vb : Value} {la lb : List Cn} (w : World)
    (hA : IsCoins w va la) (hB : IsCoins w vb lb) (hlA : ∀ d, LimC (amt la d)) (hlB : ∀ d, LimC (amt lb d))
    (hpc : w.heap[pc]? = some (.cells #[.func (.func k) #[] cap] 122 (0, 0)))
    (henter : ∀ args w, (callFunc k args).run Try.prog w = .ok (.enter k args) w)
    (hof : ∀ (x0 x1 x2 x3 y0 y1 y2 y3 : Int) (W : World), Lim x0 x1 x2 x3 → Lim y0 y1 y2 y3 → Calls Try.prog k (#[.agg #[.int .u64 x0, .int .u64 x1, .int .u64 x2, .int .u64 x3], .agg #[.int .u64 y0, .int .u64 y1, .int .u64 y2, .int .u64 y3]] ++ cap) W fun e w' => e = .returned (.bool (B (val x0 x1 x2 x3) (val y0 y1 y2 y3))) ∧ Below W.heap.size W w') :
    Calls Try.prog 97 #[va, vb, .pointer (some ⟨pc, 0, none⟩)] w fun e w' => e = .returned (.bool (allB B la lb 8)) ∧ Below w.heap.size w w' := by
  have hpad := pads
  have hpl : pc < w.heap.size := (Array.getElem?_eq_some_iff.1 hpc).1
  go_enter Try.func97, Try.ntmps97
  go_wp2
  go_loopw [7] (fun i wr => ∃ kk : Nat, kk ≤ 8 ∧ i = .int .u8 kk ∧ Hid (allB B la lb kk = true) ∧ Below w.heap.size w wr) (fun i _ => 8 - (intOf i).toNat)
  case atStart => exact ⟨0, by omega, rfl, rfl, Below.refl _ _⟩
  case round =>
    obtain ⟨kk, hk8, rfl, hall, hBw⟩ := hrel
    by_cases hlt : kk < 8
    · have hpr : wr.heap[pc]? = some (.cells #[.func (.func k) #[] cap] 122 (0, 0)) := (hBw.block pc hpl).trans hpc
      have hpl' : pc < wr.heap.size := Nat.lt_of_lt_of_le hpl hBw.size
      obtain ⟨cp, fp⟩ := cells_of_block hpr
      have hAr : IsCoins wr va la := hA.below hBw
      have hBr : IsCoins wr vb lb := hB.below hBw
      rcases Bool.eq_false_or_eq_true (B (vl (amt la kk)) (vl (amt lb kk))) with hq | hq
      · go_upto_region 4 with fail
        go_region_held2 (fun W => W.cell? ⟨pc, 0, none⟩ = some (.func (.func k) #[] cap)) (go_simp) (first
          | (go_at_call_of 90 va; refine (amount_any _ _ (hAr.below (by (repeat (first | (with_reducible exact Below.refl _ _) | (with_reducible assumption) | (with_reducible apply bd) | (with_reducible apply ba) | (with_reducible refine bp ?_ (by first | omega | (simp [pad_size]; done) | (simp [pad_size]; omega)) _ _) | (with_reducible refine bs ?_ (by first | omega | (simp [pad_size]; done) | (simp [pad_size]; omega)) _) | (with_reducible refine bt ?_ (by assumption))))))).mono ?_; rintro e w1 ⟨rfl, hb⟩; obtain ⟨m1, g1, d1, hm1, rfl⟩ := pad_of hb; clear hb; simp [pad_size] at hm1; (have sp1 : pc < m1 := by omega))
          | (go_at_call_of 90 vb; refine (amount_any _ _ (hBr.below (by (repeat (first | (with_reducible exact Below.refl _ _) | (with_reducible assumption) | (with_reducible apply bd) | (with_reducible apply ba) | (with_reducible refine bp ?_ (by first | omega | (simp [pad_size]; done) | (simp [pad_size]; omega)) _ _) | (with_reducible refine bs ?_ (by first | omega | (simp [pad_size]; done) | (simp [pad_size]; omega)) _) | (with_reducible refine bt ?_ (by assumption))))))).mono ?_; rintro e w1 ⟨rfl, hb⟩; obtain ⟨m2, g2, d2, hm2, rfl⟩ := pad_of hb; clear hb; simp [pad_size] at hm2; (have sp2 : pc < m2 := by omega))
          | (go_at_fn k; refine (hof _ _ _ _ _ _ _ _ _ (hlA kk) (hlB kk)).mono ?_; rintro e w1 ⟨rfl, hb⟩; rw [show B (val (amt la kk).a (amt la kk).b (amt la kk).c (amt la kk).e) (val (amt lb kk).a (amt lb kk).b (amt lb kk).c (amt lb kk).e) = true from hq]; obtain ⟨m3, g3, d3, hm3, rfl⟩ := pad_of hb; clear hb; simp [pad_size] at hm3; (have sp3 : pc < m3 := by omega)))
        all_goals go_wp2
        all_goals go_roundw
        case rel => exact ⟨kk + 1, by omega, by go_num, by unfold Hid; simp [allB, hall.out, hq], by (repeat (first | (with_reducible exact Below.refl _ _) | (with_reducible assumption) | (with_reducible apply bd) | (with_reducible apply ba) | (with_reducible refine bp ?_ (by first | omega | (simp [pad_size]; done) | (simp [pad_size]; omega)) _ _) | (with_reducible refine bs ?_ (by first | omega | (simp [pad_size]; done) | (simp [pad_size]; omega)) _) | (with_reducible refine bt ?_ (by assumption))))⟩
        case measure => (simp [intOf] <;> omega)
      · go_upto_region 4 with fail
        go_region_held2 (fun W => W.cell? ⟨pc, 0, none⟩ = some (.func (.func k) #[] cap)) (go_simp) (first
          | (go_at_call_of 90 va; refine (amount_any _ _ (hAr.below (by (repeat (first | (with_reducible exact Below.refl _ _) | (with_reducible assumption) | (with_reducible apply bd) | (with_reducible apply ba) | (with_reducible refine bp ?_ (by first | omega | (simp [pad_size]; done) | (simp [pad_size]; omega)) _ _) | (with_reducible refine bs ?_ (by first | omega | (simp [pad_size]; done) | (simp [pad_size]; omega)) _) | (with_reducible refine bt ?_ (by assumption))))))).mono ?_; rintro e w1 ⟨rfl, hb⟩; obtain ⟨m1, g1, d1, hm1, rfl⟩ := pad_of hb; clear hb; simp [pad_size] at hm1; (have sp1 : pc < m1 := by omega))
          | (go_at_call_of 90 vb; refine (amount_any _ _ (hBr.below (by (repeat (first | (with_reducible exact Below.refl _ _) | (with_reducible assumption) | (with_reducible apply bd) | (with_reducible apply ba) | (with_reducible refine bp ?_ (by first | omega | (simp [pad_size]; done) | (simp [pad_size]; omega)) _ _) | (with_reducible refine bs ?_ (by first | omega | (simp [pad_size]; done) | (simp [pad_size]; omega)) _) | (with_reducible refine bt ?_ (by assumption))))))).mono ?_; rintro e w1 ⟨rfl, hb⟩; obtain ⟨m2, g2, d2, hm2, rfl⟩ := pad_of hb; clear hb; simp [pad_size] at hm2; (have sp2 : pc < m2 := by omega))
          | (go_at_fn k; refine (hof _ _ _ _ _ _ _ _ _ (hlA kk) (hlB kk)).mono ?_; rintro e w1 ⟨rfl, hb⟩; rw [show B (val (amt la kk).a (amt la kk).b (amt la kk).c (amt la kk).e) (val (amt lb kk).a (amt lb kk).b (amt lb kk).c (amt lb kk).e) = false from hq]; obtain ⟨m3, g3, d3, hm3, rfl⟩ := pad_of hb; clear hb; simp [pad_size] at hm3; (have sp3 : pc < m3 := by omega)))
        all_goals go_wp2
        all_goals go_ret
        all_goals exact ⟨ret_bool (a := false) (allB_false hq 8 hlt).symm, bt hBw (by (repeat (first | (with_reducible exact Below.refl _ _) | (with_reducible assumption) | (with_reducible apply bd) | (with_reducible apply ba) | (with_reducible refine bp ?_ (by first | omega | (simp [pad_size]; done) | (simp [pad_size]; omega)) _ _) | (with_reducible refine bs ?_ (by first | omega | (simp [pad_size]; done) | (simp [pad_size]; omega)) _) | (with_reducible refine bt ?_ (by assumption)))))⟩
    · have hk : kk = 8 := by omega
      subst hk
      go_wp2
      go_ret
      exact ⟨ret_bool (a := true) hall.out.symm, hBw⟩

set_option maxHeartbeats 400000 in
theorem forAllM_any (f : Value) (w : World) (hf : f.oneCell' = true) :
    Calls Try.prog 83 #[f] w fun e w' => e = .returned (.func (.func 97) #[] #[.pointer (some ⟨w.heap.size, 0, none⟩)]) ∧ w' = w.alloc (.cells #[f] 122) := by
  have hmf : ∀ (fn : Fn) (first cap : Array Value) (w : World), (Instr.makeFunc fn first cap).run Try.prog w = .ok (.func fn first cap) w := fun _ _ _ _ => rfl
  go_enter Try.func83, Try.ntmps83
  go_wp2
  go_ret
  exact ⟨rfl, rfl⟩

def leB (x y : Int) : Bool := decide (x ≤ y)
def eqB (x y : Int) : Bool := decide (x = y)
set_option maxHeartbeats 400000 in
theorem same1_any (x0 x1 x2 x3 y0 y1 y2 y3 : Int) (hx : Lim x0 x1 x2 x3) (hy : Lim y0 y1 y2 y3) (w : World) :
    Calls Try.prog 84 #[.agg #[.int .u64 x0, .int .u64 x1, .int .u64 x2, .int .u64 x3], .agg #[.int .u64 y0, .int .u64 y1, .int .u64 y2, .int .u64 y3]] w fun e w' => e = .returned (.bool (eqB (val x0 x1 x2 x3) (val y0 y1 y2 y3))) ∧ Below w.heap.size w w' := by
  have heq := eq_num
  go_enter Try.func84, Try.ntmps84
  go_wp2
  go_ret
  exact ⟨ret_bool (eq4_val hx hy), by (repeat (first | (with_reducible exact Below.refl _ _) | (with_reducible assumption) | (with_reducible apply bd) | (with_reducible apply ba) | (with_reducible refine bp ?_ (by first | omega | (simp [pad_size]; done) | (simp [pad_size]; omega)) _ _) | (with_reducible refine bs ?_ (by first | omega | (simp [pad_size]; done) | (simp [pad_size]; omega)) _) | (with_reducible refine bt ?_ (by assumption))))⟩

theorem allB_full {B : Int → Int → Bool} {z y : Nat → Cn} (hz : Purse z) (hy : Purse y) (h : ∀ d, d < 8 → B (vl (z d)) (vl (y d)) = true) : ∀ k, k ≤ 8 → allB B (lst z 8) (lst y 8) k = true
  | 0, _ => rfl
  | k + 1, hk => by
    simp only [allB]
    rw [allB_full hz hy h k (by omega), amt_full hz (by omega), amt_full hy (by omega), h k (by omega)]
    rfl
theorem allB_not {B : Int → Int → Bool} {z y : Nat → Cn} (hz : Purse z) (hy : Purse y) (h : ∃ d, d < 8 ∧ B (vl (z d)) (vl (y d)) = false) : allB B (lst z 8) (lst y 8) 8 = false := by
  obtain ⟨d, hd, hf⟩ := h
  refine allB_false (k := d) ?_ 8 hd
  rw [amt_full hz hd, amt_full hy hd]; exact hf

set_option maxHeartbeats 1000000 in
theorem sameP_raw {va vb : Value} {z y : Nat → Cn} (hz : Purse z) (hy : Purse y) (w : World) (hA : IsCoins w va (lst z 8)) (hB : IsCoins w vb (lst y 8)) :
    Calls Try.prog 63 #[va, vb] w fun e w' => e = .returned (.bool (allB eqB (lst z 8) (lst y 8) 8)) ∧ Below w.heap.size w w' := by
  go_enter Try.func63, Try.ntmps63
  go_wp2_with (first
    | (go_at_call 83; refine (forAllM_any _ _ rfl).mono ?_; rintro e w1 ⟨rfl, rfl⟩)
    | (go_at_call 97; refine (forAll_any 84 #[] eqB w.heap.size _ (hA.below (by (repeat (first | (with_reducible exact Below.refl _ _) | (with_reducible assumption) | (with_reducible apply bd) | (with_reducible apply ba) | (with_reducible refine bp ?_ (by first | omega | (simp [pad_size]; done) | (simp [pad_size]; omega)) _ _) | (with_reducible refine bs ?_ (by first | omega | (simp [pad_size]; done) | (simp [pad_size]; omega)) _) | (with_reducible refine bt ?_ (by assumption)))))) (hB.below (by (repeat (first | (with_reducible exact Below.refl _ _) | (with_reducible assumption) | (with_reducible apply bd) | (with_reducible apply ba) | (with_reducible refine bp ?_ (by first | omega | (simp [pad_size]; done) | (simp [pad_size]; omega)) _ _) | (with_reducible refine bs ?_ (by first | omega | (simp [pad_size]; done) | (simp [pad_size]; omega)) _) | (with_reducible refine bt ?_ (by assumption)))))) (amt_lim hz) (amt_lim hy) (by (repeat (first | (with_reducible exact al_at (by simp [pad_size])) | (with_reducible refine Eq.trans (dr_blk _ _) ?_) | (with_reducible refine Eq.trans (al_old (by first | omega | (simp [pad_size]; done) | (simp [pad_size]; omega))) ?_) | (with_reducible refine Eq.trans (pad_block (by first | omega | (simp [pad_size]; done) | (simp [pad_size]; omega)) (by first | omega | (simp [pad_size]; done) | (simp [pad_size]; omega))) ?_) | (with_reducible assumption)))) (enters_of Try.func84 (by kernel_rfl) rfl) (fun x0 x1 x2 x3 y0 y1 y2 y3 W hx hy => same1_any x0 x1 x2 x3 y0 y1 y2 y3 hx hy W)).mono ?_; rintro e w1 ⟨rfl, hb⟩))
  go_ret
  exact ⟨rfl, bt (by (repeat (first | (with_reducible exact Below.refl _ _) | (with_reducible assumption) | (with_reducible apply bd) | (with_reducible apply ba) | (with_reducible refine bp ?_ (by first | omega | (simp [pad_size]; done) | (simp [pad_size]; omega)) _ _) | (with_reducible refine bs ?_ (by first | omega | (simp [pad_size]; done) | (simp [pad_size]; omega)) _) | (with_reducible refine bt ?_ (by assumption))))) hb⟩
theorem sameP_yes {va vb : Value} {z y : Nat → Cn} (hz : Purse z) (hy : Purse y) (h : ∀ d, d < 8 → vl (z d) = vl (y d)) (w : World) (hA : IsCoins w va (lst z 8)) (hB : IsCoins w vb (lst y 8)) :
    Calls Try.prog 63 #[va, vb] w fun e w' => e = .returned (.bool true) ∧ Below w.heap.size w w' := by
  have := sameP_raw hz hy w hA hB
  rwa [allB_full hz hy (fun d hd => decide_eq_true (h d hd)) 8 (Nat.le_refl _)] at this
end Go.Proofs.Ytjhjgncnadhbhaa
