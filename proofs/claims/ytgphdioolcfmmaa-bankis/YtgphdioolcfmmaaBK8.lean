
/- bank: the document's example. -/
import Derived.Test.YtgphdioolcfmmaaBK7
import Derived.Test.YtgphdioolcfmmaaG
set_option linter.unusedSimpArgs false
set_option linter.unusedVariables false
set_option maxRecDepth 20000
namespace Go.Proofs.Ytgphdioolcfmmaa
open Go.RowKit

def c1 (n : Int) : Cn := ⟨0, n, 0, 0, 0⟩
def y1 (n : Int) : Nat → Cn := fun d => amt [c1 n] d
theorem coin_blk {X : World} {g : Nat} {x : Cn} (h : X.heap[g]? = some (.cells #[.int .u8 x.d, .int .u64 x.a, .int .u64 x.b, .int .u64 x.c, .int .u64 x.e] 65 (0, 0))) : IsCoins X (.slice (some ⟨g, 0, none⟩) 1 1) [x] := by
  refine .inr ⟨g, 0, 1, rfl, by simp, by simp, (Array.getElem?_eq_some_iff.1 h).1, fun i y hi => ?_⟩
  have hi0 : i = 0 := by have := (List.getElem?_eq_some_iff.1 hi).1; simp at this; omega
  subst hi0
  simp at hi
  subst hi
  have c := (cells_of_block h).1
  exact ⟨c 0, c 1, c 2, c 3, c 4⟩
theorem wf_c1 {n : Int} (h : 0 ≤ n ∧ n < 18446744073709551616) : ∀ x ∈ [c1 n], CnWf x := by
  intro x hx
  rw [List.mem_singleton] at hx
  subst hx
  unfold CnWf c1 Lim
  simp only
  omega
def bS1 : Nat → Nat → Cn := giveB (giveB (fun _ => zeroP) 256 (y1 5)) 1 (y1 5)
def bS2 : Nat → Nat → Cn := giveB (takeB bS1 1 (y1 2)) 3 (y1 2)
def bS3 : Nat → Nat → Cn := takeB (takeB bS2 3 (y1 1)) 256 (y1 1)
theorem ex_fits : Fits (fun _ => zeroP) 256 (fun d => amt [c1 5] d) := by
  show ∀ d : Nat, d < 8 → vl (zeroP d) + vl (amt [c1 5] d) < 115792089237316195423570985008687907853269984665640564039457584007913129639936
  decide +kernel
theorem ex_has1 : Has bS1 1 (fun d => amt [c1 2] d) := by
  show ∀ d : Nat, d < 8 → vl (amt [c1 2] d) ≤ vl (bS1 1 d)
  decide +kernel
theorem ex_has2 : Has bS2 3 (fun d => amt [c1 1] d) := by
  show ∀ d : Nat, d < 8 → vl (amt [c1 1] d) ≤ vl (bS2 3 d)
  decide +kernel
theorem ex_all : lst (bS3 256) 8 = [c1 4] := by kernel_rfl
theorem ex_bal : amt (lst (bS3 1) 8) 0 = c1 3 := by kernel_rfl
theorem inv1 : BInv bS1 := BInv.new.mint (purse_amt (wf_c1 (by omega))) (by omega) ex_fits
theorem inv2 : BInv bS2 := inv1.send (purse_amt (wf_c1 (by omega))) (by omega) (by omega) ex_has1
theorem right_c1 {n : Int} (h : n ≠ 0) : rightFrom 0 [c1 n] = true := by
  simp [rightFrom, c1, eq4, h]
section
variable {W : World} {s base g : Nat} {A : Nat → Prop} {L : List (List Int × List Int)} {ds : List (List (List Int × List Int))} {n : Nat}
theorem ex_mint (h : StD W s base A [] ds 0) (hg : W.heap[g]? = some (.cells #[.int .u8 0, .int .u64 5, .int .u64 0, .int .u64 0, .int .u64 0] 65 (0, 0))) (hA : ¬ A g) :
    Calls Try.prog 27 #[.pointer (some ⟨s, 0, none⟩), .int .u8 1, .slice (some ⟨g, 0, none⟩) 1 1] W fun e w' => e = .returned (.int .i64 0) ∧ ∃ A' L', StD w' s base A' L' ds 16 ∧ BkL L' bS1 ∧ Fr W w' A A' :=
  mint_ok h BkL.new BInv.new (by omega) (t := 1) (by omega) (coin_blk (x := c1 5) hg) (.inr fun k hk => by injection hk with hk; subst hk; exact hA) (wf_c1 (by omega)) (right_c1 (by omega)) ex_fits
theorem ex_send (h : StD W s base A L ds 16) (hB : BkL L bS1) (hg : W.heap[g]? = some (.cells #[.int .u8 0, .int .u64 2, .int .u64 0, .int .u64 0, .int .u64 0] 65 (0, 0))) (hA : ¬ A g) :
    Calls Try.prog 24 #[.pointer (some ⟨s, 0, none⟩), .int .u8 1, .int .u8 3, .slice (some ⟨g, 0, none⟩) 1 1] W fun e w' => e = .returned (.int .i64 0) ∧ ∃ A' L', StD w' s base A' L' ds 32 ∧ BkL L' bS2 ∧ Fr W w' A A' :=
  send_ok h hB inv1 (by omega) (f := 1) (t := 3) (by omega) (by omega) (coin_blk (x := c1 2) hg) (.inr fun k hk => by injection hk with hk; subst hk; exact hA) (wf_c1 (by omega)) (right_c1 (by omega)) ex_has1
theorem ex_burn (h : StD W s base A L ds 32) (hB : BkL L bS2) (hg : W.heap[g]? = some (.cells #[.int .u8 0, .int .u64 1, .int .u64 0, .int .u64 0, .int .u64 0] 65 (0, 0))) (hA : ¬ A g) :
    Calls Try.prog 28 #[.pointer (some ⟨s, 0, none⟩), .int .u8 3, .slice (some ⟨g, 0, none⟩) 1 1] W fun e w' => e = .returned (.int .i64 0) ∧ ∃ A' L', StD w' s base A' L' ds 48 ∧ BkL L' bS3 ∧ Fr W w' A A' :=
  burn_ok h hB inv2 (by omega) (t := 3) (by omega) (coin_blk (x := c1 1) hg) (.inr fun k hk => by injection hk with hk; subst hk; exact hA) (wf_c1 (by omega)) (right_c1 (by omega)) ex_has2
theorem ex_supply (h : StD W s base A L ds 48) (hB : BkL L bS3) :
    Calls Try.prog 17 #[.pointer (some ⟨s, 0, none⟩)] W fun e w' => ∃ g o cap, e = .returned (.slice (some ⟨g, o, none⟩) 1 cap) ∧ g < w'.heap.size ∧ CnAt w' g o (c1 4) ∧ Below W.heap.size W w' := by
  refine (supply_any h hB (by omega)).mono ?_
  rintro e w' ⟨v, rfl, hv, hb⟩
  rw [ex_all] at hv
  obtain ⟨g, o, cap, rfl, hg, hc⟩ := cn_at hv (j := 0) (by simp)
  exact ⟨g, o, cap, rfl, hg, by simpa using hc, hb⟩
theorem ex_balance (h : StD W s base A L ds 48) (hB : BkL L bS3) :
    Calls Try.prog 18 #[.pointer (some ⟨s, 0, none⟩), .int .u8 1, .int .u8 0] W fun e w' => e = .returned (.agg #[.int .u64 3, .int .u64 0, .int .u64 0, .int .u64 0]) ∧ Below W.heap.size W w' := by
  have := balance_any h hB (by omega) (a := 1) (d := 0) (by omega) (by omega)
  have e : amt (lst (bS3 1) 8) ((0 : Nat) : Int) = c1 3 := ex_bal
  rw [e] at this
  exact this
theorem ex_no (W : World) : Calls Try.prog 24 #[.pointer (some ⟨s, 0, none⟩), .int .u8 1, .int .u8 250, .slice none 0 0] W fun e w' => e = .returned (.int .i64 1) ∧ Below W.heap.size W w' :=
  send_bad (f := 1) (t := 250) (by omega) (by omega) (l := []) (.inl ⟨rfl, _, _, rfl⟩) (by simp) (by omega)
end
set_option maxHeartbeats 8000000 in
theorem sends_any (w : World) : Calls Try.prog 9 #[] w fun e w' => e = .returned (.bool true) ∧ Below w.heap.size w w' := by
  have heq := eq_num
  have he4 : eq4 4 0 0 0 4 0 0 0 = true := by decide
  have he3 : eq4 3 0 0 0 3 0 0 0 = true := by decide
  go_enter Try.func9, Try.ntmps9
  go_wp2_with (first
    | (go_at_call 11; refine (stdNew _).mono ?_; rintro e w1 ⟨rfl, h1, hb1⟩; have hlt1 := (h1.foot _ rfl).2)
    | (go_at_call 27; refine (ex_mint (g := w1.heap.size) (h1.below (by (repeat (first | (with_reducible exact Below.refl _ _) | (with_reducible assumption) | (with_reducible apply bd) | (with_reducible apply ba) | (with_reducible refine bp ?_ (by first | omega | (simp [pad_size]; done) | (simp [pad_size]; omega)) _ _) | (with_reducible refine bs ?_ (by first | omega | (simp [pad_size]; done) | (simp [pad_size]; omega)) _) | (with_reducible refine bt ?_ (by assumption)))))) (by (repeat (first | (with_reducible exact al_at (by simp [pad_size])) | (with_reducible refine Eq.trans (dr_blk _ _) ?_) | (with_reducible refine Eq.trans (al_old (by first | omega | (simp [pad_size]; done) | (simp [pad_size]; omega))) ?_) | (with_reducible refine Eq.trans (pad_block (by first | omega | (simp [pad_size]; done) | (simp [pad_size]; omega)) (by first | omega | (simp [pad_size]; done) | (simp [pad_size]; omega))) ?_) | (with_reducible assumption)))) (by show ¬ _ = _; omega)).mono ?_; rintro e w2 ⟨rfl, A2, L2, h2, hB2, f2⟩; have z2 := f2.size; simp at z2; have q2 : w2.heap[w1.heap.size + 1]? = some (.cells #[.int .u8 0, .int .u64 2, .int .u64 0, .int .u64 0, .int .u64 0] 65 (0, 0)) := (f2.block (w1.heap.size + 1) (by simp <;> omega) (by show ¬ _ = _; omega)).trans (by (repeat (first | (with_reducible exact al_at (by simp [pad_size])) | (with_reducible refine Eq.trans (dr_blk _ _) ?_) | (with_reducible refine Eq.trans (al_old (by first | omega | (simp [pad_size]; done) | (simp [pad_size]; omega))) ?_) | (with_reducible refine Eq.trans (pad_block (by first | omega | (simp [pad_size]; done) | (simp [pad_size]; omega)) (by first | omega | (simp [pad_size]; done) | (simp [pad_size]; omega))) ?_) | (with_reducible assumption)))); have q3 : w2.heap[w1.heap.size + 1 + 1]? = some (.cells #[.int .u8 0, .int .u64 1, .int .u64 0, .int .u64 0, .int .u64 0] 65 (0, 0)) := (f2.block (w1.heap.size + 1 + 1) (by simp <;> omega) (by show ¬ _ = _; omega)).trans (by (repeat (first | (with_reducible exact al_at (by simp [pad_size])) | (with_reducible refine Eq.trans (dr_blk _ _) ?_) | (with_reducible refine Eq.trans (al_old (by first | omega | (simp [pad_size]; done) | (simp [pad_size]; omega))) ?_) | (with_reducible refine Eq.trans (pad_block (by first | omega | (simp [pad_size]; done) | (simp [pad_size]; omega)) (by first | omega | (simp [pad_size]; done) | (simp [pad_size]; omega))) ?_) | (with_reducible assumption)))); have n2 : ¬ A2 (w1.heap.size + 1) := (fun hc => by rcases f2.sub _ hc with h | h; exact absurd (show w1.heap.size + 1 = w.heap.size from h) (by omega); (simp at h <;> omega)); have n3 : ¬ A2 (w1.heap.size + 1 + 1) := (fun hc => by rcases f2.sub _ hc with h | h; exact absurd (show w1.heap.size + 1 + 1 = w.heap.size from h) (by omega); (simp at h <;> omega)))
    | (go_at_call 24; refine (ex_send h2 hB2 q2 n2).mono ?_; rintro e w3 ⟨rfl, A3, L3, h3, hB3, f3⟩; have z3 := f3.size; have q4 := (f3.block _ (by omega) n3).trans q3; have n4 : ¬ A3 (w1.heap.size + 1 + 1) := (fun hc => by rcases f3.sub _ hc with h | h; exact n3 h; omega); clear q2 n2 q3)
    | (go_at_call 28; refine (ex_burn h3 hB3 q4 n4).mono ?_; rintro e w4 ⟨rfl, A4, L4, h4, hB4, f4⟩; clear q4)
    | (go_at_call 17; refine (ex_supply h4 hB4).mono ?_; rintro e w5 ⟨g, o, cap, rfl, hg5, ⟨d0, d1, d2, d3, d4⟩, hb5⟩; simp only [c1] at d0 d1 d2 d3 d4)
    | (go_at_call 18; refine (ex_balance (h4.below hb5) hB4).mono ?_; rintro e w6 ⟨rfl, hb6⟩)
    | (go_at_call 24; refine (ex_no _).mono ?_; rintro e w7 ⟨rfl, hb7⟩))
  go_ret
  have hX : Below w.heap.size w (((w1.alloc (.cells #[.int .u8 0, .int .u64 5, .int .u64 0, .int .u64 0, .int .u64 0] 65)).alloc (.cells #[.int .u8 0, .int .u64 2, .int .u64 0, .int .u64 0, .int .u64 0] 65)).alloc (.cells #[.int .u8 0, .int .u64 1, .int .u64 0, .int .u64 0, .int .u64 0] 65)) := bt hb1 (by (repeat (first | (with_reducible exact Below.refl _ _) | (with_reducible assumption) | (with_reducible apply bd) | (with_reducible apply ba) | (with_reducible refine bp ?_ (by first | omega | (simp [pad_size]; done) | (simp [pad_size]; omega)) _ _) | (with_reducible refine bs ?_ (by first | omega | (simp [pad_size]; done) | (simp [pad_size]; omega)) _) | (with_reducible refine bt ?_ (by assumption)))))
  have hY := Fr.out hX ((f2.trans f3).trans f4) (fun n hn => Nat.le_of_eq (show n = w.heap.size from hn).symm)
  exact ⟨rfl, bt (bt (bt hY hb5) hb6) hb7⟩
end Go.Proofs.Ytgphdioolcfmmaa
