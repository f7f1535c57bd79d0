
/- codec's reader: numbers of 256 bits. -/
import Derived.Test.YtoikklbnbgoecaaG4
set_option linter.unusedSimpArgs false
set_option linter.unusedVariables false
namespace Go.Proofs.Ytoikklbnbgoecaa
open Go.RowKit

/-- Do bytes stand for a number, in the one way? -/
def goodB (q : List Int) : Bool := decide (q.length ≤ 32) && (q[0]? != some 0)
def nS (s : Option (List Int)) : Int × Option (List Int) :=
  if goodB (takeS (byteS s).2 (byteS s).1.toNat).1 then (rd (takeS (byteS s).2 (byteS s).1.toNat).1, (takeS (byteS s).2 (byteS s).1.toNat).2) else (0, none)
theorem goodB_t {q : List Int} (h : goodB q = true) (hr : ∀ x ∈ q, 0 ≤ x ∧ x ≤ 255) : Good q ∧ q.length ≤ 32 := by
  simp only [goodB, Bool.and_eq_true, decide_eq_true_eq, bne_iff_ne, ne_eq] at h
  refine ⟨⟨hr, fun x hx => ?_⟩, h.1⟩
  rw [List.head?_eq_getElem?] at hx
  have := hr x (List.mem_of_getElem? hx)
  have hne : x ≠ 0 := fun e => h.2 (by rw [hx, e])
  omega
theorem goodB_f {q : List Int} (h : goodB q = false) : 32 < q.length ∨ q[0]? = some 0 := by
  simp only [goodB, Bool.and_eq_false_iff, decide_eq_false_iff_not] at h
  rcases h with h | h
  · left; omega
  · right; simpa using h
theorem limbs_ofC {n : Int} (h0 : 0 ≤ n) (h1 : n < 115792089237316195423570985008687907853269984665640564039457584007913129639936) : ∃ z0 z1 z2 z3 : Int, Lim z0 z1 z2 z3 ∧ val z0 z1 z2 z3 = n :=
  ⟨n % 18446744073709551616, n / 18446744073709551616 % 18446744073709551616, n / 340282366920938463463374607431768211456 % 18446744073709551616, n / 6277101735386680763835789423207666416102355444464034512896, by unfold Lim; omega, by unfold val; omega⟩
theorem rd_limbs {q : List Int} (hr : ∀ x ∈ q, 0 ≤ x ∧ x ≤ 255) (hl : q.length ≤ 32) : ∃ z0 z1 z2 z3 : Int, Lim z0 z1 z2 z3 ∧ val z0 z1 z2 z3 = rd q := by
  have h1 := rd_nonneg q.length q rfl hr
  have h2 := p256_le hl
  have e : (256 : Int) ^ 32 = 115792089237316195423570985008687907853269984665640564039457584007913129639936 := by decide
  exact limbs_ofC h1.1 (by omega)
theorem takeS_rng2 {s : Option (List Int)} (h : Rng s) (n : Nat) : Rng (takeS s n).2 := by
  unfold takeS; split
  · intro p hp; simp at hp
  · rename_i p; split
    · intro p' hp' x hx; simp at hp'; subst hp'; exact h p rfl x (List.mem_of_mem_drop hx)
    · intro p hp; simp at hp

set_option maxRecDepth 10000 in
set_option maxHeartbeats 4000000 in
theorem rNum_any {W : World} {b : Nat} {D : Option Nat} {s : Option (List Int)} (hD : D ≠ some b) (hDl : ∀ d, D = some d → d < W.heap.size) (h : RdAt W b D s) :
    Calls Try.prog 34 #[.pointer (some ⟨b, 0, none⟩)] W fun e w' => ∃ z0 z1 z2 z3 : Int, e = .returned (.agg #[.int .u64 z0, .int .u64 z1, .int .u64 z2, .int .u64 z3]) ∧ Lim z0 z1 z2 z3 ∧ Hid (val z0 z1 z2 z3 = (nS s).1) ∧ RdAt w' b D (nS s).2 ∧ W.grownBy w' (some b) := by
  have hbl := h.lt
  have hDh : D = none ∨ D ≠ some W.heap.size := by
    cases hd : D with
    | none => exact .inl rfl
    | some d => right; intro e; have := hDl d hd; simp at e; omega
  have hR0 : RdAt (W.alloc (.cells #[.int .u64 0, .int .u64 0, .int .u64 0, .int .u64 0] 33)) b D s := h.kept (World.grownBy_alloc W _ none) (by simp) (by cases D <;> simp)
  have hT1 := rByte_any hD hR0
  have hlim := byteS_lim h.rng
  have hrg := takeS_rng2 h.rng 1
  have hrg : Rng (byteS s).2 := hrg
  obtain ⟨n, hn⟩ := Int.eq_ofNat_of_zero_le hlim.1
  unfold nS
  rw [hn] at hT1 hlim ⊢
  generalize (byteS s).2 = s1 at *
  rw [Int.toNat_natCast]
  have hq := takeS_rng hrg n
  have hT2 : ∀ (W' : World), RdAt W' b D s1 → _ := fun W' h' => rTake_any n (by omega) hD h'
  generalize (takeS s1 n).1 = q at *
  generalize (takeS s1 n).2 = s2 at *
  have hn255 : (n : Int) ≤ 255 := by omega
  have hb0 : b ≠ W.heap.size := by omega
  rcases Bool.eq_false_or_eq_true (goodB q) with hgd | hgd
  · rw [hgd, if_pos rfl]
    obtain ⟨hgood, hl32⟩ := goodB_t hgd hq
    obtain ⟨z0, z1, z2, z3, hz, hv⟩ := rd_limbs hq hl32
    have hv' : Hid _ := hv
    clear hv hgd hq hn hlim
    go_enter Try.func34, Try.ntmps34
    go_wp2_with (first
      | (go_at_call 26; refine hT1.mono ?_; rintro e w1 ⟨rfl, hr1, hg1⟩; have q1 := (hg1.block W.heap.size (by simp) (by simp; omega)).trans (al_at rfl); have l1 := hg1.size)
      | (go_at_call 53; refine (hT2 _ hr1).mono ?_; rintro e w2 ⟨u, rfl, hB2, hr2, hg2⟩; have q2 := (hg2.block W.heap.size (Array.getElem?_eq_some_iff.1 q1).1 (by simp; omega)).trans q1)
      | (go_at_call 52; refine (read_good hgood hl32 hz hv'.out _ hB2.is).mono ?_; rintro e w3 ⟨rfl, hb3⟩; have q3 := (hb3.block W.heap.size (Array.getElem?_eq_some_iff.1 q2).1).trans q2; have hr3 := hr2.kept (grown_none hb3) (by simp) (by cases D <;> simp); obtain ⟨c3, f3⟩ := cells_of_block q3; have l3 := (Array.getElem?_eq_some_iff.1 q3).1; have l3' : ¬ W.heap.size = w3.heap.size := (by omega)))
    have hG3 : W.grownBy w3 (some b) := grown_tr (grown_tr (grown_tr (World.grownBy_alloc W _ (some b)) hg1) hg2) (grown_up (grown_none hb3))
    have hk : w3.grownBy (((((w3.setCell ⟨W.heap.size, 0, none⟩ (.int .u64 z0)).setCell ⟨W.heap.size, 1, none⟩ (.int .u64 z1)).setCell ⟨W.heap.size, 2, none⟩ (.int .u64 z2)).setCell ⟨W.heap.size, 3, none⟩ (.int .u64 z3)).alloc (.cells #[.int .u64 z0, .int .u64 z1, .int .u64 z2, .int .u64 z3] 33)) (some W.heap.size) := grown_al (grown_se (grown_se (grown_se (grown_se (grown_ref _ _) _ _) _ _) _ _) _ _) _
    refine bodyPost_ret (v := .agg #[.int .u64 z0, .int .u64 z1, .int .u64 z2, .int .u64 z3]) (by simp only [results, Try.results34]; go_simp) rfl ⟨z0, z1, z2, z3, rfl, hz, hv', hr3.kept hk (by simp; omega) hDh, grown_new hG3 hk (Nat.le_refl _)⟩
  · rw [hgd]
    simp only [Bool.false_eq_true, if_false]
    have hbad := goodB_f hgd
    clear hgd hq hn hlim
    go_enter Try.func34, Try.ntmps34
    go_wp2_with (first
      | (go_at_call 26; refine hT1.mono ?_; rintro e w1 ⟨rfl, hr1, hg1⟩; have q1 := (hg1.block W.heap.size (by simp) (by simp; omega)).trans (al_at rfl); have l1 := hg1.size)
      | (go_at_call 53; refine (hT2 _ hr1).mono ?_; rintro e w2 ⟨u, rfl, hB2, hr2, hg2⟩; have q2 := (hg2.block W.heap.size (Array.getElem?_eq_some_iff.1 q1).1 (by simp; omega)).trans q1)
      | (go_at_call 52; refine (read_bad hbad _ hB2.is).mono ?_; rintro e w3 ⟨rfl, hb3⟩; have q3 := (hb3.block W.heap.size (Array.getElem?_eq_some_iff.1 q2).1).trans q2; have hr3 := hr2.kept (grown_none hb3) (by simp) (by cases D <;> simp); have l3 := (Array.getElem?_eq_some_iff.1 q3).1)
      | (go_at_call 23; refine (rFail_any (hr3.kept (World.grownBy_alloc w3 (.cells #[.int .u64 0, .int .u64 0, .int .u64 0, .int .u64 0] 33) none) (by simp) (by cases D <;> simp))).mono ?_; rintro e w4 ⟨rfl, hr4, hg4⟩; have q4 := (hg4.block W.heap.size (by simp; omega) (by simp; omega)).trans ((al_old l3).trans q3); have p4 := (hg4.block w3.heap.size (by simp) (by simp; omega)).trans (al_at rfl); obtain ⟨c4, f4⟩ := cells_of_block q4; obtain ⟨d4, e4⟩ := cells_of_block p4))
    have hG4 : W.grownBy w4 (some b) := grown_tr (grown_al (grown_tr (grown_tr (grown_tr (World.grownBy_alloc W _ (some b)) hg1) hg2) (grown_up (grown_none hb3))) _) hg4
    have hk : w4.grownBy ((((w4.setCell ⟨W.heap.size, 0, none⟩ (.int .u64 0)).setCell ⟨W.heap.size, 1, none⟩ (.int .u64 0)).setCell ⟨W.heap.size, 2, none⟩ (.int .u64 0)).setCell ⟨W.heap.size, 3, none⟩ (.int .u64 0)) (some W.heap.size) := grown_se (grown_se (grown_se (grown_se (grown_ref _ _) _ _) _ _) _ _) _ _
    refine bodyPost_ret (v := .agg #[.int .u64 0, .int .u64 0, .int .u64 0, .int .u64 0]) (by simp only [results, Try.results34]; go_simp) rfl ⟨0, 0, 0, 0, rfl, lim_zero, val0, hr4.kept hk (by simp; omega) hDh, grown_new hG4 hk (Nat.le_refl _)⟩
end Go.Proofs.Ytoikklbnbgoecaa
