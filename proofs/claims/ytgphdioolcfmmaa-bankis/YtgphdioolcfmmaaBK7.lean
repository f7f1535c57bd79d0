
/- bank: Send, Mint, Burn: what each answers and makes of it. -/
import Derived.Test.YtgphdioolcfmmaaBK6
set_option linter.unusedSimpArgs false
set_option linter.unusedVariables false
set_option maxRecDepth 20000
namespace Go.Proofs.Ytgphdioolcfmmaa
open Go.RowKit

section
variable {W : World} {s base : Nat} {A : Nat → Prop} {L : List (List Int × List Int)} {ds : List (List (List Int × List Int))} {n : Nat} {b : Nat → Nat → Cn}
/-- Coins in which is nothing change nothing. -/
theorem noneP {y : Nat → Cn} (hy : Purse y) (h : lst y 8 = []) : ∀ d, d < 8 → vl (y d) = 0 := by
  intro d hd
  refine Classical.byContradiction fun hc => ?_
  have h1 : y d ∈ (dsL y 8).map y := List.mem_map.2 ⟨d, dsL_mem.2 ⟨hd, hc⟩, rfl⟩
  rw [← lst_dsL hy 8 (Nat.le_refl _), h] at h1
  simp at h1
set_option maxHeartbeats 4000000 in
theorem send_bad {f t : Nat} (hf : f ≤ 255) (ht : t ≤ 255) {v : Value} {l : List Cn} (hv : IsCoins W v l) (hwf : ∀ x ∈ l, CnWf x) (hbad : ¬ (f < 205 ∧ rightFrom 0 l = true ∧ t < 205)) :
    Calls Try.prog 24 #[.pointer (some ⟨s, 0, none⟩), .int .u8 f, .int .u8 t, v] W fun e w' => e = .returned (.int .i64 1) ∧ Below W.heap.size W w' := by
  have hM := may_any (s := s) hf hv hwf
  have hI := fun X => isA_any t ht X
  by_cases hm : f < 205 ∧ rightFrom 0 l = true
  · have ht' : ¬ t < 205 := fun h => hbad ⟨hm.1, hm.2, h⟩
    rw [decide_eq_true hm.1, hm.2] at hM
    rw [decide_eq_false ht'] at hI
    clear hbad hm ht'
    go_enter Try.func24, Try.ntmps24
    go_wp2_with (first
      | (go_at_call 39; refine hM.mono ?_; rintro e w1 ⟨rfl, hb1⟩)
      | (go_at_call 25; refine (hI _).mono ?_; rintro e w2 ⟨rfl, hw⟩; obtain rfl := hw.symm))
    go_ret
    exact ⟨rfl, hb1⟩
  · have hm' : (decide (f < 205) && rightFrom 0 l) = false := by
      cases hr : rightFrom 0 l
      · simp
      · have : ¬ f < 205 := fun h => hm ⟨h, hr⟩
        simp [this]
    rw [hm'] at hM
    clear hbad hm hm'
    go_enter Try.func24, Try.ntmps24
    go_wp2_with (go_at_call 39; refine hM.mono ?_; rintro e w1 ⟨rfl, hb1⟩)
    go_ret
    exact ⟨rfl, hb1⟩
set_option maxHeartbeats 4000000 in
theorem send_no (h : StD W s base A L ds n) (hB : BkL L b) (hn : n ≤ 800) {f t : Nat} (hf : f < 205) (ht : t < 205) {v : Value} {l : List Cn} (hv : IsCoins W v l) (hwf : ∀ x ∈ l, CnWf x) (hr : rightFrom 0 l = true) (hno : ¬ Has b f (fun d => amt l d)) :
    Calls Try.prog 24 #[.pointer (some ⟨s, 0, none⟩), .int .u8 f, .int .u8 t, v] W fun e w' => e = .returned (.int .i64 3) ∧ Below W.heap.size W w' := by
  have hM := may_any (s := s) (a := f) (by omega) hv hwf
  have hI := fun X => isA_any t (by omega) X
  rw [decide_eq_true hf, hr] at hM
  rw [decide_eq_true ht] at hI
  go_enter Try.func24, Try.ntmps24
  go_wp2_with (first
    | (go_at_call 39; refine hM.mono ?_; clear hM; rintro e w1 ⟨rfl, hb1⟩)
    | (go_at_call 25; refine (hI _).mono ?_; clear hI; rintro e w2 ⟨rfl, hw⟩; obtain rfl := hw.symm)
    | (go_at_call 38; refine (of_any f (by omega) _).mono ?_; rintro e w3 ⟨tt, rfl, htt, hb3⟩; have hB3 := bt hb1 hb3)
    | (go_at_call 40; refine (take_no (h.below hB3) hB (by omega) (by omega) htt (purse_amt hwf) (by rw [right_lst hr]; exact hv.below hB3) hno).mono ?_; rintro e w4 ⟨rfl, hb4⟩))
  go_ret
  exact ⟨rfl, bt hB3 hb4⟩
set_option maxHeartbeats 4000000 in
theorem send_ok (h : StD W s base A L ds n) (hB : BkL L b) (hI : BInv b) (hn : n ≤ 800) {f t : Nat} (hf : f < 205) (ht : t < 205) {v : Value} {l : List Cn} (hv : IsCoins W v l) (hvo : Out A v l) (hwf : ∀ x ∈ l, CnWf x) (hr : rightFrom 0 l = true) (hy : Has b f (fun d => amt l d)) :
    Calls Try.prog 24 #[.pointer (some ⟨s, 0, none⟩), .int .u8 f, .int .u8 t, v] W fun e w' => e = .returned (.int .i64 0) ∧ ∃ A' L', StD w' s base A' L' ds (n + 16) ∧ BkL L' (giveB (takeB b f (fun d => amt l d)) t (fun d => amt l d)) ∧ Fr W w' A A' := by
  have hM := may_any (s := s) (a := f) (by omega) hv hwf
  have hIs := fun X => isA_any t (by omega) X
  have hP := purse_amt hwf
  have hfit := send_fits hI hf ht hy
  have hl := right_lst hr
  rw [decide_eq_true hf, hr] at hM
  rw [decide_eq_true ht] at hIs
  generalize (fun d : Nat => amt l d) = y at *
  subst hl
  go_enter Try.func24, Try.ntmps24
  go_wp2_with (first
    | (go_at_call 39; refine hM.mono ?_; clear hM; rintro e w1 ⟨rfl, hb1⟩)
    | (go_at_call 25; refine (hIs _).mono ?_; clear hIs; rintro e w2 ⟨rfl, hw⟩; obtain rfl := hw.symm)
    | (go_at_call 38; refine (of_any f (by omega) _).mono ?_; rintro e w3 ⟨t3, rfl, ht3, hb3⟩; have hB3 := bt hb1 hb3; clear hb1 hb3)
    | (go_at_call 40; refine (take_ok (h.below hB3) hB (by omega) (by omega) ht3 hP (hv.below hB3) hvo hy).mono ?_; rintro e w4 ⟨rfl, A4, L4, h4, hB4, f4⟩; have fW := (Fr.below hB3).trans f4; clear hB3; have hv4 := hv.fr fW hvo; have ho4 := hv.out fW hvo)
    | (go_at_call 38; refine (of_any t (by omega) _).mono ?_; rintro e w5 ⟨t5, rfl, ht5, hb5⟩)
    | (go_at_call 40; refine (give_ok (h4.below hb5) hB4 (by omega) (by omega) ht5 hP (hv4.below hb5) ho4 hfit).mono ?_; rintro e w6 ⟨rfl, A6, L6, h6, hB6, f6⟩))
  go_ret
  exact ⟨rfl, A6, L6, h6, hB6, fW.trans ((Fr.below hb5).trans f6)⟩
set_option maxHeartbeats 4000000 in
theorem mint_bad {t : Nat} (ht : t ≤ 255) {v : Value} {l : List Cn} (hv : IsCoins W v l) (hwf : ∀ x ∈ l, CnWf x) (hbad : ¬ (t < 205 ∧ rightFrom 0 l = true)) :
    Calls Try.prog 27 #[.pointer (some ⟨s, 0, none⟩), .int .u8 t, v] W fun e w' => e = .returned (.int .i64 1) ∧ Below W.heap.size W w' := by
  have hM := may_any (s := s) ht hv hwf
  have hm' : (decide (t < 205) && rightFrom 0 l) = false := by
    cases hr : rightFrom 0 l
    · simp
    · have : ¬ t < 205 := fun h => hbad ⟨h, hr⟩
      simp [this]
  rw [hm'] at hM
  clear hbad hm'
  go_enter Try.func27, Try.ntmps27
  go_wp2_with (go_at_call 39; refine hM.mono ?_; rintro e w1 ⟨rfl, hb1⟩)
  go_ret
  exact ⟨rfl, hb1⟩
set_option maxHeartbeats 4000000 in
theorem burn_bad {t : Nat} (ht : t ≤ 255) {v : Value} {l : List Cn} (hv : IsCoins W v l) (hwf : ∀ x ∈ l, CnWf x) (hbad : ¬ (t < 205 ∧ rightFrom 0 l = true)) :
    Calls Try.prog 28 #[.pointer (some ⟨s, 0, none⟩), .int .u8 t, v] W fun e w' => e = .returned (.int .i64 1) ∧ Below W.heap.size W w' := by
  have hM := may_any (s := s) ht hv hwf
  have hm' : (decide (t < 205) && rightFrom 0 l) = false := by
    cases hr : rightFrom 0 l
    · simp
    · have : ¬ t < 205 := fun h => hbad ⟨h, hr⟩
      simp [this]
  rw [hm'] at hM
  clear hbad hm'
  go_enter Try.func28, Try.ntmps28
  go_wp2_with (go_at_call 39; refine hM.mono ?_; rintro e w1 ⟨rfl, hb1⟩)
  go_ret
  exact ⟨rfl, hb1⟩
set_option maxHeartbeats 4000000 in
theorem mint_no (h : StD W s base A L ds n) (hB : BkL L b) (hn : n ≤ 800) {t : Nat} (ht : t < 205) {v : Value} {l : List Cn} (hv : IsCoins W v l) (hwf : ∀ x ∈ l, CnWf x) (hr : rightFrom 0 l = true) (hno : ¬ Fits b 256 (fun d => amt l d)) :
    Calls Try.prog 27 #[.pointer (some ⟨s, 0, none⟩), .int .u8 t, v] W fun e w' => e = .returned (.int .i64 2) ∧ Below W.heap.size W w' := by
  have hM := may_any (s := s) (a := t) (by omega) hv hwf
  rw [decide_eq_true ht, hr] at hM
  go_enter Try.func27, Try.ntmps27
  go_wp2_with (first
    | (go_at_call 39; refine hM.mono ?_; clear hM; rintro e w1 ⟨rfl, hb1⟩)
    | (go_at_call 40; refine (give_no (h.below hb1) hB (by omega) (p := 256) (by omega) strIs_all (purse_amt hwf) (by rw [right_lst hr]; exact hv.below hb1) hno).mono ?_; rintro e w4 ⟨rfl, hb4⟩))
  go_ret
  exact ⟨rfl, bt hb1 hb4⟩
set_option maxHeartbeats 4000000 in
theorem mint_ok (h : StD W s base A L ds n) (hB : BkL L b) (hI : BInv b) (hn : n ≤ 800) {t : Nat} (ht : t < 205) {v : Value} {l : List Cn} (hv : IsCoins W v l) (hvo : Out A v l) (hwf : ∀ x ∈ l, CnWf x) (hr : rightFrom 0 l = true) (hy : Fits b 256 (fun d => amt l d)) :
    Calls Try.prog 27 #[.pointer (some ⟨s, 0, none⟩), .int .u8 t, v] W fun e w' => e = .returned (.int .i64 0) ∧ ∃ A' L', StD w' s base A' L' ds (n + 16) ∧ BkL L' (giveB (giveB b 256 (fun d => amt l d)) t (fun d => amt l d)) ∧ Fr W w' A A' := by
  have hM := may_any (s := s) (a := t) (by omega) hv hwf
  have hP := purse_amt hwf
  have hfit := mint_fits hI ht hy
  have hl := right_lst hr
  rw [decide_eq_true ht, hr] at hM
  generalize (fun d : Nat => amt l d) = y at *
  subst hl
  go_enter Try.func27, Try.ntmps27
  go_wp2_with (first
    | (go_at_call 39; refine hM.mono ?_; clear hM; rintro e w1 ⟨rfl, hB3⟩)
    | (go_at_call 40; refine (give_ok (h.below hB3) hB (by omega) (p := 256) (by omega) strIs_all hP (hv.below hB3) hvo hy).mono ?_; rintro e w4 ⟨rfl, A4, L4, h4, hB4, f4⟩; have fW := (Fr.below hB3).trans f4; clear hB3; have hv4 := hv.fr fW hvo; have ho4 := hv.out fW hvo)
    | (go_at_call 38; refine (of_any t (by omega) _).mono ?_; rintro e w5 ⟨t5, rfl, ht5, hb5⟩)
    | (go_at_call 40; refine (give_ok (h4.below hb5) hB4 (by omega) (by omega) ht5 hP (hv4.below hb5) ho4 hfit).mono ?_; rintro e w6 ⟨rfl, A6, L6, h6, hB6, f6⟩))
  go_ret
  exact ⟨rfl, A6, L6, h6, hB6, fW.trans ((Fr.below hb5).trans f6)⟩
set_option maxHeartbeats 4000000 in
theorem burn_no (h : StD W s base A L ds n) (hB : BkL L b) (hn : n ≤ 800) {t : Nat} (ht : t < 205) {v : Value} {l : List Cn} (hv : IsCoins W v l) (hwf : ∀ x ∈ l, CnWf x) (hr : rightFrom 0 l = true) (hno : ¬ Has b t (fun d => amt l d)) :
    Calls Try.prog 28 #[.pointer (some ⟨s, 0, none⟩), .int .u8 t, v] W fun e w' => e = .returned (.int .i64 3) ∧ Below W.heap.size W w' := by
  have hM := may_any (s := s) (a := t) (by omega) hv hwf
  rw [decide_eq_true ht, hr] at hM
  go_enter Try.func28, Try.ntmps28
  go_wp2_with (first
    | (go_at_call 39; refine hM.mono ?_; clear hM; rintro e w1 ⟨rfl, hb1⟩)
    | (go_at_call 38; refine (of_any t (by omega) _).mono ?_; rintro e w3 ⟨tt, rfl, htt, hb3⟩; have hB3 := bt hb1 hb3)
    | (go_at_call 40; refine (take_no (h.below hB3) hB (by omega) (by omega) htt (purse_amt hwf) (by rw [right_lst hr]; exact hv.below hB3) hno).mono ?_; rintro e w4 ⟨rfl, hb4⟩))
  go_ret
  exact ⟨rfl, bt hB3 hb4⟩
set_option maxHeartbeats 4000000 in
theorem burn_ok (h : StD W s base A L ds n) (hB : BkL L b) (hI : BInv b) (hn : n ≤ 800) {t : Nat} (ht : t < 205) {v : Value} {l : List Cn} (hv : IsCoins W v l) (hvo : Out A v l) (hwf : ∀ x ∈ l, CnWf x) (hr : rightFrom 0 l = true) (hy : Has b t (fun d => amt l d)) :
    Calls Try.prog 28 #[.pointer (some ⟨s, 0, none⟩), .int .u8 t, v] W fun e w' => e = .returned (.int .i64 0) ∧ ∃ A' L', StD w' s base A' L' ds (n + 16) ∧ BkL L' (takeB (takeB b t (fun d => amt l d)) 256 (fun d => amt l d)) ∧ Fr W w' A A' := by
  have hM := may_any (s := s) (a := t) (by omega) hv hwf
  have hP := purse_amt hwf
  have hfit := burn_has hI ht hy
  have hl := right_lst hr
  rw [decide_eq_true ht, hr] at hM
  generalize (fun d : Nat => amt l d) = y at *
  subst hl
  go_enter Try.func28, Try.ntmps28
  go_wp2_with (first
    | (go_at_call 39; refine hM.mono ?_; clear hM; rintro e w1 ⟨rfl, hb1⟩)
    | (go_at_call 38; refine (of_any t (by omega) _).mono ?_; rintro e w3 ⟨t3, rfl, ht3, hb3⟩; have hB3 := bt hb1 hb3; clear hb1 hb3)
    | (go_at_call 40; refine (take_ok (h.below hB3) hB (by omega) (by omega) ht3 hP (hv.below hB3) hvo hy).mono ?_; rintro e w4 ⟨rfl, A4, L4, h4, hB4, f4⟩; have fW := (Fr.below hB3).trans f4; clear hB3; have hv4 := hv.fr fW hvo; have ho4 := hv.out fW hvo)
    | (go_at_call 40; refine (take_ok h4 hB4 (by omega) (p := 256) (by omega) strIs_all hP hv4 ho4 hfit).mono ?_; rintro e w6 ⟨rfl, A6, L6, h6, hB6, f6⟩))
  go_ret
  exact ⟨rfl, A6, L6, h6, hB6, fW.trans f6⟩
end
end Go.Proofs.Ytgphdioolcfmmaa
