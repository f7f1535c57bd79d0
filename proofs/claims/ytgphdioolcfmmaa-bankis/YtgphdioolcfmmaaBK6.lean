
/- bank: Is, Balance, Coins, Supply; Send, Mint, Burn. -/
import Derived.Test.YtgphdioolcfmmaaBK5
set_option linter.unusedSimpArgs false
set_option linter.unusedVariables false
set_option maxRecDepth 20000
namespace Go.Proofs.Ytgphdioolcfmmaa
open Go.RowKit

set_option maxHeartbeats 1000000 in
theorem isA_any (a : Nat) (ha : a ≤ 255) (w : World) : Calls Try.prog 25 #[.int .u8 a] w fun e w' => e = .returned (.bool (decide (a < 205))) ∧ w' = w := by
  by_cases h1 : a < 200
  · have h1' : (a : Int) < 200 := by omega
    rw [decide_eq_true (show a < 205 by omega)]
    go_enter Try.func25, Try.ntmps25
    go_wp2
    go_ret
    exact ⟨rfl, rfl⟩
  · have h1' : ¬ (a : Int) < 200 := by omega
    have h2' : (200 : Int) ≤ (a : Int) := by omega
    by_cases h3 : a < 205
    · have h3' : (a : Int) ≤ 204 := by omega
      rw [decide_eq_true h3]
      go_enter Try.func25, Try.ntmps25
      go_wp2
      go_ret
      exact ⟨rfl, rfl⟩
    · have h3' : ¬ (a : Int) ≤ 204 := by omega
      rw [decide_eq_false h3]
      go_enter Try.func25, Try.ntmps25
      go_wp2
      go_ret
      exact ⟨rfl, rfl⟩
section
variable {W : World} {s base : Nat} {A : Nat → Prop} {L : List (List Int × List Int)} {ds : List (List (List Int × List Int))} {n : Nat} {b : Nat → Nat → Cn}
set_option maxHeartbeats 4000000 in
theorem change_no {k : Nat} (hk : k = 42 ∨ k = 41) {c : Int} (hc : c = 2 ∨ c = 3) {t : ByteArray} {p : Nat} {v : Value} (h : StD W s base A L ds n) (hB : BkL L b) (hn : n ≤ 900) (hp : p ≤ 256) (ht : StrIs t (plc p))
    (hcall : ∀ X va, IsCoins X va (lst (b p) 8) → Below W.heap.size W X → Calls Try.prog k #[va, v] X fun e w' => e = .returned (.tuple #[.slice none 0 0, .int .i64 c]) ∧ Below X.heap.size X w') :
    Calls Try.prog 40 #[.pointer (some ⟨s, 0, none⟩), .string t, .func (.func k) #[] #[], v] W fun e w' => e = .returned (.int .i64 c) ∧ Below W.heap.size W w' := by
  have hK := kept_any h hB (by omega) hp ht
  have hcall : Hid _ := hcall
  rcases hk with rfl | rfl <;> rcases hc with rfl | rfl
  all_goals go_enter Try.func40, Try.ntmps40
  all_goals go_wp2_with (first
      | (go_at_call 35; refine hK.mono ?_; clear hK; rintro e w1 ⟨v0, rfl, hv0, hb1⟩)
      | (go_at_call 42; refine (hcall.out _ _ hv0 hb1).mono ?_; rintro e w2 ⟨rfl, hb2⟩)
      | (go_at_call 41; refine (hcall.out _ _ hv0 hb1).mono ?_; rintro e w2 ⟨rfl, hb2⟩))
  all_goals go_ret
  all_goals exact ⟨rfl, bt hb1 hb2⟩
/-- So much more is at a place. -/
theorem give_ok {t : ByteArray} {p : Nat} {y : Nat → Cn} {v : Value} (h : StD W s base A L ds n) (hB : BkL L b) (hn : n ≤ 900) (hp : p ≤ 256) (ht : StrIs t (plc p)) (hy : Purse y) (hv : IsCoins W v (lst y 8)) (hvo : Out A v (lst y 8)) (hf : Fits b p y) :
    Calls Try.prog 40 #[.pointer (some ⟨s, 0, none⟩), .string t, .func (.func 42) #[] #[], v] W fun e w' => e = .returned (.int .i64 0) ∧ ∃ A' L', StD w' s base A' L' ds (n + 8) ∧ BkL L' (giveB b p y) ∧ Fr W w' A A' :=
  change_ok (.inl rfl) h hB hn hp ht hy (purse_sum (hB.pur p hp) hy hf) (fun d hd h0 => opP_keep (hB.pur p hp) hd add0 h0) hv hvo (fun X _ _ h1 h2 => addC_row (hB.pur p hp) hy hf X h1 h2)
theorem take_ok {t : ByteArray} {p : Nat} {y : Nat → Cn} {v : Value} (h : StD W s base A L ds n) (hB : BkL L b) (hn : n ≤ 900) (hp : p ≤ 256) (ht : StrIs t (plc p)) (hy : Purse y) (hv : IsCoins W v (lst y 8)) (hvo : Out A v (lst y 8)) (hf : Has b p y) :
    Calls Try.prog 40 #[.pointer (some ⟨s, 0, none⟩), .string t, .func (.func 41) #[] #[], v] W fun e w' => e = .returned (.int .i64 0) ∧ ∃ A' L', StD w' s base A' L' ds (n + 8) ∧ BkL L' (takeB b p y) ∧ Fr W w' A A' :=
  change_ok (.inr rfl) h hB hn hp ht hy (purse_rest (hB.pur p hp) hy) (fun d hd h0 => opP_keep (hB.pur p hp) hd rest0 h0) hv hvo (fun X _ _ h1 h2 => subC_row (hB.pur p hp) hy hf X h1 h2)
theorem give_no {t : ByteArray} {p : Nat} {y : Nat → Cn} {v : Value} (h : StD W s base A L ds n) (hB : BkL L b) (hn : n ≤ 900) (hp : p ≤ 256) (ht : StrIs t (plc p)) (hy : Purse y) (hv : IsCoins W v (lst y 8)) (hf : ¬ Fits b p y) :
    Calls Try.prog 40 #[.pointer (some ⟨s, 0, none⟩), .string t, .func (.func 42) #[] #[], v] W fun e w' => e = .returned (.int .i64 2) ∧ Below W.heap.size W w' := by
  have hf' : ∃ d, d < 8 ∧ 115792089237316195423570985008687907853269984665640564039457584007913129639936 ≤ vl (b p d) + vl (y d) := Classical.byContradiction fun hc => hf fun d hd => Classical.byContradiction fun h2 => hc ⟨d, hd, by omega⟩
  exact change_no (.inl rfl) (.inl rfl) h hB hn hp ht (fun X va h1 h2 => addC_no (hB.pur p hp) hy hf' X h1 (hv.below h2))
theorem take_no {t : ByteArray} {p : Nat} {y : Nat → Cn} {v : Value} (h : StD W s base A L ds n) (hB : BkL L b) (hn : n ≤ 900) (hp : p ≤ 256) (ht : StrIs t (plc p)) (hy : Purse y) (hv : IsCoins W v (lst y 8)) (hf : ¬ Has b p y) :
    Calls Try.prog 40 #[.pointer (some ⟨s, 0, none⟩), .string t, .func (.func 41) #[] #[], v] W fun e w' => e = .returned (.int .i64 3) ∧ Below W.heap.size W w' := by
  have hf' : ∃ d, d < 8 ∧ vl (b p d) < vl (y d) := Classical.byContradiction fun hc => hf fun d hd => Classical.byContradiction fun h2 => hc ⟨d, hd, by omega⟩
  exact change_no (.inr rfl) (.inr rfl) h hB hn hp ht (fun X va h1 h2 => subC_no (hB.pur p hp) hy hf' X h1 (hv.below h2))
set_option maxHeartbeats 1000000 in
theorem coinsB_any (h : StD W s base A L ds n) (hB : BkL L b) (hn : n ≤ 1000) {a : Nat} (ha : a ≤ 255) :
    Calls Try.prog 21 #[.pointer (some ⟨s, 0, none⟩), .int .u8 a] W fun e w' => ∃ v, e = .returned v ∧ IsCoins w' v (lst (b a) 8) ∧ Below W.heap.size W w' := by
  go_enter Try.func21, Try.ntmps21
  go_wp2_with (first
    | (go_at_call 38; refine (of_any a ha _).mono ?_; rintro e w1 ⟨t, rfl, ht, hb1⟩)
    | (go_at_call 35; refine (kept_any (h.below hb1) hB hn (p := a) (by omega) ht).mono ?_; rintro e w2 ⟨v, rfl, hv, hb2⟩))
  go_ret
  exact ⟨v, rfl, hv, bt hb1 hb2⟩
set_option maxHeartbeats 1000000 in
theorem supply_any (h : StD W s base A L ds n) (hB : BkL L b) (hn : n ≤ 1000) :
    Calls Try.prog 17 #[.pointer (some ⟨s, 0, none⟩)] W fun e w' => ∃ v, e = .returned v ∧ IsCoins w' v (lst (b 256) 8) ∧ Below W.heap.size W w' := by
  go_enter Try.func17, Try.ntmps17
  go_wp2_with (go_at_call 35; refine (kept_any h hB hn (p := 256) (by omega) strIs_all).mono ?_; rintro e w2 ⟨v, rfl, hv, hb2⟩)
  go_ret
  exact ⟨v, rfl, hv, hb2⟩
set_option maxHeartbeats 1000000 in
theorem balance_any (h : StD W s base A L ds n) (hB : BkL L b) (hn : n ≤ 1000) {a d : Nat} (ha : a ≤ 255) (hd : d ≤ 255) :
    Calls Try.prog 18 #[.pointer (some ⟨s, 0, none⟩), .int .u8 a, .int .u8 d] W fun e w' => e = .returned (.agg #[.int .u64 (amt (lst (b a) 8) d).a, .int .u64 (amt (lst (b a) 8) d).b, .int .u64 (amt (lst (b a) 8) d).c, .int .u64 (amt (lst (b a) 8) d).e]) ∧ Below W.heap.size W w' := by
  have hpad := pads
  have hA : Hid (∀ (X : World) (u : Value), Below W.heap.size W X → Src X u (ky a d) → Calls Try.prog 36 #[.pointer (some ⟨s, 0, none⟩), u] X fun e w' => e = .returned (.agg #[.int .u64 (amt (lst (b a) 8) d).a, .int .u64 (amt (lst (b a) 8) d).b, .int .u64 (amt (lst (b a) 8) d).c, .int .u64 (amt (lst (b a) 8) d).e]) ∧ Below X.heap.size X w') := fun X u hX hu => amt_any (h.below hX) hB hn (by omega) hd hu
  generalize amt (lst (b a) 8) d = x at *
  have hpl : (plc a).length < 1000 := by have := plc_len a; omega
  go_enter Try.func18, Try.ntmps18
  go_wp2_with (first
    | (go_at_call 38; refine (of_any a ha _).mono ?_; rintro e w1 ⟨t, rfl, ht, hb1⟩)
    | (go_at_call 37; refine (key_any ht (byte_plc a) hpl d _).mono ?_; rintro e w2 ⟨g, cap, rfl, hs2, -, -, hb2⟩; have hB2 := bt hb1 hb2)
    | (go_at_call 36; refine (hA.out _ _ (bt (by (repeat (first | (with_reducible exact Below.refl _ _) | (with_reducible assumption) | (with_reducible apply bd) | (with_reducible apply ba) | (with_reducible refine bp ?_ (by first | omega | (simp [pad_size]; done) | (simp [pad_size]; omega)) _ _) | (with_reducible refine bs ?_ (by first | omega | (simp [pad_size]; done) | (simp [pad_size]; omega)) _) | (with_reducible refine bt ?_ (by assumption))))) hB2) hs2).mono ?_; rintro e w3 ⟨rfl, hb3⟩; clear hs2; obtain ⟨m2, g2, d2, hm2, rfl⟩ := pad_of (bt hB2 hb3); clear hb3 hB2 hb1 hb2; (try simp at hm2); have st := sz1 (n := W.heap.size) (m := m2) hm2))
  refine bodyPost_ret (v := .agg #[.int .u64 x.a, .int .u64 x.b, .int .u64 x.c, .int .u64 x.e]) (by simp only [results, Try.results18]; go_simp) rfl ⟨rfl, ?_⟩
  (repeat (first | (with_reducible exact Below.refl _ _) | (with_reducible assumption) | (with_reducible apply bd) | (with_reducible apply ba) | (with_reducible refine bp ?_ (by first | omega | (simp [pad_size]; done) | (simp [pad_size]; omega)) _ _) | (with_reducible refine bs ?_ (by first | omega | (simp [pad_size]; done) | (simp [pad_size]; omega)) _) | (with_reducible refine bt ?_ (by assumption))))
set_option maxHeartbeats 1000000 in
theorem may_any {a : Nat} (ha : a ≤ 255) {v : Value} {l : List Cn} (hv : IsCoins W v l) (hwf : ∀ x ∈ l, CnWf x) :
    Calls Try.prog 39 #[.pointer (some ⟨s, 0, none⟩), .int .u8 a, v] W fun e w' => e = .returned (.bool (decide (a < 205) && rightFrom 0 l)) ∧ Below W.heap.size W w' := by
  have hI := fun X => isA_any a ha X
  have hR := right_any W hv hwf
  cases hd : decide (a < 205)
  · rw [hd] at hI
    clear hR
    go_enter Try.func39, Try.ntmps39
    go_wp2_with (go_at_call 25; refine (hI _).mono ?_; rintro e w1 ⟨rfl, hw⟩; obtain rfl := hw.symm)
    go_ret
    exact ⟨rfl, Below.refl _ _⟩
  · rw [hd] at hI
    cases hr : rightFrom 0 l
    · rw [hr] at hR
      go_enter Try.func39, Try.ntmps39
      go_wp2_with (first
        | (go_at_call 25; refine (hI _).mono ?_; rintro e w1 ⟨rfl, hw⟩; obtain rfl := hw.symm)
        | (go_at_call 55; refine hR.mono ?_; rintro e w1 ⟨rfl, hb1⟩))
      go_ret
      exact ⟨rfl, hb1⟩
    · rw [hr] at hR
      go_enter Try.func39, Try.ntmps39
      go_wp2_with (first
        | (go_at_call 25; refine (hI _).mono ?_; rintro e w1 ⟨rfl, hw⟩; obtain rfl := hw.symm)
        | (go_at_call 55; refine hR.mono ?_; rintro e w1 ⟨rfl, hb1⟩))
      go_ret
      exact ⟨rfl, hb1⟩
end
end Go.Proofs.Ytgphdioolcfmmaa
