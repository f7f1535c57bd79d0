
/- r01.Same and r05.Less only read. -/
import Derived.Test.YthajolagpnakkaaO15
set_option linter.unusedSimpArgs false
set_option linter.unusedVariables false
namespace Go.Proofs.Ythajolagpnakkaa
open Go.RowKit

set_option maxHeartbeats 1000000 in
theorem sameQ_some (g h o u c d : Nat) (p q : List Int) (hpq : p.length = q.length) (hlen : p.length ≤ 1073741824) (w : World)
    (hp : ∀ i x, p[i]? = some x → w.cell? ⟨g, o + i, none⟩ = some (.int .u8 x)) (hq : ∀ i x, q[i]? = some x → w.cell? ⟨h, u + i, none⟩ = some (.int .u8 x)) :
    Calls Try.prog 25 #[.slice (some ⟨g, o, none⟩) p.length c, .slice (some ⟨h, u, none⟩) q.length d] w fun e w' => e = .returned (.bool (decide (p = q))) ∧ ∃ n, w' = w.drewN n := by
  rw [← hpq]
  have hpq' : Hid (p.length = q.length) := hpq
  clear hpq
  go_enter Try.func25, Try.ntmps25
  go_wp2
  go_loopw [5] (fun i wr => ∃ (k dr : Nat), k ≤ p.length ∧ i = .int .i64 k ∧ wr = w.drewN dr ∧ Hid (p.take k = q.take k)) (fun i _ => p.length - (intOf i).toNat)
  case atStart => exact ⟨0, 0, Nat.zero_le _, rfl, rfl, show _ = _ from rfl⟩
  case round =>
    obtain ⟨k, dr, hk, rfl, rfl, hpre⟩ := hrel
    by_cases hkl : k < p.length
    · have hkq : k < q.length := by have := hpq'.out; omega
      have c1 := hp k p[k] (by simp [hkl])
      have c2 := hq k q[k] (by simp [hkq])
      by_cases he : p[k] = q[k]
      · rw [← he] at c2
        go_wp2
        go_region
        all_goals go_wp2
        all_goals go_roundw
        case rel =>
          refine ⟨k + 1, dr + 1, by omega, by go_num, rfl, ?_⟩
          show _ = _
          rw [List.take_succ_eq_append_getElem hkl, List.take_succ_eq_append_getElem hkq, hpre.out, he]
        case measure => simp [intOf]; omega
      · go_wp2
        go_region
        all_goals go_wp2
        all_goals go_ret
        refine ⟨?_, dr + 1, rfl⟩
        rw [decide_eq_false (fun e => he (by subst e; rfl))]; rfl
    · have hk' : k = p.length := by omega
      subst hk'
      go_wp2
      go_ret
      refine ⟨?_, dr, rfl⟩
      have h1 := hpre.out
      rw [hpq'.out, List.take_length, ← hpq'.out, List.take_length] at h1
      rw [decide_eq_true h1]; rfl
set_option maxHeartbeats 1000000 in
theorem sameQ_nil (a b : Option Addr) (c d : Nat) (w : World) :
    Calls Try.prog 25 #[.slice a 0 c, .slice b 0 d] w fun e w' => e = .returned (.bool true) ∧ ∃ n, w' = w.drewN n := by
  go_enter Try.func25, Try.ntmps25
  go_wp2
  apply wp_loop_rounds 1
  simp only [Code.rounds]
  go_wp2
  go_ret
  exact ⟨rfl, 0, rfl⟩
set_option maxHeartbeats 1000000 in
theorem sameQ_len (a b : Option Addr) (m n c d : Nat) (h : m ≠ n) (w : World) :
    Calls Try.prog 25 #[.slice a m c, .slice b n d] w fun e w' => e = .returned (.bool false) ∧ ∃ n, w' = w.drewN n := by
  have h' : ¬ (m : Int) = (n : Int) := by omega
  go_enter Try.func25, Try.ntmps25
  go_wp2
  go_ret
  exact ⟨rfl, 0, rfl⟩
theorem sameQ_any {va vb : Value} {p q : List Int} (w : World) (hA : IsBytes w va p) (hB : IsBytes w vb q) :
    Calls Try.prog 25 #[va, vb] w fun e w' => e = .returned (.bool (decide (p = q))) ∧ ∃ n, w' = w.drewN n := by
  by_cases hl : p.length = q.length
  · rcases hA with ⟨rfl, a, c, rfl⟩ | ⟨g, o, c, rfl, h1, h2, h3⟩
    · obtain ⟨b, d, rfl⟩ := hB.slice
      obtain rfl : q = [] := List.eq_nil_of_length_eq_zero hl.symm
      exact sameQ_nil a b c d w
    · rcases hB with ⟨rfl, b, d, rfl⟩ | ⟨h, u, d, rfl, k1, k2, k3⟩
      · obtain rfl : p = [] := List.eq_nil_of_length_eq_zero hl
        exact sameQ_nil _ b c d w
      · exact sameQ_some g h o u c d p q hl h1 w h3 k3
  · obtain ⟨a, c, rfl⟩ := hA.slice
    obtain ⟨b, d, rfl⟩ := hB.slice
    rw [decide_eq_false (fun e => hl (by rw [e]))]
    exact sameQ_len a b _ _ c d hl w
set_option maxHeartbeats 4000000 in
theorem lessQ_some (g h o u c d : Nat) (p q : List Int) (hlp : p.length ≤ 1048576) (hlq : q.length ≤ 1048576) (w : World)
    (hp : ∀ i x, p[i]? = some x → w.cell? ⟨g, o + i, none⟩ = some (.int .u8 x)) (hq : ∀ i x, q[i]? = some x → w.cell? ⟨h, u + i, none⟩ = some (.int .u8 x)) :
    Calls Try.prog 26 #[.slice (some ⟨g, o, none⟩) p.length c, .slice (some ⟨h, u, none⟩) q.length d] w fun e w' => e = .returned (.bool (decide (cmpB p q < 0))) ∧ ∃ n, w' = w.drewN n := by
  go_enter Try.func26, Try.ntmps26
  go_wp2
  go_loopw [5] (fun i wr => ∃ (k dr : Nat), k ≤ p.length ∧ k ≤ q.length ∧ i = .int .i64 k ∧ wr = w.drewN dr ∧ Hid (p.take k = q.take k)) (fun i _ => p.length - (intOf i).toNat)
  case atStart => exact ⟨0, 0, Nat.zero_le _, Nat.zero_le _, rfl, rfl, show _ = _ from rfl⟩
  case round =>
    obtain ⟨k, dr, hk, hk2, rfl, rfl, hpre⟩ := hrel
    by_cases hkl : k < p.length ∧ k < q.length
    · obtain ⟨hkp, hkq⟩ := hkl
      have c1 := hp k p[k] (by simp [hkp])
      have c2 := hq k q[k] (by simp [hkq])
      have hkp' : (k : Int) < (p.length : Int) := by omega
      have hkq' : (k : Int) < (q.length : Int) := by omega
      have htk : Hid (p[k] = q[k] → p.take (k + 1) = q.take (k + 1)) := fun he => by rw [List.take_succ_eq_append_getElem hkp, List.take_succ_eq_append_getElem hkq, hpre.out, he]
      have hdc : Hid (p[k] ≠ q[k] → decide (cmpB p q < 0) = decide (p[k] < q[k])) := fun he => cmp_first hkp hkq hpre.out he
      generalize p[k] = x at *
      generalize q[k] = y at *
      by_cases he : x = y
      · have hT : Hid (p.take (k + 1) = q.take (k + 1)) := htk.out he
        subst he
        have hxx : (x != x) = false := by simp
        clear htk hdc hp hq
        go_wp2
        go_region
        all_goals go_wp2
        all_goals go_roundw
        case rel => exact ⟨k + 1, dr + 1, by omega, by omega, by go_num, rfl, hT⟩
        case measure => simp [intOf]; omega
      · have hxy : (x != y) = true := by simpa using he
        have hD : Hid (decide (cmpB p q < 0) = decide (x < y)) := hdc.out he
        clear htk hdc hp hq
        go_wp2
        go_region
        all_goals go_wp2
        all_goals go_region
        all_goals go_wp2
        all_goals go_ret
        all_goals refine ⟨?_, dr + 1 + 1, rfl⟩
        all_goals rw [hD.out]
        all_goals rfl
    · have hend : Hid (decide (cmpB p q < 0) = decide (p.length < q.length)) := cmp_end hk hk2 hpre.out (by omega)
      have hor : ¬ ((k : Int) < (p.length : Int)) ∨ ((k : Int) < (p.length : Int) ∧ ¬ (k : Int) < (q.length : Int)) := by omega
      rcases hor with h1 | ⟨h1, h2⟩
      all_goals
        go_wp2
        go_ret
        refine ⟨?_, dr, rfl⟩
        rw [hend.out]
        simp
set_option maxHeartbeats 1000000 in
theorem lessQ_nil (a b : Option Addr) (c n d : Nat) (hn : n ≤ 1048576) (w : World) :
    Calls Try.prog 26 #[.slice a 0 c, .slice b n d] w fun e w' => e = .returned (.bool (decide (0 < n))) ∧ ∃ n, w' = w.drewN n := by
  go_enter Try.func26, Try.ntmps26
  go_wp2
  apply wp_loop_rounds 1
  simp only [Code.rounds]
  go_wp2
  go_ret
  exact ⟨rfl, 0, rfl⟩
set_option maxHeartbeats 1000000 in
theorem lessQ_none (a b : Option Addr) (c n d : Nat) (hn : n ≤ 1048576) (h0 : 0 < n) (w : World) :
    Calls Try.prog 26 #[.slice a n c, .slice b 0 d] w fun e w' => e = .returned (.bool false) ∧ ∃ n, w' = w.drewN n := by
  have h0' : (0 : Int) < (n : Int) := by omega
  have h1' : ¬ (n : Int) < 0 := by omega
  go_enter Try.func26, Try.ntmps26
  go_wp2
  apply wp_loop_rounds 1
  simp only [Code.rounds]
  go_wp2
  go_ret
  exact ⟨by simp, 0, rfl⟩
theorem lessQ_any {va vb : Value} {p q : List Int} (w : World) (hA : IsBytes w va p) (hB : IsBytes w vb q) (hlp : p.length ≤ 1048576) (hlq : q.length ≤ 1048576) :
    Calls Try.prog 26 #[va, vb] w fun e w' => e = .returned (.bool (decide (cmpB p q < 0))) ∧ ∃ n, w' = w.drewN n := by
  rcases hA with ⟨rfl, a, c, rfl⟩ | ⟨g, o, c, rfl, h1, h2, h3⟩
  · obtain ⟨b, d, rfl⟩ := hB.slice
    refine (lessQ_nil a b c q.length d hlq w).mono ?_
    rintro e w' ⟨rfl, hb⟩
    refine ⟨?_, hb⟩
    cases q with
    | nil => rfl
    | cons x q => simp [cmpB]
  · by_cases hp : p = []
    · subst hp
      obtain ⟨b, d, rfl⟩ := hB.slice
      refine (lessQ_nil _ b c q.length d hlq w).mono ?_
      rintro e w' ⟨rfl, hb⟩
      refine ⟨?_, hb⟩
      cases q with
      | nil => rfl
      | cons x q => simp [cmpB]
    · rcases hB with ⟨rfl, b, d, rfl⟩ | ⟨h, u, d, rfl, k1, k2, k3⟩
      · have hpl : 0 < p.length := by cases p with | nil => exact absurd rfl hp | cons _ _ => simp
        refine (lessQ_none _ b c p.length d hlp hpl w).mono ?_
        rintro e w' ⟨rfl, hb⟩
        refine ⟨?_, hb⟩
        cases p with
        | nil => exact absurd rfl hp
        | cons x p => simp [cmpB]
      · exact lessQ_some g h o u c d p q hlp hlq w h3 k3
end Go.Proofs.Ythajolagpnakkaa
