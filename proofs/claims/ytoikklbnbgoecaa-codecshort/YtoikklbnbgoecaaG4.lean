
/- The reference's reader: truths and long numbers. -/
import Derived.Test.YtoikklbnbgoecaaG3
set_option linter.unusedSimpArgs false
set_option linter.unusedVariables false
namespace Go.Proofs.Ytoikklbnbgoecaa
open Go.RowKit

theorem byteS_none {s : Option (List Int)} (h : (byteS s).2 = none) : (byteS s).1 = 0 := by
  unfold byteS takeS at *
  match s with
  | none => rfl
  | some p =>
    simp only at *
    split at h
    · simp at h
    · rename_i hh; rw [if_neg hh]; rfl

theorem InAt.opnN {W : World} {b : Nat} {D : Option Nat} (h : InAt W b D none) : ∃ a cap, ∃ p : List Int, ∃ k : Nat, W.heap[b]? = some (.cells #[.slice a p.length cap, .int .i64 (k : Int), .bool true] 43 (0, 0)) ∧ Byt W D (.slice a p.length cap) p ∧ k ≤ p.length ∧ W.cell? ⟨b, 0, none⟩ = some (.slice a p.length cap) ∧ W.cell? ⟨b, 1, none⟩ = some (.int .i64 (k : Int)) ∧ W.cell? ⟨b, 2, none⟩ = some (.bool true) ∧ (∀ o, W.frozen? ⟨b, o, none⟩ = false) := by
  obtain ⟨a, cap, p, k, bad, hblk, hB, hk, h1', h2, hss, c0, c1, c2, f⟩ := h.opn
  cases bad with
  | true => exact ⟨a, cap, p, k, hblk, hB, hk, c0, c1, c2, f⟩
  | false => simp at hss
theorem InAt.opnS {W : World} {b : Nat} {D : Option Nat} {s : Option (List Int)} (h : InAt W b D s) (hs : s ≠ none) : ∃ a cap, ∃ p : List Int, ∃ k : Nat, W.heap[b]? = some (.cells #[.slice a p.length cap, .int .i64 (k : Int), .bool false] 43 (0, 0)) ∧ Byt W D (.slice a p.length cap) p ∧ k ≤ p.length ∧ p.length ≤ cap ∧ p.length ≤ 1048576 ∧ Hid (s = some (p.drop k)) ∧ W.cell? ⟨b, 0, none⟩ = some (.slice a p.length cap) ∧ W.cell? ⟨b, 1, none⟩ = some (.int .i64 (k : Int)) ∧ W.cell? ⟨b, 2, none⟩ = some (.bool false) ∧ (∀ o, W.frozen? ⟨b, o, none⟩ = false) := by
  obtain ⟨a, cap, p, k, bad, hblk, hB, hk, h1', h2, hss, c0, c1, c2, f⟩ := h.opn
  cases bad with
  | true => exact absurd hss hs
  | false => exact ⟨a, cap, p, k, hblk, hB, hk, h1', h2, hss, c0, c1, c2, f⟩

set_option maxHeartbeats 1000000 in
theorem inFlag_any {W : World} {b : Nat} {D : Option Nat} {s : Option (List Int)} (hD : D ≠ some b) (h : InAt W b D s) :
    Calls Try.prog 42 #[.pointer (some ⟨b, 0, none⟩)] W fun e w' => e = .returned (.bool (flagS s).1) ∧ InAt w' b D (flagS s).2 ∧ W.grownBy w' (some b) := by
  have hT := inByte_any hD h
  have hz := @byteS_none s
  unfold flagS
  generalize (byteS s).1 = x at *
  generalize (byteS s).2 = s' at *
  by_cases h1 : 1 < x
  · rw [if_pos h1]
    have hd1 : decide (1 < x) = true := by simpa using h1
    have hs' : s' ≠ none := fun e => by have := hz e; omega
    go_enter Try.func42, Try.ntmps42
    go_wp2_with (go_at_call 41; refine hT.mono ?_; rintro e w1 ⟨rfl, hr, hg⟩; obtain ⟨a, cap, p, k, hblk, hB, hk, h1', h2, hss, c0, c1, c2, f⟩ := hr.opnS hs')
    go_ret
    have hg2 := grown_se hg 2 (.bool true)
    exact ⟨rfl, ⟨_, p, k, true, by rw [block_set _ hblk]; rfl, hB.kept (grown_se (grown_ref _ _) _ _) (.inr hD), hk, rfl⟩, hg2⟩
  · rw [if_neg h1]
    have hd1 : decide (1 < x) = false := by simpa using h1
    by_cases hs' : s' = none
    · have hx0 := hz hs'
      subst hx0 hs'
      go_enter Try.func42, Try.ntmps42
      go_wp2_with (go_at_call 41; refine hT.mono ?_; rintro e w1 ⟨rfl, hr, hg⟩; obtain ⟨a, cap, p, k, hblk, hB, hk, c0, c1, c2, f⟩ := hr.opnN)
      go_ret
      have hg2 := grown_se hg 2 (.bool true)
      exact ⟨rfl, ⟨_, p, k, true, by rw [block_set _ hblk]; rfl, hB.kept (grown_se (grown_ref _ _) _ _) (.inr hD), hk, rfl⟩, hg2⟩
    · go_enter Try.func42, Try.ntmps42
      go_wp2_with (go_at_call 41; refine hT.mono ?_; rintro e w1 ⟨rfl, hr, hg⟩; obtain ⟨a, cap, p, k, hblk, hB, hk, h1', h2, hss, c0, c1, c2, f⟩ := hr.opnS hs')
      go_ret
      have hg2 := grown_se hg 2 (.bool false)
      exact ⟨by simp, ⟨_, p, k, false, by rw [block_set _ hblk]; rfl, hB.kept (grown_se (grown_ref _ _) _ _) (.inr hD), hk, hss.out⟩, hg2⟩

theorem byteS_at {q : List Int} {i : Nat} (h : i < q.length) : byteS (some (q.drop i)) = (q[i], some (q.drop (i + 1))) := byteS_cons h
set_option maxHeartbeats 2000000 in
theorem inLong_any {W : World} {b : Nat} {D : Option Nat} {s : Option (List Int)} (n : Nat) (hn : n ≤ 8) (hD : D ≠ some b) (h : InAt W b D s) :
    Calls Try.prog 43 #[.pointer (some ⟨b, 0, none⟩), .int .i64 (n : Int)] W fun e w' => e = .returned (.int .u64 (numS s n).1) ∧ InAt w' b D (numS s n).2 ∧ W.grownBy w' (some b) := by
  have h' := h
  obtain ⟨a, cap, p, k, bad, hblk, hB, hk, h1, h2, rfl, c0, c1, c2, f⟩ := h.opn
  cases bad with
  | true =>
    go_enter Try.func43, Try.ntmps43
    go_wp2
    go_quiet (fail)
    go_wp2
    go_ret
    have hg : W.grownBy ((W.drewN nq).setCell ⟨b, 2, none⟩ (.bool true)) (some b) := grown_se (grown_dn (grown_ref _ _) _) _ _
    exact ⟨rfl, ⟨_, p, k, true, by rw [block_set (W := W.drewN nq) _ hblk]; rfl, hB.kept hg (.inr hD), hk, rfl⟩, hg⟩
  | false =>
    simp only [Bool.false_eq_true, if_false] at h' ⊢
    have hw : IntKind.i64.wrap ((p.length : Int) - (k : Int)) = (p.length : Int) - (k : Int) := by rw [IntKind.wrap_i64]; omega
    have hpk : (k : Int) ≤ (p.length : Int) := by omega
    have hpl : (p.length : Int) ≤ 1048576 := by omega
    obtain ⟨m, hm⟩ : ∃ m : Int, (p.length : Int) - (k : Int) = m := ⟨_, rfl⟩
    by_cases hl : n ≤ (p.drop k).length
    · have hlen : (p.drop k).length = p.length - k := List.length_drop
      have hd : decide (m < (n : Int)) = false := by rw [decide_eq_false_iff_not]; omega
      have hdn : ¬ m < (n : Int) := by omega
      rw [numS, takeS, if_pos hl]
      simp only
      have hr := hB
      obtain ⟨-, -, -, -, -, h3, -⟩ := hr
      have h3' : ∀ x ∈ p.drop k, 0 ≤ x ∧ x ≤ 255 := fun x hx => h3 x (List.mem_of_mem_drop hx)
      clear h3 hB hblk
      generalize p.drop k = q at *
      go_enter Try.func43, Try.ntmps43
      go_wp2
      go_quiet (fail)
      go_wp2
      go_loopw [5, 6] (fun v i wr => ∃ j : Nat, j ≤ n ∧ i = .int .i64 j ∧ v = .int .u64 (rd (q.take j)) ∧ InAt wr b D (some (q.drop j)) ∧ W.grownBy wr (some b)) (fun _ i _ => n - (intOf i).toNat)
      case atStart => exact ⟨0, by omega, rfl, rfl, by simpa using h'.dn nq, grown_dn (grown_ref _ _) _⟩
      case round =>
        obtain ⟨j, hj, rfl, rfl, hI, hg⟩ := hrel
        by_cases hlt : j < n
        · have hlq : j < q.length := by omega
          have hT := inByte_any hD hI
          rw [byteS_at hlq] at hT
          have hx := h3' q[j] (List.getElem_mem hlq)
          have hR := rd_nonneg (q.take j).length (q.take j) rfl (fun x hx => h3' x (List.mem_of_mem_take hx))
          have hR2 : rd (q.take j) < 72057594037927936 := by
            have h2 := p256_le (a := (q.take j).length) (b := 7) (by simp; omega)
            have h3 : (256 : Int) ^ 7 = 72057594037927936 := by decide
            omega
          have hnx : rd (q.take (j + 1)) = rd (q.take j) * 256 + q[j] := by rw [List.take_succ_eq_append_getElem hlq, rd_snoc]
          have hlt' : (j : Int) < (n : Int) := by omega
          have hR1 := hR.1
          have hn8 : (n : Int) ≤ 8 := by omega
          clear hR h3'
          generalize rd (q.take j) = R at *
          generalize hxx : q[j] = x at *
          have hw1 : IntKind.u64.wrap (256 * R) = 256 * R := by rw [IntKind.wrap_u64]; omega
          have hw2 : IntKind.u64.wrap (256 * R + x) = 256 * R + x := by rw [IntKind.wrap_u64]; omega
          go_wp2_with (go_at_call 41; refine hT.mono ?_; rintro e w1 ⟨rfl, hI2, hg2⟩)
          all_goals go_roundw
          case rel => exact ⟨j + 1, by omega, by go_num, by rw [hnx]; congr 1; omega, hI2, grown_tr hg hg2⟩
          case measure => (simp [intOf]; omega)
        · obtain rfl : j = n := by omega
          go_wp2
          go_ret
          exact ⟨rfl, hI, hg⟩
    · have hlen : (p.drop k).length = p.length - k := List.length_drop
      have hd : decide (m < (n : Int)) = true := by rw [decide_eq_true_iff]; omega
      have hdn : m < (n : Int) := by omega
      rw [numS, takeS, if_neg hl]
      simp only
      go_enter Try.func43, Try.ntmps43
      go_wp2
      go_quiet (fail)
      go_wp2
      go_ret
      have hg : W.grownBy ((W.drewN nq).setCell ⟨b, 2, none⟩ (.bool true)) (some b) := grown_se (grown_dn (grown_ref _ _) _) _ _
      exact ⟨rfl, ⟨_, p, k, true, by rw [block_set (W := W.drewN nq) _ hblk]; rfl, hB.kept hg (.inr hD), hk, rfl⟩, hg⟩
end Go.Proofs.Ytoikklbnbgoecaa
