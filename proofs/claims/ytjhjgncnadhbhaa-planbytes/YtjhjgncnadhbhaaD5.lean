
/- The reference's carry. -/
import Derived.Test.YtjhjgncnadhbhaaD4
set_option linter.unusedSimpArgs false
set_option linter.unusedVariables false
set_option maxRecDepth 20000
namespace Go.Proofs.Ytjhjgncnadhbhaa
open Go.RowKit

def fl (dl : Nat → Int) (n : Nat) : List Int := (List.range n).map dl
def sm (dl : Nat → Int) : Nat → Int
  | 0 => 0
  | k + 1 => sm dl k + dl k * 65536 ^ k
def upd (dl : Nat → Int) (k : Nat) (u : Int) : Nat → Int := fun i => if i = k then u else dl i
theorem fl_len (dl : Nat → Int) (n : Nat) : (fl dl n).length = n := by simp [fl]
theorem fl_set (dl : Nat → Int) (n k : Nat) (u : Int) : (encU (fl dl n)).set k (.int .u64 u) = encU (fl (upd dl k u) n) := by
  apply List.ext_getElem?
  intro i
  simp only [encU, fl, upd, List.getElem?_set, List.getElem?_map, List.getElem?_range, List.length_map, List.length_range]
  by_cases hi : i < n
  · by_cases h : k = i
    · subst h; simp [hi, upd]
    · simp [h, hi, upd, show ¬ i = k from fun e => h e.symm]
  · by_cases h : k = i
    · subst h; simp [hi]
    · simp [h, hi]
theorem fl_snoc (dl : Nat → Int) (n : Nat) : fl dl (n + 1) = fl dl n ++ [dl n] := by simp [fl, List.range_succ]
theorem fl_congr {a b : Nat → Int} (n : Nat) (h : ∀ i, i < n → a i = b i) : fl a n = fl b n := by
  unfold fl; apply List.map_congr_left; intro i hi; exact h i (by simpa using hi)
theorem sm_congr {a b : Nat → Int} (n : Nat) (h : ∀ i, i < n → a i = b i) : sm a n = sm b n := by
  induction n with
  | zero => rfl
  | succ n ih => simp only [sm]; rw [ih (fun i hi => h i (by omega)), h n (by omega)]

set_option maxRecDepth 20000 in
set_option maxHeartbeats 4000000 in
theorem carry_any (dl : Nat → Int) (hd : ∀ i, i < 16 → 0 ≤ dl i ∧ dl i ≤ 131070) (base g cap : Nat) (w : World) (hbase : base ≤ w.heap.size) (hrow : w.ownsRow base 28 1 (.slice (some ⟨g, 0, none⟩) 16 cap) 16 (encU (fl dl 16))) :
    Calls Try.prog 82 #[.slice (some ⟨g, 0, none⟩) 16 cap] w fun e w' => ∃ (dl' : Nat → Int) (v : Value), e = .returned v ∧ w'.ownsRow base 28 1 v 17 (encU (fl dl' 17)) ∧ (∀ i, i < 17 → 0 ≤ dl' i ∧ dl' i < 65536) ∧ sm dl' 17 = sm dl 16 ∧ Below base w w' := by
  obtain ⟨i0, hi, hz0, hz1, hz2⟩ := info_parts u64_info
  go_enter Try.func82, Try.ntmps82
  go_wp2
  go_loopw [3, 4] (fun o i wr => ∃ (k : Nat) (c : Int) (dl' : Nat → Int), k ≤ 16 ∧ o = .int .u64 c ∧ i = .int .i64 k ∧ (0 ≤ c ∧ c ≤ 1) ∧ wr.ownsRow base 28 1 (.slice (some ⟨g, 0, none⟩) 16 cap) 16 (encU (fl dl' 16)) ∧ (∀ j, j < k → 0 ≤ dl' j ∧ dl' j < 65536) ∧ (∀ j, k ≤ j → dl' j = dl j) ∧ Hid (sm dl' k + c * 65536 ^ k = sm dl k) ∧ Below base w wr) (fun _ i _ => 16 - (intOf i).toNat)
  case atStart => exact ⟨0, 0, dl, by omega, rfl, rfl, by omega, hrow, fun j h => by omega, fun j _ => rfl, by unfold Hid; simp [sm], Below.refl _ _⟩
  case round =>
    obtain ⟨k, c, dl', hk, rfl, rfl, hc, hr, hlo, hhi, hsm, hB⟩ := hrel
    obtain ⟨g', cap', hv, hg, hgl, hcell, hfz⟩ := row_words (n := 15) hr (fl_len _ _)
    cases hv
    have hsz := hB.size
    by_cases hlt : k < 16
    · have hd' := hd k hlt
      have ck : wr.cell? ⟨g, k, none⟩ = some (.int .u64 (dl k)) := by rw [hcell k hlt]; simp [fl, hhi k (Nat.le_refl _)]
      have fk := hfz k
      obtain ⟨d, hde⟩ : ∃ d, Hid (dl k = d) := ⟨_, rfl⟩
      rw [hde.out] at ck hd'
      obtain ⟨t, hte⟩ : ∃ t, Hid (t = c + d) := ⟨_, rfl⟩
      have htb : 0 ≤ t ∧ t ≤ 131071 := by have := hte.out; omega
      have hw : IntKind.u64.wrap (c + d) = t := by rw [IntKind.wrap_u64]; have := hte.out; omega
      have hr1 : t.tmod 65536 = t % 65536 := Int.tmod_eq_emod_of_nonneg htb.1
      have hr2 : t.tdiv 65536 = t / 65536 := Int.tdiv_eq_ediv_of_nonneg htb.1
      have hnz : ¬ (65536 : Int) = 0 := by omega
      clear hcell hfz
      go_wp2
      all_goals try go_region
      all_goals go_wp2
      all_goals go_roundw
      case rel =>
        refine ⟨k + 1, t / 65536, upd dl' k (t % 65536), by omega, rfl, by go_num, by omega, ?_, ?_, ?_, ?_, ?_⟩
        · rw [← fl_set]; exact row_set _ hr hlt
        · intro j hj; unfold upd; split
          · omega
          · exact hlo j (by omega)
        · intro j hj; unfold upd; rw [if_neg (by omega)]; exact hhi j (by omega)
        · have h := hsm.out
          show _ = _
          simp only [sm]
          rw [sm_congr (b := dl') k (fun i hi => by unfold upd; rw [if_neg (by omega)])]
          rw [← h, hde.out]
          have e : upd dl' k (t % 65536) k = t % 65536 := if_pos rfl
          rw [e, Int.pow_succ]
          have h2 : t % 65536 + t / 65536 * 65536 = c + d := by have := hte.out; omega
          generalize (65536 : Int) ^ k = B at *
          have h3 : (t % 65536 + t / 65536 * 65536) * B = (c + d) * B := by rw [h2]
          grind
        · exact hB.setCell (p := ⟨g, k, none⟩) hg _
      case measure => simp [intOf]; omega
    · have hk' : k = 16 := by omega
      subst hk'
      go_wp2_with (at_builtin; refine wpList_append_own _ rfl _ _ 117 rfl base 28 i0 _ 1 8 Try.underlying117 hi hz0 hz1 hz2 rfl (by decide) _ _ _ rfl (hr.alloc _) ⟨wr.heap.size, 0, none⟩ 1 1 [_] rfl rfl (cell_one_new _ _ _) (by simp [Value.oneCell']) (by unfold maxLen; omega) (by omega) (by simp; omega) ?_; intro v' w' hown' hgrow _)
      go_ret
      refine ⟨upd dl' 16 c, v', rfl, ?_, ?_, ?_, ?_⟩
      · rw [fl_snoc, encU_snoc, fl_congr (b := dl') 16 (fun i hi => by unfold upd; rw [if_neg (by omega)])]
        simpa [upd] using hown'
      · intro i hi; unfold upd; split
        · omega
        · exact hlo i (by omega)
      · have h := hsm.out
        show sm _ 16 + _ = _
        rw [sm_congr (b := dl') 16 (fun i hi => by unfold upd; rw [if_neg (by omega)]), ← h]
        simp [upd]
      · refine (hB.alloc (by omega) _).grown hgrow (by simp; omega) (fun k' e => ?_)
        cases e; exact hg
end Go.Proofs.Ytjhjgncnadhbhaa
