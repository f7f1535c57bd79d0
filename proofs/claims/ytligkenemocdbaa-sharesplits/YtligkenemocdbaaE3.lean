
/- The reference's carry of 32 digits. -/
import Derived.Test.YtligkenemocdbaaE1
set_option linter.unusedSimpArgs false
set_option linter.unusedVariables false
namespace Go.Proofs.Ytligkenemocdbaa
open Go.RowKit

set_option maxHeartbeats 4000000 in
theorem carry32_any (dl : Nat → Int) (hd : ∀ i, i < 32 → 0 ≤ dl i ∧ dl i ≤ 131070) (base g cap : Nat) (w : World) (hbase : base ≤ w.heap.size) (hrow : w.ownsRow base 22 1 (.slice (some ⟨g, 0, none⟩) 32 cap) 32 (encU (fl dl 32))) :
    Calls Try.prog 31 #[.slice (some ⟨g, 0, none⟩) 32 cap] w fun e w' => ∃ (dl' : Nat → Int) (v : Value), e = .returned v ∧ w'.ownsRow base 22 1 v 33 (encU (fl dl' 33)) ∧ (∀ i, i < 33 → 0 ≤ dl' i ∧ dl' i < 65536) ∧ sm dl' 33 = sm dl 32 ∧ Below base w w' := by
  obtain ⟨i0, hi, hz0, hz1, hz2⟩ := info_parts u64_info
  go_enter Try.func31, Try.ntmps31
  go_wp2
  go_loopw [3, 4] (fun o i wr => ∃ (k : Nat) (c : Int) (dl' : Nat → Int), k ≤ 32 ∧ o = .int .u64 c ∧ i = .int .i64 k ∧ (0 ≤ c ∧ c ≤ 1) ∧ wr.ownsRow base 22 1 (.slice (some ⟨g, 0, none⟩) 32 cap) 32 (encU (fl dl' 32)) ∧ (∀ j, j < k → 0 ≤ dl' j ∧ dl' j < 65536) ∧ (∀ j, k ≤ j → dl' j = dl j) ∧ Hid (sm dl' k + c * 65536 ^ k = sm dl k) ∧ Below base w wr) (fun _ i _ => 32 - (intOf i).toNat)
  case atStart => exact ⟨0, 0, dl, by omega, rfl, rfl, by omega, hrow, fun j h => by omega, fun j _ => rfl, by unfold Hid; simp [sm], Below.refl _ _⟩
  case round =>
    obtain ⟨k, c, dl', hk, rfl, rfl, hc, hr, hlo, hhi, hsm, hB⟩ := hrel
    obtain ⟨g', cap', hv, hg, hgl, hcell, hfz⟩ := row_words (n := 31) hr (fl_len _ _)
    cases hv
    have hsz := hB.size
    by_cases hlt : k < 32
    · have hd' := hd k hlt
      have ck : wr.cell? ⟨g, k, none⟩ = some (.int .u64 (dl k)) := by rw [hcell k hlt]; simp [fl, hhi k (Nat.le_refl _)]
      have fk := hfz k
      obtain ⟨d, hde⟩ : ∃ d, Hid (dl k = d) := ⟨_, rfl⟩
      rw [hde.out] at ck hd'
      obtain ⟨t, hte⟩ : ∃ t, Hid (t = c + d) := ⟨_, rfl⟩
      have htb : 0 ≤ t ∧ t ≤ 131071 := by have := hte.out; omega
      have hw : IntKind.u64.wrap (c + d) = t := by rw [IntKind.wrap_u64]; have := hte.out; omega
      have hr1 : t.tmod 65536 = t % 65536 := Int.tmod_eq_emod_of_nonneg htb.1
      have hr2 : t.tdiv 65536 = t / 65536 := Int.tdiv_eq_ediv_of_nonneg htb.1
      have hnz : ¬ (65536 : Int) = 0 := by omega
      clear hcell hfz
      go_wp2
      all_goals try go_region
      all_goals go_wp2
      all_goals go_roundw
      case rel =>
        refine ⟨k + 1, t / 65536, upd dl' k (t % 65536), by omega, rfl, by go_num, by omega, ?_, ?_, ?_, ?_, ?_⟩
        · rw [← fl_set]; exact row_set _ hr hlt
        · intro j hj; unfold upd; split
          · omega
          · exact hlo j (by omega)
        · intro j hj; unfold upd; rw [if_neg (by omega)]; exact hhi j (by omega)
        · have h := hsm.out
          show _ = _
          simp only [sm]
          rw [sm_congr (b := dl') k (fun i hi => by unfold upd; rw [if_neg (by omega)])]
          rw [← h, hde.out]
          have e : upd dl' k (t % 65536) k = t % 65536 := if_pos rfl
          rw [e, Int.pow_succ]
          have h2 : t % 65536 + t / 65536 * 65536 = c + d := by have := hte.out; omega
          generalize (65536 : Int) ^ k = B at *
          have h3 : (t % 65536 + t / 65536 * 65536) * B = (c + d) * B := by rw [h2]
          grind
        · exact hB.setCell (p := ⟨g, k, none⟩) hg _
      case measure => simp [intOf]; omega
    · have hk' : k = 32 := by omega
      subst hk'
      go_wp2_with (at_builtin; refine wpList_append_own _ rfl _ _ 42 rfl base 22 i0 _ 1 8 Try.underlying42 hi hz0 hz1 hz2 rfl (by decide) _ _ _ rfl (hr.alloc _) ⟨wr.heap.size, 0, none⟩ 1 1 [_] rfl rfl (cell_one_new _ _ _) (by simp [Value.oneCell']) (by unfold maxLen; omega) (by omega) (by simp; omega) ?_; intro v' w' hown' hgrow _)
      go_ret
      refine ⟨upd dl' 32 c, v', rfl, ?_, ?_, ?_, ?_⟩
      · rw [fl_snoc, encU_snoc, fl_congr (b := dl') 32 (fun i hi => by unfold upd; rw [if_neg (by omega)])]
        simpa [upd] using hown'
      · intro i hi; unfold upd; split
        · omega
        · exact hlo i (by omega)
      · have h := hsm.out
        show sm _ 32 + _ = _
        rw [sm_congr (b := dl') 32 (fun i hi => by unfold upd; rw [if_neg (by omega)]), ← h]
        simp [upd]
      · refine (hB.alloc (by omega) _).grown hgrow (by simp; omega) (fun k' e => ?_)
        cases e; exact hg
end Go.Proofs.Ytligkenemocdbaa
