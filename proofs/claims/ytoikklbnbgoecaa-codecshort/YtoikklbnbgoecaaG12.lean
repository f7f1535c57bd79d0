
/- codec: coins with a fault; arguments that are bytes; CodecFails. -/
import Derived.Test.YtoikklbnbgoecaaG9
import Derived.Test.YtoikklbnbgoecaaR
import Derived.WalkMore
import Derived.Test.YtoikklbnbgoecaaG11
import Derived.Test.YtoikklbnbgoecaaV2
set_option linter.unusedSimpArgs false
set_option linter.unusedVariables false
namespace Go.Proofs.Ytoikklbnbgoecaa
open Go.ChangeShapes Go.WideShapes Go.ChangeAt Go.RowKit

section
variable {H : Type} {enc : TypeId × Value → H} {w : World} {base : Nat} {spare : Nat → Bool} {held : Bool} {fuel : Nat} {x : DataW H × List MemPlace}
theorem bytes_open2 {a : Option Addr} {len cap : Nat} (h : DataW.trod enc Try.prog w base spare held fuel 26 [.slice a len cap] = some x) (hlen : len ≤ 1048576) :
    ∃ l : List Int, ∃ E : Option Nat, Src w (.slice a len cap) l ∧ Byt w E (.slice a len cap) l ∧ (∀ d, E = some d → d < w.heap.size) ∧ l.length = len ∧ ∀ b ∈ l, 0 ≤ b ∧ b ≤ 255 := by
  obtain ⟨l, hI, hl, hr⟩ := bytes_open h hlen
  rcases Deep.open_slice Try.underlying26 h with ⟨e, -⟩ | ⟨ad, len', cap', m, n, D, Pl, e, hb, hlc, hm, hmm, -, hall⟩
  · simp at e
    obtain ⟨rfl, rfl, rfl⟩ := e
    obtain rfl := List.eq_nil_of_length_eq_zero hl
    exact ⟨[], none, .inl ⟨rfl, rfl⟩, byt_nil _ _, by simp, rfl, by simp⟩
  · simp at e
    obtain ⟨rfl, rfl, rfl⟩ := e
    subst hl
    rcases hI with ⟨rfl, -⟩ | ⟨blk, off, cap', e, h1, h2, h3⟩
    · exact ⟨[], none, .inr ⟨ad, cap, rfl, by simp⟩, ⟨_, cap, rfl, by simp, by simp, by simp, .inl rfl⟩, by simp, rfl, by simp⟩
    · simp at e
      obtain ⟨rfl, -⟩ := e
      exact ⟨l, some blk, .inr ⟨_, cap, rfl, fun i x hi => by rw [add_cell]; exact h3 i x hi⟩, ⟨_, cap, rfl, hlc, hlen, hr, .inr ⟨blk, off, rfl, rfl, h2, h3⟩⟩, fun d hd => by simp at hd; omega, rfl, hr⟩
end

set_option maxHeartbeats 1000000 in
theorem rCoins_bad : RCo none [] none := by
  intro W b D hD hDl hR
  have hT : Calls Try.prog 26 #[.pointer (some ⟨b, 0, none⟩)] W fun e w' => e = .returned (.int .u8 0) ∧ RdAt w' b D none ∧ W.grownBy w' (some b) := rByte_any hD hR
  go_enter Try.func20, Try.ntmps20
  go_wp2
  go_step3
  go_wp2_with (first
    | (go_at_call 26; refine hT.mono ?_; rintro e w1 ⟨rfl, hr1, hg1⟩))
  go_step3
  go_wp2_with (first
    | (go_at_call 48; refine (right_none _ _ _).mono ?_; rintro e w2 ⟨rfl, hb2⟩; have hr2 := hr1.nn (grown_none hb2))
    | (go_at_call 17; refine (rBad_any hr2).mono ?_; rintro e w3 ⟨rfl, rfl⟩))
  try rw [Exit.noGoto_ret]
  go_ret
  exact ⟨_, rfl, World.ownsRow_nil _ _ _ _, hr2, grown_tr hg1 (grown_up (grown_none hb2))⟩
set_option maxHeartbeats 1000000 in
theorem inCoins_bad : ICo none [] none := by
  intro W b D hD hDl hR
  have hT : Calls Try.prog 41 #[.pointer (some ⟨b, 0, none⟩)] W fun e w' => e = .returned (.int .u8 0) ∧ InAt w' b D none ∧ W.grownBy w' (some b) := inByte_any hD hR
  go_enter Try.func45, Try.ntmps45
  go_wp2_with (first
    | (go_at_call 41; refine hT.mono ?_; rintro e w1 ⟨rfl, hr1, hg1⟩; obtain ⟨a, cap, p, k, hblk, hB, hk, c0, c1, c2, f⟩ := hr1.opnN))
  apply wp_loop_rounds 1
  simp only [Code.rounds]
  go_wp2
  go_ret
  have hg2 := grown_se hg1 2 (.bool true)
  exact ⟨_, rfl, World.ownsRow_nil _ _ _ _, ⟨_, p, k, true, by rw [block_set _ hblk]; rfl, hB.kept (grown_se (grown_ref _ _) _ _) (.inr hD), hk, rfl⟩, hg2⟩
theorem rdS_none (r : Int) : rdS none none r = none := by
  unfold rdS
  split
  · rfl
  · split
    · rfl
    · split
      · rfl
      · split
        · rfl
        · split <;> rfl
end Go.Proofs.Ytoikklbnbgoecaa
