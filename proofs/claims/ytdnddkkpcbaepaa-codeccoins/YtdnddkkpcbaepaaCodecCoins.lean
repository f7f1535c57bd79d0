
/- For all bytes jointurelaw04.CodecCoins returns true and writes nothing that was there: coins of any bytes are just those that are laid in one way. No condition. -/
import Derived.Test.YtdnddkkpcbaepaaG16
set_option linter.unusedSimpArgs false
set_option linter.unusedVariables false
namespace Go.Proofs.Ytdnddkkpcbaepaa
open Go.ChangeShapes Go.WideShapes Go.ChangeAt Go.RowKit

set_option maxHeartbeats 1000000 in
theorem codecCoins_long (a : Option Addr) (la ca : Nat) (h : 400 < la) (hm : la ≤ 9223372036854775807) (w : World) :
    Calls Try.prog 6 #[.slice a la ca] w fun e w' => e = .returned (.bool true) ∧ Below w.heap.size w w' := by
  have h' : (400 : Int) < (la : Int) := by omega
  go_enter Try.func6, Try.ntmps6
  go_wp2_with (go_at_call 11; refine (lays_any _).mono ?_; rintro e w1 ⟨rfl, hb⟩)
  go_ret
  exact ⟨rfl, hb⟩

set_option maxRecDepth 10000 in
set_option maxHeartbeats 4000000 in
theorem codecCoins_w (a : Option Addr) (la ca : Nat) (h1 : la ≤ 400) (w : World) (l : List Int) (E : Option Nat) (hS : Src w (.slice a la ca) l) (hB : Byt w E (.slice a la ca) l) (hEl : ∀ d, E = some d → d < w.heap.size) (hl : l.length = la) (hr : ∀ x ∈ l, 0 ≤ x ∧ x ≤ 255) :
    Calls Try.prog 6 #[.slice a la ca] w fun e w' => e = .returned (.bool true) ∧ Below w.heap.size w w' := by
  have hl1 : ¬ (400 : Int) < (la : Int) := by omega
  have hrg : Rng (some l) := fun p hp x hx => by simp at hp; subst hp; exact hr x hx
  have hC := rCoins_any (some l)
  have hnone := @coinsS_none (some l)
  have hsome := fun r => @coinsS_some (some l) r hrg
  generalize (coinsS (some l)).1 = L at *
  generalize (coinsS (some l)).2 = s' at *
  cases s' with
  | none =>
    have hL := hnone rfl
    subst hL
    clear hnone hsome
    go_enter Try.func6, Try.ntmps6
    go_wp2_with (first
      | (go_at_call 15; refine (read_new (by omega) hr hS).mono ?_; rintro e w1 ⟨rb, D, rfl, hr1, hrb, hD, hDl, hb1⟩)
      | (go_at_call 20; refine (hC _ _ _ hD (fun d hd => (hDl d hd).2) hr1).mono ?_; rintro e w2 ⟨u2, rfl, ho2, hr2, hg2⟩; have hB2 := below_grown hb1 hg2 hrb; obtain ⟨a2, c2, rfl⟩ := row_slice ho2)
      | (go_at_call 17; refine (rBad_any hr2).mono ?_; rintro e w3 ⟨rfl, rfl⟩)
      | (go_at_call 11; refine (lays_any _).mono ?_; rintro e w4 ⟨rfl, hb4⟩))
    go_ret
    exact ⟨by simp, bt hB2 hb4⟩
  | some r =>
    obtain ⟨hp, hL255, hwf⟩ := hsome r rfl
    clear hnone hsome
    simp at hp
    have hplen : l.length = (((L.length : Int) :: layL L) : List Int).length + r.length := by rw [hp]; simp; omega
    have htake : l.take (((L.length : Int) :: layL L) : List Int).length = (L.length : Int) :: layL L := by
      have e : l = ((L.length : Int) :: layL L) ++ r := by rw [hp]; simp
      rw [e]; exact List.take_left
    obtain ⟨q, hq⟩ : ∃ q : List Int, (L.length : Int) :: layL L = q := ⟨_, rfl⟩
    rw [hq] at hplen htake
    have hql : (la : Int) - (r.length : Int) = (q.length : Int) := by omega
    have hqc : q.length ≤ ca := by
      obtain ⟨a', cap', e, k1, -⟩ := hB
      simp at e; omega
    have hqc' : (q.length : Int) ≤ (ca : Int) := by omega
    have hrl : (r.length : Int) ≤ 400 := by omega
    have hq0 : (0 : Int) ≤ (q.length : Int) := by omega
    have hw : IntKind.i64.wrap ((la : Int) - (r.length : Int)) = (q.length : Int) := by rw [IntKind.wrap_i64]; omega
    have hls : leftS (some r) = (r.length : Int) := rfl
    have htake' : Hid _ := htake
    have hql' : q.length ≤ 400 := by omega
    have hq' : Hid _ := hq
    have hfr : IsBytes w (.slice a q.length ca) q := by
      subst hl
      have := hB.front (n := q.length) (by omega)
      rw [htake] at this
      exact this
    clear htake hp hq hplen
    go_enter Try.func6, Try.ntmps6
    go_wp2_with (first
      | (go_at_call 15; refine (read_new (by omega) hr hS).mono ?_; rintro e w1 ⟨rb, D, rfl, hr1, hrb, hD, hDl, hb1⟩; have lr1 := hr1.lt; have hs1 := hb1.size)
      | (go_at_call 20; refine (hC _ _ _ hD (fun d hd => (hDl d hd).2) hr1).mono ?_; rintro e w2 ⟨u2, rfl, ho2, hr2, hg2⟩; have hB2 := below_grown hb1 hg2 hrb; obtain ⟨a2, c2, rfl⟩ := row_slice ho2; have hs2 := hg2.size)
      | (go_at_call 17; refine (rBad_any hr2).mono ?_; rintro e w3 ⟨rfl, hw3⟩; obtain rfl := hw3.symm; clear hw3)
      | (go_at_call 11; (refine (lays_any _).mono ?_; rintro e w4 ⟨rfl, hb4⟩; have hB4 := bt (ba hB2 _) hb4; have hr4 := (hr2.nn (World.grownBy_alloc w2 (.cells #[.slice none 0 0] 28) none)).nn (grown_none hb4); have ho4 := none_row (none_row ho2 (World.grownBy_alloc w2 (.cells #[.slice none 0 0] 28) none)) (grown_none hb4); have hW4 : WrAt w4 w2.heap.size w2.heap.size (.slice none 0 0) [] := ⟨(hb4.block w2.heap.size (by simp)).trans (al_at rfl), World.ownsRow_nil _ _ _ _⟩; have hz4 := hb4.size; simp at hz4))
      | (go_at_call 21; (refine (wCoins_any hW4 (by omega) hwf hL255 (by simp) ho4 (by intro e; have := ho2.lt _ e; omega) (by cases (Value.slice a2 L.length c2).ownBlock <;> simp [Value.ownBlock])).mono ?_; rintro e w5 ⟨rfl, v5, hW5, hF5⟩; rw [hq'.out, List.nil_append] at hW5; have hB5 := WF.below hB4 hF5 hW4 (by omega) (by omega)))
      | (go_at_call 13; refine (wDone_any hW5 (by omega)).mono ?_; rintro e w6 ⟨u6, rfl, ho6, hb6⟩; have hB6 := bt hB5 hb6; have hu6 := own_bytes (by omega) ho6; have hr6 : RdAt w6 rb D (some r) := RdAt.nn (hF5.rd hr4 (by omega) (by simp [Value.ownBlock]) (by cases hD' : D with | none => exact .inl rfl | some d => (right; intro e; have := (hDl d hD').2; simp at e; omega)) (by cases D <;> simp [Value.ownBlock])) (grown_none hb6))
      | (go_at_call 22; refine (rLeft_any hr6).mono ?_; rintro e w7 ⟨rfl, hw7⟩; obtain rfl := hw7.symm; clear hw7)
      | (go_at_call 14; refine (same_any _ hu6 (hfr.below hB6)).mono ?_; rintro e w8 ⟨rfl, hb8⟩))
    all_goals go_ret
    all_goals exact ⟨by simp, bt hB6 hb8⟩

theorem codecCoins_any {w : World} (a : Option Addr) (la ca : Nat) (hm : la ≤ 9223372036854775807) (ho : la ≤ 1048576 → ∃ l : List Int, ∃ E : Option Nat, Src w (.slice a la ca) l ∧ Byt w E (.slice a la ca) l ∧ (∀ d, E = some d → d < w.heap.size) ∧ l.length = la ∧ ∀ b ∈ l, 0 ≤ b ∧ b ≤ 255) :
    Calls Try.prog 6 #[.slice a la ca] w fun e w' => e = .returned (.bool true) ∧ Below w.heap.size w w' := by
  by_cases h : 400 < la
  · exact codecCoins_long a la ca h hm w
  · obtain ⟨l, E, i1, i2, i3, i4, i5⟩ := ho (by omega)
    exact codecCoins_w a la ca (by omega) w l E i1 i2 i3 i4 i5

theorem codecCoins_own : ownKnob Try.prog.godebug = none := by kernel_rfl
theorem codecCoins_laid : laidOutB Try.prog = true := by kernel_rfl

set_option maxRecDepth 100000 in
theorem codecCoins_lifted (os : Os) (started : os.Started) (H : Type) (enc : TypeId × Value → H) :
    ReturnsInHanded {} Try.checked os 6 .any (Rows.codecCoinsSpec.pre6 enc Try.prog Try.f6 Rows.codecCoinsRow.domain false) (Rows.codecCoinsSpec.post enc Try.prog Try.f6 false true false false) := by
  refine returnsInHanded_of_change (C := Try.checked) codecCoins_own started (by kernel_rfl) Try.func6
    (ChangeSpec.witness6 (enc := enc) (C := Try.checked) false ⟨#[], #[.slice none 0 0], []⟩ 8 (by kernel_rfl) (by kernel_rfl) (by kernel_rfl) (by kernel_rfl)) ?_
  intro W base args ds gs before hval0 hW hcnd _
  have hval : ∀ (j : Nat) t v, Try.f6.params[j]? = some t → args[j]? = some v → Value.okWide Try.prog W .any base t v := hval0
  have hW' := hW
  obtain ⟨p, q, hA0, hV, rfl, hfz, hnd⟩ := hW
  have hA : DataW.TrodAll enc Try.prog W 0 (fun _ => true) true Try.f6.params.toList args.toList ds p := hA0
  rw [Try.params6] at hA hval
  obtain ⟨v0, vs0, d0, ds0, p0, q0, hargs0, rfl, rfl, h0, r0⟩ := trodAll_cons hA
  obtain ⟨rfl, rfl, rfl⟩ := trodAll_nil r0
  obtain rfl : args = #[v0] := by cases args; simp_all
  obtain ⟨rfl, rfl⟩ := trodVars_none hV
  have k0 := h0
  have lt0 : ∀ x ∈ p0, x.block < W.heap.size := by obtain ⟨m, hm⟩ := k0; exact DataW.trod_lt m _ _ _ hm
  obtain ⟨a0, len0, cap0, rfl⟩ := okWide_slice Try.underlying26 (hval 0 26 v0 rfl rfl)
  obtain ⟨fuel0, hf0⟩ := h0
  simp only [Value.cells] at hf0
  clear hA0 hval0
  have walk : Calls Try.prog 6 _ W fun e w' => e = .returned (.bool true) ∧ Below W.heap.size W w' := codecCoins_any a0 len0 cap0 (slice_len Try.underlying26 hf0) (fun hl => bytes_open2 hf0 hl)
  refine walk.mono fun e W' ⟨he, bel⟩ => ?_
  subst he
  exact ⟨_, rfl, _, _, _, [], _, [], hW', trodAll_mk1 (shut_bool Try.underlying4 _), trodAll_cons_mk (Below.trod codecCoins_laid (by kernel_rfl) (of_decide_eq_true (by kernel_rfl)) k0 bel lt0) (trodAll_mk0), rfl, bel.frame _, fun h => by cases h⟩

theorem codecCoins_holds : Rows.CodecCoinsSaid :=
  OpenClaim.holds_of_wide 6 Try.f6 rfl rfl rfl rfl rfl rfl rfl ⟨rfl, rfl, rfl, rfl, rfl⟩ rfl rfl rfl rfl rfl (by kernel_rfl) Try.func6 (by kernel_rfl)
    (of_decide_eq_true (by kernel_rfl)) (by unfold Func.isWrapper; first | (rw [if_pos (by decide +kernel)]; kernel_rfl) | (rw [if_neg (by decide +kernel)]; exact ⟨rfl, rfl⟩))
    (fun os started H enc _ => codecCoins_lifted os started H enc)
#print axioms codecCoins_holds
end Go.Proofs.Ytdnddkkpcbaepaa
