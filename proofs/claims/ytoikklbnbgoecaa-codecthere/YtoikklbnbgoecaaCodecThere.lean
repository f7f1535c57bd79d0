
/- For all lists of parts jointurelaw04.CodecThere returns true and writes nothing that was there: what is laid is read, part by part, byte by byte, and nothing is left. No condition. -/
import Derived.Test.YtoikklbnbgoecaaG24
import Derived.Test.YtoikklbnbgoecaaCodecReads
set_option linter.unusedSimpArgs false
set_option linter.unusedVariables false
namespace Go.Proofs.Ytoikklbnbgoecaa
open Go.ChangeShapes Go.WideShapes Go.ChangeAt Go.RowKit

set_option maxRecDepth 10000 in
set_option maxHeartbeats 8000000 in
theorem codecThere_any {w : World} (a : Option Addr) (len cap : Nat) (l : List Pt) (hm : len ≤ 9223372036854775807) (h : PartsIn w a len l) :
    Calls Try.prog 3 #[.slice a len cap] w fun e w' => e = .returned (.bool true) ∧ Below w.heap.size w w' := by
  have hfew := few_any (cap := cap) hm h w (Below.refl _ _)
  rcases Bool.eq_false_or_eq_true (fewB l) with hf | hf
  · rw [hf] at hfew
    obtain ⟨h30, h20⟩ := fewB_t hf
    obtain ⟨hl, hin, hcell⟩ := h
    have hok : ∀ y ∈ l, Ok y := fun y hy => (hin y hy).ok (h20 y hy)
    have hrng := layA_rng hok
    have hlen := layA_len l
    go_enter Try.func3, Try.ntmps3
    go_wp2_with (go_at_call 10; refine hfew.mono ?_; rintro e w1 ⟨rfl, hb1⟩)
    have hLO : LO w (w1.alloc (.cells #[.slice none 0 0] 28)) w1.heap.size (.slice none 0 0) (.slice none 0 0) [] [] :=
      ⟨⟨World.alloc_heap_new w1 _, World.ownsRow_nil _ _ _ _⟩, World.ownsRow_nil _ _ _ _, .inl rfl, ba hb1 _, hb1.size⟩
    go_loopw [3, 4, 5] (fun wp u i X => ∃ (k : Nat) (v : Value), k ≤ len ∧ wp = .pointer (some ⟨w1.heap.size, 0, none⟩) ∧ i = .int .i64 (k : Int) ∧ LO w X w1.heap.size v u (layA (l.take k)) (layA (l.take k))) (fun _ _ i _ => len - (intOf i).toNat)
    case atStart => exact ⟨0, _, by omega, rfl, rfl, by rw [List.take_zero]; exact hLO⟩
    case round =>
      clear hLO
      obtain ⟨k, v, hk, rfl, rfl, hO⟩ := hrel
      by_cases hlt : k < len
      · obtain ⟨blk, off, rfl, hb, hc⟩ := hcell.resolve_left (by omega)
        have hkl : k < l.length := by omega
        have hc' := hc k l[k] (List.getElem?_eq_getElem hkl)
        have cs : ∀ j x, (ptV l[k])[j]? = some x → wr.cell? ⟨blk, off + k * 6 + j, none⟩ = some x := fun j x hj => (hO.below.cell (p := ⟨blk, off + k * 6 + j, none⟩) hb).trans (hc' j x hj)
        have c0 : wr.cell? ⟨blk, off + k * 6, none⟩ = _ := cs 0 _ rfl
        have c1 := cs 1 _ rfl
        have c2 := cs 2 _ rfl
        have c3 := cs 3 _ rfl
        have c4 := cs 4 _ rfl
        have c5 := cs 5 _ rfl
        have hlk := layA_len (l.take k)
        have hlk2 : (l.take k).length ≤ 30 := by simp; omega
        have hL := layPt_any (hin l[k] (List.getElem_mem hkl)) (h20 l[k] (List.getElem_mem hkl)) hO (by omega) (by omega)
        have htk : Hid (layA (l.take (k + 1)) = layA (l.take k) ++ layP l[k]) := by unfold Hid; rw [List.take_succ_eq_append_getElem hkl, layA_snoc]
        clear cs hc hc' hcell
        obtain ⟨au, cu, rfl⟩ := row_slice hO.row
        generalize hyy : l[k] = y at *
        have hlt' : (k : Int) < (len : Int) := by omega
        go_wp2_with (go_at_call 12; refine hL.mono ?_; rintro e w2 ⟨v2, u2, rfl, hO2⟩)
        all_goals go_roundw
        case rel => exact ⟨k + 1, v2, by omega, rfl, by go_num, by rw [htk.out]; exact hO2⟩
        case measure => (simp [intOf]; omega)
      · obtain rfl : k = len := by omega
        rw [List.take_of_length_le (by omega)] at hO
        obtain ⟨hW, hrow, hap, hbel, hbb⟩ := hO
        generalize hA : layA l = A at *
        obtain ⟨au, cu, rfl⟩ := row_slice hrow
        go_wp2_with (first
          | (go_at_call 13; refine (wDone_any hW (by omega)).mono ?_; rintro e w3 ⟨uq, rfl, ho3, hb3⟩; obtain ⟨aq, cq, rfl⟩ := row_slice ho3; have hB3 := bt hbel hb3; have hr3 := none_row hrow (grown_none hb3); have hu3 := own_bytes (by omega) ho3; have hp3 := own_bytes (by omega) hr3)
          | (go_at_call 14; refine (same_any _ hu3 hp3).mono ?_; rintro e w4 ⟨rfl, hb4⟩; have hB4 := bt hB3 hb4; have ho4 := none_row ho3 (grown_none hb4); have hr4 := none_row hr3 (grown_none hb4))
          | (go_at_call 15; refine (read_new (by omega) hrng (src_own ho4)).mono ?_; rintro e w5 ⟨rb, D, rfl, hR5, hrb, hD, hDl, hb5⟩; have hB5 := bt hB4 hb5; have hr5 := none_row hr4 (grown_none hb5); have lr5 := hR5.lt))
        have hz : wr.heap.size ≤ w5.heap.size := Nat.le_trans hb3.size (Nat.le_trans hb4.size hb5.size)
        have hws : w.heap.size ≤ w4.heap.size := hB4.size
        have hul := hr5.lt
        have hul4 := hr4.lt
        have hI5 : InAt (w5.alloc (.cells #[.slice au A.length cu, .int .i64 0, .bool false] 43)) w5.heap.size (Value.slice au A.length cu).ownBlock (some A) :=
          ⟨_, A, 0, false, al_at rfl, (byt_own hr5 (by omega) hrng).kept (World.grownBy_alloc w5 _ none) (by cases (Value.slice au A.length cu).ownBlock <;> simp), by omega, rfl⟩
        have hR6 := hR5.nn (World.grownBy_alloc w5 (.cells #[.slice au A.length cu, .int .i64 0, .bool false] 43) none)
        have hB6 := ba hB5 (.cells #[.slice au A.length cu, .int .i64 0, .bool false] 43)
        clear hr3 hr4 ho3 ho4 hu3 hp3 hB3 hB4 hb3 hb4 hb5 hR5 hW hrow
        generalize hE : (Value.slice au A.length cu).ownBlock = E at *
        go_loopw [9] (fun i X => ∃ (j : Nat), j ≤ k ∧ i = .int .i64 (j : Int) ∧ RdAt X rb D (some (layA (l.drop j))) ∧ InAt X w5.heap.size E (some (layA (l.drop j))) ∧ Below w.heap.size w X ∧ w5.heap.size < X.heap.size) (fun i _ => k - (intOf i).toNat)
        case atStart => exact ⟨0, by omega, rfl, by rw [List.drop_zero, hA]; exact hR6, by rw [List.drop_zero, hA]; exact hI5, hB6, by simp⟩
        case round =>
          clear hR6 hI5 hB6
          obtain ⟨j, hj, rfl, hR, hI, hBw, hz2⟩ := hrel
          by_cases hlt : j < k
          · obtain ⟨blk, off, rfl, hb, hc⟩ := hcell.resolve_left (by omega)
            have hjl : j < l.length := by omega
            have c0 : wr.cell? ⟨blk, off + j * 6, none⟩ = _ := (hBw.cell (p := ⟨blk, off + j * 6 + 0, none⟩) hb).trans (hc j l[j] (List.getElem?_eq_getElem hjl) 0 _ rfl)
            have hyo := hok l[j] (List.getElem_mem hjl)
            have hdr : l.drop j = l[j] :: l.drop (j + 1) := List.drop_eq_getElem_cons hjl
            rw [hdr, layA_cons] at hR hI
            have hrd := layP_read hyo (layA (l.drop (j + 1)))
            have hx := hyo.1
            clear hc hcell hdr
            generalize hyy : l[j] = y at *
            have hlt' : (j : Int) < (k : Int) := by omega
            have hRd := reads_any (s5 := (coinsS (some (layP y ++ layA (l.drop (j + 1))))).2) (L := (coinsS (some (layP y ++ layA (l.drop (j + 1))))).1) y.k hx (by omega) hD (by intro e; have := (hDl _ e).2; omega) (by intro e; have := hul _ e; omega) (by intro e; have := hul4 _ e; omega) (fun d hd => by have := (hDl d hd).2; omega) (fun d hd => by have := hul d hd; omega) hR hI (coinsS_len hR.rng) (rCoins_any _) (inCoins_any _)
            rw [hrd] at hRd
            go_wp2_with (first
              | (go_at_call 16; refine hRd.mono ?_; rintro e w7 ⟨rfl, hR7, hI7, hT7⟩)
              | (go_at_call 17; refine (rBad_any hR7).mono ?_; rintro e w8 ⟨rfl, rfl⟩))
            all_goals go_roundw
            case rel => exact ⟨j + 1, by omega, by go_num, hR7, hI7, Two.below hBw hT7 (by omega) (by omega), by have := hT7.size; omega⟩
            case measure => (simp [intOf]; omega)
          · obtain rfl : j = k := by omega
            rw [List.drop_of_length_le (by omega)] at hR
            go_wp2_with (first
              | (go_at_call 11; refine (lays_any _).mono ?_; rintro e w9 ⟨rfl, hb9⟩; have hR9 := hR.nn (grown_none hb9); have hB9 := bt hBw hb9)
              | (go_at_call 18; refine (rEnd_any hR9).mono ?_; rintro e w10 ⟨rfl, rfl⟩))
            go_ret
            exact ⟨by simp [endS, layA], hB9⟩
  · rw [hf] at hfew
    go_enter Try.func3, Try.ntmps3
    go_wp2_with (first
      | (go_at_call 10; refine hfew.mono ?_; rintro e w1 ⟨rfl, hb1⟩)
      | (go_at_call 11; refine (lays_any _).mono ?_; rintro e w2 ⟨rfl, hb2⟩))
    go_ret
    exact ⟨rfl, bt hb1 hb2⟩

theorem codecThere_own : ownKnob Try.prog.godebug = none := by kernel_rfl
theorem codecThere_laid : laidOutB Try.prog = true := by kernel_rfl

set_option maxRecDepth 100000 in
theorem codecThere_lifted (os : Os) (started : os.Started) (H : Type) (enc : TypeId × Value → H) :
    ReturnsInHanded {} Try.checked os 3 .any (Rows.codecThereSpec.pre6 enc Try.prog Try.f3 Rows.codecThereRow.domain false) (Rows.codecThereSpec.post enc Try.prog Try.f3 false true false false) := by
  refine returnsInHanded_of_change (C := Try.checked) codecThere_own started (by kernel_rfl) Try.func3
    (ChangeSpec.witness6 (enc := enc) (C := Try.checked) false ⟨#[], #[.slice none 0 0], []⟩ 8 (by kernel_rfl) (by kernel_rfl) (by kernel_rfl) (by kernel_rfl)) ?_
  intro W base args ds gs before hval0 hW hcnd _
  have hval : ∀ (j : Nat) t v, Try.f3.params[j]? = some t → args[j]? = some v → Value.okWide Try.prog W .any base t v := hval0
  have hW' := hW
  obtain ⟨p, q, hA0, hV, rfl, hfz, hnd⟩ := hW
  have hA : DataW.TrodAll enc Try.prog W 0 (fun _ => true) true Try.f3.params.toList args.toList ds p := hA0
  rw [Try.params3] at hA hval
  obtain ⟨v0, vs0, d0, ds0, p0, q0, hargs0, rfl, rfl, h0, r0⟩ := trodAll_cons hA
  obtain ⟨rfl, rfl, rfl⟩ := trodAll_nil r0
  obtain rfl : args = #[v0] := by cases args; simp_all
  obtain ⟨rfl, rfl⟩ := trodVars_none hV
  have k0 := h0
  have lt0 : ∀ x ∈ p0, x.block < W.heap.size := by obtain ⟨m, hm⟩ := k0; exact DataW.trod_lt m _ _ _ hm
  obtain ⟨a0, len0, cap0, rfl⟩ := okWide_slice Try.underlying22 (hval 0 22 v0 rfl rfl)
  obtain ⟨fuel0, hf0⟩ := h0
  simp only [Value.cells] at hf0
  obtain ⟨l0, hl0⟩ := parts_open hf0
  clear hA0 hval0
  have walk : Calls Try.prog 3 _ W fun e w' => e = .returned (.bool true) ∧ Below W.heap.size W w' := codecThere_any a0 len0 cap0 l0 (slice_len Try.underlying22 hf0) hl0
  refine walk.mono fun e W' ⟨he, bel⟩ => ?_
  subst he
  exact ⟨_, rfl, _, _, _, [], _, [], hW', trodAll_mk1 (shut_bool Try.underlying4 _), trodAll_cons_mk (Below.trod codecThere_laid (by kernel_rfl) (of_decide_eq_true (by kernel_rfl)) k0 bel lt0) (trodAll_mk0), rfl, bel.frame _, fun h => by cases h⟩

theorem codecThere_holds : Rows.CodecThereSaid :=
  OpenClaim.holds_of_wide 3 Try.f3 rfl rfl rfl rfl rfl rfl rfl ⟨rfl, rfl, rfl, rfl, rfl⟩ rfl rfl rfl rfl rfl (by kernel_rfl) Try.func3 (by kernel_rfl)
    (of_decide_eq_true (by kernel_rfl)) (by unfold Func.isWrapper; first | (rw [if_pos (by decide +kernel)]; kernel_rfl) | (rw [if_neg (by decide +kernel)]; exact ⟨rfl, rfl⟩))
    (fun os started H enc _ => codecThere_lifted os started H enc)
#print axioms codecThere_holds
end Go.Proofs.Ytoikklbnbgoecaa
