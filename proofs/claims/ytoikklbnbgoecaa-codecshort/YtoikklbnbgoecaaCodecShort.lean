
/- For all lists of parts and all places jointurelaw04.CodecShort returns true and writes nothing that was there: what is laid, cut short anywhere, is a fault, at the part that isn't all there. No condition. -/
import Derived.Test.YtoikklbnbgoecaaG24
import Derived.Test.YtoikklbnbgoecaaCodecReads
set_option linter.unusedSimpArgs false
set_option linter.unusedVariables false
namespace Go.Proofs.Ytoikklbnbgoecaa
open Go.ChangeShapes Go.WideShapes Go.ChangeAt Go.RowKit

theorem u16_in {H : Type} {enc : TypeId × Value → H} {w : World} {base : Nat} {spare : Nat → Bool} {held : Bool} {fuel : Nat} {x : DataW H × List MemPlace} {n : Int} (h : DataW.trod enc Try.prog w base spare held fuel 45 [.int .u16 n] = some x) : 0 ≤ n ∧ n < 65536 := by
  obtain ⟨d, ed, -, wd⟩ := DataW.trod_int Try.underlying45 h
  simp at ed
  subst ed
  have := bounds_u16 wd
  omega
/-- A reader and the document's, side by side. -/
structure RS (w X : World) (rb ib : Nat) (D E : Option Nat) (s : Option (List Int)) : Prop where
  rd : RdAt X rb D s
  ins : InAt X ib E s
  below : Below w.heap.size w X
  ne : rb ≠ ib
  d1 : D ≠ some rb
  d2 : D ≠ some ib
  e1 : E ≠ some ib
  e2 : E ≠ some rb
  dl : ∀ d, D = some d → d < X.heap.size
  el : ∀ d, E = some d → d < X.heap.size
  r0 : w.heap.size ≤ rb
  i0 : w.heap.size ≤ ib
theorem RS.reads {w X : World} {rb ib : Nat} {D E : Option Nat} {s : Option (List Int)} (h : RS w X rb ib D E s) (n : Int) (hn : 0 ≤ n ∧ n ≤ 255) :
    Calls Try.prog 16 #[.pointer (some ⟨rb, 0, none⟩), .pointer (some ⟨ib, 0, none⟩), .int .u8 n] X fun e w' => e = .returned (.bool true) ∧ RS w w' rb ib D E (rdS s (coinsS s).2 (n % 6)) := by
  refine (reads_any n hn h.ne h.d1 h.d2 h.e1 h.e2 h.dl h.el h.rd h.ins (coinsS_len h.rd.rng) (rCoins_any s) (inCoins_any s)).mono ?_
  rintro e w' ⟨rfl, h1, h2, h3⟩
  exact ⟨rfl, h1, h2, h3.below h.below h.r0 h.i0, h.ne, h.d1, h.d2, h.e1, h.e2, fun d hd => Nat.lt_of_lt_of_le (h.dl d hd) h3.size, fun d hd => Nat.lt_of_lt_of_le (h.el d hd) h3.size, h.r0, h.i0⟩
theorem rs_a {w w4 w5 : World} {rb : Nat} {D E : Option Nat} {q : List Int} {u : Value} (hB : Below w.heap.size w w4) (hR : RdAt w5 rb D (some q)) (hrb : w4.heap.size ≤ rb) (hD : D ≠ some rb) (hDl : ∀ d, D = some d → w4.heap.size ≤ d ∧ d < w5.heap.size) (hb : Below w4.drew.heap.size w4.drew w5) (hu : Byt w4 E u q) (hul : ∀ d, E = some d → d < w4.heap.size) :
    RS w (w5.alloc (.cells #[u, .int .i64 0, .bool false] 43)) rb w5.heap.size D E (some q) := by
  have hl := hR.lt
  have h4 : w4.heap.size ≤ w5.heap.size := hb.size
  have hw := hB.size
  have hg : w4.grownBy w5 none := grown_tr (grown_dr (grown_ref w4 none)) (grown_none hb)
  refine ⟨hR.nn (World.grownBy_alloc _ _ _), ⟨_, q, 0, false, World.alloc_heap_new _ _, (hu.kept hg (by cases E <;> simp)).kept (World.grownBy_alloc w5 _ none) (by cases E <;> simp), by omega, rfl⟩, ba (hB.grown hg hB.size (by simp)) _, by omega, hD, fun e => ?_, fun e => ?_, fun e => ?_, fun d hd => ?_, fun d hd => ?_, by omega, by omega⟩
  · have := (hDl _ e).2; omega
  · have := hul _ e; omega
  · have := hul _ e; omega
  · have := (hDl _ hd).2; simp; omega
  · have := hul _ hd; simp; omega
theorem rs_b {w w4 w5 : World} {rb : Nat} {D E : Option Nat} {q : List Int} {u : Value} (hB : Below w.heap.size w w4) (hR : RdAt w5 rb D (some q)) (hrb : (w4.alloc (.cells #[u, .int .i64 0, .bool false] 43)).drew.heap.size ≤ rb) (hD : D ≠ some rb) (hDl : ∀ d, D = some d → (w4.alloc (.cells #[u, .int .i64 0, .bool false] 43)).drew.heap.size ≤ d ∧ d < w5.heap.size) (hb : Below (w4.alloc (.cells #[u, .int .i64 0, .bool false] 43)).drew.heap.size (w4.alloc (.cells #[u, .int .i64 0, .bool false] 43)).drew w5) (hu : Byt w4 E u q) (hul : ∀ d, E = some d → d < w4.heap.size) :
    RS w w5 rb w4.heap.size D E (some q) := by
  have hl := hR.lt
  have h4 := hb.size
  have hw := hB.size
  have hg : w4.grownBy w5 none := grown_tr (grown_dr (World.grownBy_alloc w4 _ none)) (grown_none hb)
  have hz : (w4.alloc (.cells #[u, .int .i64 0, .bool false] 43)).drew.heap.size = w4.heap.size + 1 := by show (w4.alloc _).heap.size = _; simp
  rw [hz] at hrb h4
  have hblk : w5.heap[w4.heap.size]? = some (.cells #[u, .int .i64 0, .bool false] 43 (0, 0)) := (hb.block w4.heap.size (by rw [hz]; omega)).trans (World.alloc_heap_new w4 _)
  refine ⟨hR, ⟨_, q, 0, false, hblk, hu.kept hg (by cases E <;> simp), by omega, rfl⟩, hB.grown hg hB.size (by simp), by omega, hD, fun e => ?_, fun e => ?_, fun e => ?_, fun d hd => ?_, fun d hd => ?_, by omega, by omega⟩
  · have := (hDl _ e).1; rw [hz] at this; omega
  · have := hul _ e; omega
  · have := hul _ e; omega
  · have := (hDl _ hd).2; omega
  · have := hul _ hd; omega
theorem Src.front {W : World} {a : Option Addr} {cap n : Nat} {p : List Int} (h : Src W (.slice a p.length cap) p) (hn : n < p.length) : Src W (.slice a n cap) (p.take n) := by
  rcases h with ⟨e, e2⟩ | ⟨ad, cap', e, hc⟩
  · subst e2; simp at hn
  · simp at e
    obtain ⟨rfl, rfl⟩ := e
    refine .inr ⟨ad, cap, by rw [List.length_take]; congr 1; omega, fun i x hi => hc i x ?_⟩
    rw [List.getElem?_take] at hi
    split at hi
    · exact hi
    · simp at hi
theorem Byt.cut {W : World} {D : Option Nat} {n cap : Nat} {a : Option Addr} {p : List Int} (h : Byt W D (.slice a p.length cap) p) (hn : n ≤ p.length) : Byt W D (.slice a n cap) (p.take n) := by
  obtain ⟨a', cap', e, h1, h2, h3, h4⟩ := h
  simp at e
  obtain ⟨rfl, rfl⟩ := e
  have hl : (p.take n).length = n := by simp; omega
  refine ⟨a, cap, by rw [hl], by omega, by omega, fun x hx => h3 x (List.mem_of_mem_take hx), ?_⟩
  rcases h4 with h4 | ⟨d, off, hd, ha, h5, h6⟩
  · left; rw [h4]; simp
  · right
    refine ⟨d, off, hd, ha, h5, fun i x hi => h6 i x ?_⟩
    rw [List.getElem?_take] at hi
    split at hi
    · exact hi
    · simp at hi

set_option maxRecDepth 10000 in
set_option maxHeartbeats 8000000 in
theorem codecShort_any {w : World} (a : Option Addr) (len cap : Nat) (l : List Pt) (cut : Int) (hm : len ≤ 9223372036854775807) (h : PartsIn w a len l) (hcut : 0 ≤ cut ∧ cut < 65536) :
    Calls Try.prog 5 #[.slice a len cap, .int .u16 cut] w fun e w' => e = .returned (.bool true) ∧ Below w.heap.size w w' := by
  have hfew := few_any (cap := cap) hm h w (Below.refl _ _)
  by_cases h0 : len = 0
  · subst h0
    have e : fewB l = true := by
      have hl := List.eq_nil_of_length_eq_zero h.num
      subst hl; rfl
    rw [e] at hfew
    go_enter Try.func5, Try.ntmps5
    go_wp2_with (first
      | (go_at_call 10; refine hfew.mono ?_; rintro e w1 ⟨rfl, hb1⟩)
      | (go_at_call 11; refine (lays_any _).mono ?_; rintro e w2 ⟨rfl, hb2⟩))
    go_ret
    exact ⟨rfl, bt hb1 hb2⟩
  have hne : (len : Int) ≠ 0 := by omega
  have hneb : ((len : Int) == 0) = false := by simpa using h0
  rcases Bool.eq_false_or_eq_true (fewB l) with hf | hf
  · rw [hf] at hfew
    obtain ⟨h30, h20⟩ := fewB_t hf
    obtain ⟨hl, hin, hcell⟩ := h
    have hok : ∀ y ∈ l, Ok y := fun y hy => (hin y hy).ok (h20 y hy)
    have hrng := layA_rng hok
    have hlen := layA_len l
    go_enter Try.func5, Try.ntmps5
    go_wp2_with (go_at_call 10; refine hfew.mono ?_; rintro e w1 ⟨rfl, hb1⟩)
    have hLO : LO w (w1.alloc (.cells #[.slice none 0 0] 28)) w1.heap.size (.slice none 0 0) (.slice none 0 0) [] [] :=
      ⟨⟨World.alloc_heap_new w1 _, World.ownsRow_nil _ _ _ _⟩, World.ownsRow_nil _ _ _ _, .inl rfl, ba hb1 _, hb1.size⟩
    go_loopw [5, 6, 7] (fun wp u i X => ∃ (k : Nat) (v : Value), k ≤ len ∧ wp = .pointer (some ⟨w1.heap.size, 0, none⟩) ∧ i = .int .i64 (k : Int) ∧ LO w X w1.heap.size v u (layA (l.take k)) (layA (l.take k))) (fun _ _ i _ => len - (intOf i).toNat)
    case atStart => exact ⟨0, _, by omega, rfl, rfl, by rw [List.take_zero]; exact hLO⟩
    case round =>
      clear hLO
      obtain ⟨k, v, hk, rfl, rfl, hO⟩ := hrel
      by_cases hlt : k < len
      · obtain ⟨blk, off, rfl, hb, hc⟩ := hcell.resolve_left (by omega)
        have hkl : k < l.length := by omega
        have hc' := hc k l[k] (List.getElem?_eq_getElem hkl)
        have cs : ∀ j x, (ptV l[k])[j]? = some x → wr.cell? ⟨blk, off + k * 6 + j, none⟩ = some x := fun j x hj => (hO.below.cell (p := ⟨blk, off + k * 6 + j, none⟩) hb).trans (hc' j x hj)
        have c0 : wr.cell? ⟨blk, off + k * 6, none⟩ = _ := cs 0 _ rfl
        have c1 := cs 1 _ rfl
        have c2 := cs 2 _ rfl
        have c3 := cs 3 _ rfl
        have c4 := cs 4 _ rfl
        have c5 := cs 5 _ rfl
        have hlk := layA_len (l.take k)
        have hlk2 : (l.take k).length ≤ 30 := by simp; omega
        have hL := layPt_any (hin l[k] (List.getElem_mem hkl)) (h20 l[k] (List.getElem_mem hkl)) hO (by omega) (by omega)
        have htk : Hid (layA (l.take (k + 1)) = layA (l.take k) ++ layP l[k]) := by unfold Hid; rw [List.take_succ_eq_append_getElem hkl, layA_snoc]
        clear cs hc hc' hcell
        obtain ⟨au, cu, rfl⟩ := row_slice hO.row
        generalize hyy : l[k] = y at *
        have hlt' : (k : Int) < (len : Int) := by omega
        go_wp2_with (go_at_call 12; refine hL.mono ?_; rintro e w2 ⟨v2, u2, rfl, hO2⟩)
        all_goals go_roundw
        case rel => exact ⟨k + 1, v2, by omega, rfl, by go_num, by rw [htk.out]; exact hO2⟩
        case measure => (simp [intOf]; omega)
      · obtain rfl : k = len := by omega
        rw [List.take_of_length_le (by omega)] at hO
        obtain ⟨hW, hrow, hap, hbel, hbb⟩ := hO
        generalize hA : layA l = A at *
        obtain ⟨au, cu, rfl⟩ := row_slice hrow
        have hpos : 0 < A.length := by rw [← hA]; exact layA_pos (by intro e; rw [e] at hl; simp at hl; omega)
        obtain ⟨c, hc⟩ : ∃ c : Nat, (c : Int) = cut % (A.length : Int) := ⟨(cut % (A.length : Int)).toNat, by have := Int.emod_nonneg cut (show (A.length : Int) ≠ 0 by omega); omega⟩
        have hcl : c < A.length := by have := Int.emod_lt_of_pos cut (show 0 < (A.length : Int) by omega); omega
        have htm : cut.tmod (A.length : Int) = (c : Int) := by rw [Int.tmod_eq_emod_of_nonneg hcut.1, hc]
        have hAz : ¬ (A.length : Int) = 0 := by omega
        have hcc : ∀ {X : World} {base : Nat} {aa : Option Addr} {cc : Nat}, X.ownsRow base 5 1 (.slice aa A.length cc) A.length (encB A) → A.length ≤ cc := by
          intro X base aa cc ho
          rcases ho.2 with ⟨e, e2⟩ | ⟨g, cap', cur, e, _, _, h3, _⟩
          · omega
          · simp at e; omega
        have hcu := hcc hrow
        have hcu' : (c : Int) ≤ (cu : Int) := by omega
        have hc0 : (0 : Int) ≤ (c : Int) := by omega
        clear hc
        go_wp2_with (first
          | (go_at_call 13; refine (wDone_any hW (by omega)).mono ?_; rintro e w3 ⟨uq, rfl, ho3, hb3⟩; obtain ⟨aq, cq, rfl⟩ := row_slice ho3; have hB3 := bt hbel hb3; have hr3 := none_row hrow (grown_none hb3); have hu3 := own_bytes (by omega) ho3; have hp3 := own_bytes (by omega) hr3)
          | (go_at_call 14; refine (same_any _ hu3 hp3).mono ?_; rintro e w4 ⟨rfl, hb4⟩; have hB4 := bt hB3 hb4; have ho4 := none_row ho3 (grown_none hb4); have hr4 := none_row hr3 (grown_none hb4)))
        have hcq := hcc ho4
        have hcq' : (c : Int) ≤ (cq : Int) := by omega
        clear hcc
        have hsrc : Src w4 (.slice aq c cq) (A.take c) := (src_own ho4).front hcl
        have hs1 : Src w4.drew (.slice aq c cq) (A.take c) := hsrc.kept (grown_dr (grown_ref _ _))
        have hs2 : Src (w4.alloc (.cells #[.slice au c cu, .int .i64 0, .bool false] 43)).drew (.slice aq c cq) (A.take c) := hsrc.kept (grown_dr (World.grownBy_alloc _ _ _))
        have hrng' : ∀ x ∈ A.take c, 0 ≤ x ∧ x ≤ 255 := fun x hx => hrng x (List.mem_of_mem_take hx)
        have hlc : (A.take c).length ≤ 1048576 := by rw [List.length_take]; omega
        have hbyt := (byt_own hr4 (by omega) hrng).cut (n := c) (by omega)
        have hul := fun d hd => (hr4.lt d hd).2
        have hws : w.heap.size ≤ w4.heap.size := hB4.size
        generalize hE : (Value.slice au A.length cu).ownBlock = E at *
        go_region_held2 (fun _ => True) (exact True.intro) (first
          | (go_at_call 15; refine (read_new hlc hrng' (by first | exact hs1 | exact hs2)).mono ?_; rintro e w5 ⟨rb, D, rfl, hR5, hrb, hD, hDl, hb5⟩))
        all_goals first | (have hS := rs_a hB4 hR5 hrb hD hDl hb5 hbyt hul; clear hR5 hrb hD hDl hb5; generalize w5.heap.size = ib at *) | (have hS := rs_b hB4 hR5 hrb hD hDl hb5 hbyt hul; clear hR5 hrb hD hDl hb5; generalize w4.heap.size = ib at *)
        all_goals
          clear hW hrow ho3 ho4 hr3 hr4 hu3 hp3 hB3 hB4 hb3 hb4 hbyt hul hs1 hs2 hsrc
          go_wp2
          go_loopw [12] (fun i X => ∃ (j : Nat) (s : Option (List Int)), j ≤ k ∧ i = .int .i64 (j : Int) ∧ RS w X rb ib D E s ∧ Cutd s (l.drop j)) (fun i _ => k - (intOf i).toNat)
          case atStart => exact ⟨0, _, by omega, rfl, hS, .inr ⟨c, by rw [List.drop_zero, hA]; exact hcl, by rw [List.drop_zero, hA]⟩⟩
          case round =>
            clear hS
            obtain ⟨j, s, hj, rfl, hS, hC⟩ := hrel
            by_cases hlt : j < k
            · obtain ⟨blk, off, rfl, hb, hc⟩ := hcell.resolve_left (by omega)
              have hjl : j < l.length := by omega
              have c0 : wr.cell? ⟨blk, off + j * 6, none⟩ = _ := (hS.below.cell (p := ⟨blk, off + j * 6 + 0, none⟩) hb).trans (hc j l[j] (List.getElem?_eq_getElem hjl) 0 _ rfl)
              have hyo := hok l[j] (List.getElem_mem hjl)
              rw [List.drop_eq_getElem_cons hjl] at hC
              have hC' : Hid _ := cut_step hyo hC
              have hx := hyo.1
              clear hc hcell hC
              have hRd := hS.reads l[j].k hx
              generalize hyy : l[j] = y at *
              have hlt' : (j : Int) < (k : Int) := by omega
              go_wp2_with (go_at_call 16; refine hRd.mono ?_; rintro e w7 ⟨rfl, hS7⟩)
              all_goals go_roundw
              case rel => exact ⟨j + 1, _, by omega, by go_num, hS7, hC'.out⟩
              case measure => (simp [intOf]; omega)
            · obtain rfl : j = k := by omega
              rw [List.drop_of_length_le (by omega)] at hC
              have hsn : s = none := by
                rcases hC with h | ⟨m, hm, -⟩
                · exact h
                · simp [layA] at hm
              subst hsn
              have hR := hS.rd
              have hBw := hS.below
              go_wp2_with (first
                | (go_at_call 11; refine (lays_any _).mono ?_; rintro e w9 ⟨rfl, hb9⟩; have hR9 := hR.nn (grown_none hb9); have hB9 := bt hBw hb9)
                | (go_at_call 17; refine (rBad_any hR9).mono ?_; rintro e w8 ⟨rfl, rfl⟩)
                | (go_at_call 18; refine (rEnd_any hR9).mono ?_; rintro e w10 ⟨rfl, rfl⟩))
              go_ret
              exact ⟨by simp [endS], hB9⟩
  · rw [hf] at hfew
    go_enter Try.func5, Try.ntmps5
    go_wp2_with (first
      | (go_at_call 10; refine hfew.mono ?_; rintro e w1 ⟨rfl, hb1⟩)
      | (go_at_call 11; refine (lays_any _).mono ?_; rintro e w2 ⟨rfl, hb2⟩))
    go_ret
    exact ⟨rfl, bt hb1 hb2⟩

theorem codecShort_own : ownKnob Try.prog.godebug = none := by kernel_rfl
theorem codecShort_laid : laidOutB Try.prog = true := by kernel_rfl

set_option maxRecDepth 100000 in
theorem codecShort_lifted (os : Os) (started : os.Started) (H : Type) (enc : TypeId × Value → H) :
    ReturnsInHanded {} Try.checked os 5 .any (Rows.codecShortSpec.pre6 enc Try.prog Try.f5 Rows.codecShortRow.domain false) (Rows.codecShortSpec.post enc Try.prog Try.f5 false true false false) := by
  refine returnsInHanded_of_change (C := Try.checked) codecShort_own started (by kernel_rfl) Try.func5
    (ChangeSpec.witness6 (enc := enc) (C := Try.checked) false ⟨#[], #[.slice none 0 0, .int .u16 0], []⟩ 8 (by kernel_rfl) (by kernel_rfl) (by kernel_rfl) (by kernel_rfl)) ?_
  intro W base args ds gs before hval0 hW hcnd _
  have hval : ∀ (j : Nat) t v, Try.f5.params[j]? = some t → args[j]? = some v → Value.okWide Try.prog W .any base t v := hval0
  have hW' := hW
  obtain ⟨p, q, hA0, hV, rfl, hfz, hnd⟩ := hW
  have hA : DataW.TrodAll enc Try.prog W 0 (fun _ => true) true Try.f5.params.toList args.toList ds p := hA0
  rw [Try.params5] at hA hval
  obtain ⟨v0, vs0, d0, ds0, p0, q0, hargs0, rfl, rfl, h0, r0⟩ := trodAll_cons hA
  obtain ⟨v1, vs1, d1, ds1, p1, q1, hargs1, rfl, rfl, h1, r1⟩ := trodAll_cons r0
  obtain ⟨rfl, rfl, rfl⟩ := trodAll_nil r1
  obtain rfl : args = #[v0, v1] := by cases args; simp_all
  obtain ⟨rfl, rfl⟩ := trodVars_none hV
  have k0 := h0
  have lt0 : ∀ x ∈ p0, x.block < W.heap.size := by obtain ⟨m, hm⟩ := k0; exact DataW.trod_lt m _ _ _ hm
  have k1 := h1
  have lt1 : ∀ x ∈ p1, x.block < W.heap.size := by obtain ⟨m, hm⟩ := k1; exact DataW.trod_lt m _ _ _ hm
  obtain ⟨a0, len0, cap0, rfl⟩ := okWide_slice Try.underlying22 (hval 0 22 v0 rfl rfl)
  obtain ⟨fuel0, hf0⟩ := h0
  simp only [Value.cells] at hf0
  obtain ⟨l0, hl0⟩ := parts_open hf0
  obtain ⟨n1, rfl⟩ := okWide_int Try.underlying45 (hval 1 45 v1 rfl rfl)
  obtain ⟨fuel1, hf1⟩ := h1
  simp only [Value.cells] at hf1
  clear hA0 hval0
  have walk : Calls Try.prog 5 _ W fun e w' => e = .returned (.bool true) ∧ Below W.heap.size W w' := codecShort_any a0 len0 cap0 l0 n1 (slice_len Try.underlying22 hf0) hl0 (u16_in hf1)
  refine walk.mono fun e W' ⟨he, bel⟩ => ?_
  subst he
  exact ⟨_, rfl, _, _, _, [], _, [], hW', trodAll_mk1 (shut_bool Try.underlying4 _), trodAll_cons_mk (Below.trod codecShort_laid (by kernel_rfl) (of_decide_eq_true (by kernel_rfl)) k0 bel lt0) (trodAll_cons_mk (Below.trod codecShort_laid (by kernel_rfl) (of_decide_eq_true (by kernel_rfl)) k1 bel lt1) (trodAll_mk0)), rfl, bel.frame _, fun h => by cases h⟩

theorem codecShort_holds : Rows.CodecShortSaid :=
  OpenClaim.holds_of_wide 5 Try.f5 rfl rfl rfl rfl rfl rfl rfl ⟨rfl, rfl, rfl, rfl, rfl⟩ rfl rfl rfl rfl rfl (by kernel_rfl) Try.func5 (by kernel_rfl)
    (of_decide_eq_true (by kernel_rfl)) (by unfold Func.isWrapper; first | (rw [if_pos (by decide +kernel)]; kernel_rfl) | (rw [if_neg (by decide +kernel)]; exact ⟨rfl, rfl⟩))
    (fun os started H enc _ => codecShort_lifted os started H enc)
#print axioms codecShort_holds
end Go.Proofs.Ytoikklbnbgoecaa
