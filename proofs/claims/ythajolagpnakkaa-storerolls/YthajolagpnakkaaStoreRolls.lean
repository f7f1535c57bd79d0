
/- For all deeds and more of them jointurelaw05.StoreRolls returns true and writes nothing that was there: what is rolled back was not, whatever was done in it, and in parts within it. No condition. -/
import Derived.Test.YthajolagpnakkaaO31
set_option linter.unusedSimpArgs false
set_option linter.unusedVariables false
namespace Go.Proofs.Ythajolagpnakkaa
open Go.ChangeShapes Go.WideShapes Go.ChangeAt Go.RowKit

/-- How many parts are begun, read off the world. -/
def lenAt (X : World) (s : Nat) : Nat := match X.cell? ⟨s, 2, none⟩ with
  | some (.slice _ n _) => n
  | _ => 0
theorem StD.lenAt {X : World} {s base n : Nat} {A : Nat → Prop} {L : List (List Int × List Int)} {ds : List (List (List Int × List Int))} (h : StD X s base A L ds n) : lenAt X s = ds.length := by
  obtain ⟨vp, vj, vb, r, j, b, h1, h2, h3, h4, h5⟩ := h
  obtain ⟨ab, cb, rfl⟩ := row_slice h1.begun
  have c : X.cell? ⟨s, 2, none⟩ = some (.slice ab b.length cb) := (cells_of_block h1.blk).1 2
  unfold Go.Proofs.Ythajolagpnakkaa.lenAt
  rw [c]
  exact h4.len
theorem StD.dlen {X : World} {s base n : Nat} {A : Nat → Prop} {L : List (List Int × List Int)} {ds : List (List (List Int × List Int))} (h : StD X s base A L ds n) : ds.length ≤ n := by
  obtain ⟨vp, vj, vb, r, j, b, h1, h2, h3, h4, h5, h6, h7, h8⟩ := h
  exact h7
/-- Another store is as it was behind a deed of two. -/
theorem Fr2.other {W W' : World} {A B A' B' C : Nat → Prop} {t base : Nat} {L : List (List Int × List Int)} {ds : List (List (List Int × List Int))} {n : Nat} (k : Fr2 W W' A B A' B') (h : StD W t base C L ds n) (ha : ∀ x, A x → ¬ C x) (hb : ∀ x, B x → ¬ C x) : StD W' t base C L ds n ∧ (∀ x, A' x → ¬ C x) ∧ ∀ x, B' x → ¬ C x := by
  refine ⟨h.kept (fun x hx => k.block x (h.foot x hx).2 (fun e => ha x e hx) (fun e => hb x e hx)) k.size, fun x e hc => ?_, fun x e hc => ?_⟩
  · rcases k.suba x e with h1 | h1
    · exact ha x h1 hc
    · have := (h.foot x hc).2; omega
  · rcases k.subb x e with h1 | h1
    · exact hb x h1 hc
    · have := (h.foot x hc).2; omega
set_option maxRecDepth 10000 in
set_option maxHeartbeats 16000000 in
theorem storeRolls_any {w : World} (a : Option Addr) (len cap : Nat) (l : List Dd) (a2 : Option Addr) (len2 cap2 : Nat) (l2 : List Dd) (hm : len ≤ 9223372036854775807) (h : DdsIn w a len l) (hm2 : len2 ≤ 9223372036854775807) (h2 : DdsIn w a2 len2 l2) :
    Calls Try.prog 4 #[.slice a len cap, .slice a2 len2 cap2] w fun e w' => e = .returned (.bool true) ∧ Below w.heap.size w w' := by
  have hF : ∀ b, fewD l = b → Hid (∀ W, Below w.heap.size w W → Calls Try.prog 12 #[.slice a len cap] W fun e w' => e = .returned (.bool b) ∧ Below W.heap.size W w') := fun b e W hW => by rw [← e]; exact few_any hm h W hW
  have hF2 : ∀ b, fewD l2 = b → Hid (∀ W, Below w.heap.size w W → Calls Try.prog 12 #[.slice a2 len2 cap2] W fun e w' => e = .returned (.bool b) ∧ Below W.heap.size W w') := fun b e W hW => by rw [← e]; exact few_any hm2 h2 W hW
  cases hf : fewD l
  · have hG := hF _ hf
    clear hF hF2 hf
    go_enter Try.func4, Try.ntmps4
    go_wp2_with (first
      | (go_at_call 11; refine (rolls_any w).mono ?_; rintro e w1 ⟨rfl, hb1⟩)
      | (go_at_call 12; refine (hG.out _ hb1).mono ?_; rintro e w2 ⟨rfl, hb2⟩)
      | (go_at_call 11; refine (rolls_any w2).mono ?_; rintro e w3 ⟨rfl, hb3⟩))
    go_ret
    exact ⟨rfl, bt (bt hb1 hb2) hb3⟩
  · have hG := hF _ hf
    have hfd : FewD l := fewD_t hf
    clear hF hf
    cases hf2 : fewD l2
    · have hG2 := hF2 _ hf2
      clear hF2 hf2
      go_enter Try.func4, Try.ntmps4
      go_wp2_with (first
        | (go_at_call 11; refine (rolls_any w).mono ?_; rintro e w1 ⟨rfl, hb1⟩)
        | (go_at_call 12; with_reducible refine (hG.out _ hb1).mono ?_; rintro e w2 ⟨rfl, hb2⟩)
        | (go_at_call 12; with_reducible refine (hG2.out _ (bt hb1 hb2)).mono ?_; rintro e w3 ⟨rfl, hb3⟩)
        | (go_at_call 11; refine (rolls_any w3).mono ?_; rintro e w4 ⟨rfl, hb4⟩))
      go_ret
      exact ⟨rfl, bt (bt (bt hb1 hb2) hb3) hb4⟩
    · have hG2 := hF2 _ hf2
      obtain ⟨hl240, hall2⟩ := fewD_t hf2
      clear hF2 hf2
      have hnum := h.num
      have hnum2 := h2.num
      have hl40 := hfd.1
      have hlen2 : (len2 : Int) ≤ 40 := by omega
      go_enter Try.func4, Try.ntmps4
      go_wp2_with (first
        | (go_at_call 11; refine (rolls_any w).mono ?_; rintro e w1 ⟨rfl, hb1⟩)
        | (go_at_call 12; with_reducible refine (hG.out _ hb1).mono ?_; rintro e w2 ⟨rfl, hb2⟩)
        | (go_at_call 12; with_reducible refine (hG2.out _ (bt hb1 hb2)).mono ?_; rintro e w3 ⟨rfl, hb3⟩; have hB3 := bt (bt hb1 hb2) hb3; have hA1 := after_any (cap := cap) (h.below hB3) hfd)
        | (go_at_call 16; refine hA1.mono ?_; clear hA1; rintro e w4 ⟨rfl, A4, q4, hb4⟩; have hB4 := bt hB3 hb4; have hbx : Below w4.heap.size w4 (w4.alloc (.cells #[.slice none 0 0, .slice none 0 0] 31)) := ba (Below.refl _ _) _; have q5 := q4.below hbx; have m5 := rdNew w4; have hsz5 : (w4.alloc (.cells #[.slice none 0 0, .slice none 0 0] 31)).heap.size = w4.heap.size + 1 := (by simp); have hCp := stdCopy q5 (by omega))
        | (go_at_call 17; refine hCp.mono ?_; clear hCp; rintro e w6 ⟨rfl, C6, c6, hb6⟩; have q6 := q5.below hb6; have m6 := m5.below hb6; have hDp := stdDepth q6; have hBg := stdBegin q6 (by omega))
        | (go_at_call 18; refine hDp.mono ?_; clear hDp; rintro e w7 ⟨rfl, hw7⟩; obtain rfl := hw7.symm)
        | (go_at_call 19; refine hBg.mono ?_; clear hBg; rintro e w8 ⟨rfl, A8, q8, f8⟩))
      have hB6 : Below w.heap.size w w6 := bt (bt hB4 hbx) hb6
      have hloA : w.heap.size ≤ w3.heap.size := hB3.size
      have hloB : w.heap.size ≤ w4.heap.size := hB4.size
      have dAC : ∀ x, A4 x → ¬ C6 x := fun x ha hc => by have := (q4.foot x ha).2; have := (c6.foot x hc).1; omega
      have dAB : ∀ x, A4 x → ¬ x = w4.heap.size := fun x ha e => by have := (q4.foot x ha).2; omega
      have dBC : ∀ x, x = w4.heap.size → ¬ C6 x := fun x e hc => by have := (c6.foot x hc).1; omega
      obtain ⟨c8, dAC8⟩ := f8.w.other c6 dAC
      have m8 : RD w8 w4.heap.size w4.heap.size (fun k => k = w4.heap.size) [] [] 0 := m6.kept (fun x hx => f8.block x (m6.foot x hx).2 (fun ha => dAB x ha hx)) f8.size
      have dAB8 : ∀ x, A8 x → ¬ x = w4.heap.size := fun x ha e => by
        rcases f8.sub x ha with h1 | h1
        · exact dAB x h1 e
        · have := (m6.foot x e).2; omega
      have hB8 : Below w.heap.size w w8 := FrW.out hB6 f8.w (fun n hn => Nat.le_trans hloA (q4.foot n hn).1)
      have hP8 : Pr w w8 w3.heap.size w4.heap.size (actsS l).1 [] ((actsS l).2 ++ [(actsS l).1]) [] (len + 1) 0 w3.heap.size w4.heap.size A8 (fun k => k = w4.heap.size) := ⟨q8, m8, dAB8, hB8, hloA, hloB⟩
      have hd0 : (actsS l).2.length ≤ 1000 := by have := q4.dlen; omega
      clear hb1 hb2 hb3 hb4 hb6 hB3 hB4 hB6 q4 q5 q6 q8 m5 m6 m8 c6 f8 hG hG2 hbx dAC dAB dAB8 hB8
      rw [hsz5] at c8
      clear hsz5
      generalize w4.heap.size + 1 = sc at *
      generalize w3.heap.size = sa at *
      generalize w4.heap.size = m at *
      generalize (actsS l).1 = L0 at *
      generalize (actsS l).2 = ds0 at *
      have hd0' : (ds0.length : Int) ≤ 1000 := by omega
      go_loopw [9] (fun iv X => ∃ (t : Nat) (L L2 : List (List Int × List Int)) (es ds2 : List (List (List Int × List Int))) (A B : Nat → Prop), t ≤ len2 ∧ iv = .int .i64 (t : Int) ∧ Pr w X sa m L L2 (ds0 ++ L0 :: es) ds2 (len + 1 + t) t sa m A B ∧ StD X sc sc C6 L0 [] len ∧ (∀ x, A x → ¬ C6 x) ∧ (∀ x, B x → ¬ C6 x)) (fun iv _ => len2 - (intOf iv).toNat)
      case atStart => exact ⟨0, L0, [], [], [], A8, _, by omega, rfl, hP8, c8, dAC8, dBC⟩
      case round =>
        clear hP8 c8 dAC8 dBC
        obtain ⟨t, L, L2, es, ds2, A, B, ht, rfl, hP, hc, dAC, dBC⟩ := hrel
        obtain ⟨Dn, hDn⟩ : ∃ Dn, (ds0 ++ L0 :: es).length = Dn := ⟨_, rfl⟩
        have hDn2 : Dn = ds0.length + 1 + es.length := by rw [← hDn]; simp; omega
        have hDep := stdDepth hP.st
        rw [hDn] at hDep
        by_cases htl : t < len2
        · have htl' : (t : Int) < (len2 : Int) := by omega
          have hil : t < l2.length := by omega
          obtain ⟨blk, off, rfl, hbl, c0, c1, c2⟩ := dd_at h2 hP.below hil
          have hmem := List.getElem_mem hil
          have hy := h2.ok _ hmem
          have hyl := hall2 _ hmem
          have hD := hP.does (by omega) (by omega) hy hyl.1 hyl.2
          have hdt : l2[t].d.tmod 8 = l2[t].d % 8 := Int.tmod_eq_emod_of_nonneg hy.1.1
          generalize l2[t] = y at *
          have hyd := hy.1
          have hDp' : (Dn : Int) ≤ 2000 := by have := hP.st.dlen; rw [hDn] at this; omega
          rcases (show y.d % 8 < 4 ∨ y.d % 8 = 4 ∨ y.d % 8 = 5 ∨ (y.d % 8 = 6 ∨ y.d % 8 = 7) by omega) with hr | hr | hr | hr
          · have hE : Hid (stepD y.d L (ds0 ++ L0 :: es) = ds0 ++ L0 :: es) := by unfold Hid stepD; rw [if_pos hr]
            obtain ⟨r, hrr⟩ : ∃ r, y.d.tmod 8 = r := ⟨_, rfl⟩
            have hr4 : r = 0 ∨ r = 1 ∨ r = 2 ∨ r = 3 := by omega
            clear hr hdt hDn hDn2 hDep
            rcases hr4 with rfl | rfl | rfl | rfl
            all_goals
              go_wp2_with (go_at_call 14; refine hD.mono ?_; clear hD; rintro e w9 ⟨rfl, A9, B9, hP9, f9⟩)
              go_roundw
              case rel =>
                rw [hE.out] at hP9
                obtain ⟨c9, dAC9, dBC9⟩ := f9.other hc dAC dBC
                exact ⟨t + 1, _, _, es, _, A9, B9, by omega, by go_num, hP9, c9, dAC9, dBC9⟩
              case measure => (simp [intOf]; omega)
          · have hE : Hid (stepD y.d L (ds0 ++ L0 :: es) = ds0 ++ L0 :: (es ++ [L])) := by unfold Hid stepD; rw [if_neg (by omega), if_pos (by omega)]; simp
            have hrr : y.d.tmod 8 = 4 := by omega
            clear hr hdt hDn hDn2 hDep
            go_wp2_with (go_at_call 14; refine hD.mono ?_; clear hD; rintro e w9 ⟨rfl, A9, B9, hP9, f9⟩)
            go_roundw
            case rel =>
              rw [hE.out] at hP9
              obtain ⟨c9, dAC9, dBC9⟩ := f9.other hc dAC dBC
              exact ⟨t + 1, _, _, es ++ [L], _, A9, B9, by omega, by go_num, hP9, c9, dAC9, dBC9⟩
            case measure => (simp [intOf]; omega)
          · have hrr : y.d.tmod 8 = 5 := by omega
            clear hr hdt hDn hDn2 hDep hD
            go_wp2
            go_roundw
            case rel => exact ⟨t + 1, L, L2, es, ds2, A, B, by omega, by go_num, ⟨hP.st.up (by omega), hP.rd.up (by omega), hP.dis, hP.below, hP.lo, hP.lo'⟩, hc, dAC, dBC⟩
            case measure => (simp [intOf]; omega)
          · have hE : Hid (es ≠ [] → stepD y.d L (ds0 ++ L0 :: es) = ds0 ++ L0 :: es.dropLast) := fun hne => by
              unfold stepD; rw [if_neg (by omega), if_neg (by omega), List.dropLast_append_of_ne_nil (by simp), List.dropLast_cons_of_ne_nil hne]
            obtain ⟨r, hrr⟩ : ∃ r, y.d.tmod 8 = r := ⟨_, rfl⟩
            have hr4 : r = 6 ∨ r = 7 := by omega
            clear hr hdt hDn
            by_cases hes : es = []
            · have hk1 : ¬ (ds0.length : Int) + 1 < (Dn : Int) := by subst hes; simp at hDn2; omega
              have hk2 : decide ((ds0.length : Int) + 1 < (Dn : Int)) = false := decide_eq_false hk1
              have hk3 : ¬ ds0.length + 1 < Dn := by omega
              clear hDn2 hD hE
              rcases hr4 with rfl | rfl
              all_goals
                go_wp2_with (go_at_call 18; refine hDep.mono ?_; clear hDep; rintro e w9 ⟨rfl, hw9⟩; obtain rfl := hw9.symm)
                go_roundw
                case rel => exact ⟨t + 1, L, L2, es, ds2, A, B, by omega, by go_num, ⟨hP.st.up (by omega), hP.rd.up (by omega), hP.dis, hP.below, hP.lo, hP.lo'⟩, hc, dAC, dBC⟩
                case measure => (simp [intOf]; omega)
            · have hel : 0 < es.length := by cases es with | nil => exact absurd rfl hes | cons _ _ => simp
              have hk1 : (ds0.length : Int) + 1 < (Dn : Int) := by omega
              have hk2 : decide ((ds0.length : Int) + 1 < (Dn : Int)) = true := decide_eq_true hk1
              have hk3 : ds0.length + 1 < Dn := by omega
              have hE' : Hid _ := hE.out hes
              clear hDn2 hE hel hes
              rcases hr4 with rfl | rfl
              all_goals
                go_wp2_with (first
                  | (go_at_call 18; refine hDep.mono ?_; clear hDep; rintro e w9 ⟨rfl, hw9⟩; obtain rfl := hw9.symm)
                  | (go_at_call 14; refine hD.mono ?_; clear hD; rintro e w10 ⟨rfl, A9, B9, hP9, f9⟩))
                go_roundw
                case rel =>
                  rw [hE'.out] at hP9
                  obtain ⟨c9, dAC9, dBC9⟩ := f9.other hc dAC dBC
                  exact ⟨t + 1, _, _, es.dropLast, _, A9, B9, by omega, by go_num, hP9, c9, dAC9, dBC9⟩
                case measure => (simp [intOf]; omega)
        · obtain rfl : t = len2 := by omega
          have hst := hP.st
          have hbw := hP.below
          have hlo := hP.lo
          have hnn : (len + 1 + t) + es.length ≤ 300 := by have := hst.dlen; rw [hDn] at this; omega
          clear hP dBC hDep hDn2 hDn
          go_wp2
          go_loopw [78] (fun iv X => ∃ (es : List (List (List Int × List Int))) (A : Nat → Prop) (n : Nat), StD X sa sa A L (ds0 ++ L0 :: es) n ∧ n + es.length ≤ 300 ∧ StD X sc sc C6 L0 [] len ∧ (∀ x, A x → ¬ C6 x) ∧ Below w.heap.size w X) (fun _ X => lenAt X sa)
          case atStart => exact ⟨es, A, _, hst, hnn, hc, dAC, hbw⟩
          case round =>
            clear hst hc dAC hbw hnn
            obtain ⟨es, A, n, hst, hnn, hc, dAC, hbw⟩ := hrel
            obtain ⟨Dn, hDn⟩ : ∃ Dn, (ds0 ++ L0 :: es).length = Dn := ⟨_, rfl⟩
            have hDn2 : Dn = ds0.length + 1 + es.length := by rw [← hDn]; simp; omega
            have hDep := stdDepth hst
            rw [hDn] at hDep
            have hDp' : (Dn : Int) ≤ 2000 := by have := hst.dlen; rw [hDn] at this; omega
            have hla := hst.lenAt
            by_cases hes : es = []
            · subst hes
              have hk1 : ¬ (ds0.length : Int) + 1 < (Dn : Int) := by simp at hDn2; omega
              have hk2 : decide ((ds0.length : Int) + 1 < (Dn : Int)) = false := decide_eq_false hk1
              have hk3 : ¬ ds0.length + 1 < Dn := by omega
              have hR := stdRoll (x := L0) hst (by simp at hnn; omega)
              simp at hnn
              clear hDn2 hDn hla
              go_wp2_with (first
                | (go_at_call 18; refine hDep.mono ?_; clear hDep; rintro e w9 ⟨rfl, hw9⟩; obtain rfl := hw9.symm)
                | (go_at_call 21; (refine hR.mono ?_; clear hR; rintro e w10 ⟨rfl, A10, q10, f10⟩; obtain ⟨c10, dAC10⟩ := f10.w.other hc dAC; have hB10 := FrW.out hbw f10.w (fun n hn => Nat.le_trans hlo (hst.foot n hn).1); have hDq := stdDepth q10; have hS1 := stdSame q10 c10 (by omega) (by omega); rw [decide_eq_true (rfl : L0 = L0)] at hS1))
                | (go_at_call 18; refine hDq.mono ?_; clear hDq; rintro e w11 ⟨rfl, hw11⟩; obtain rfl := hw11.symm)
                | (go_at_call 22; (with_reducible refine hS1.mono ?_; clear hS1; rintro e w12 ⟨rfl, hb12⟩; have hS2 := stdSame (c10.below hb12) (q10.below hb12) (by omega) (by omega); rw [decide_eq_true (rfl : L0 = L0)] at hS2))
                | (go_at_call 22; (with_reducible refine hS2.mono ?_; clear hS2; rintro e w13 ⟨rfl, hb13⟩)))
              go_ret
              exact ⟨rfl, bt (bt hB10 hb12) hb13⟩
            · have hel : 0 < es.length := by cases es with | nil => exact absurd rfl hes | cons _ _ => simp
              have hk1 : (ds0.length : Int) + 1 < (Dn : Int) := by omega
              have hk2 : decide ((ds0.length : Int) + 1 < (Dn : Int)) = true := decide_eq_true hk1
              have hk3 : ds0.length + 1 < Dn := by omega
              have hC := stdCom_all hst (by omega)
              have hE' : Hid ((ds0 ++ L0 :: es).dropLast = ds0 ++ L0 :: es.dropLast) := by unfold Hid; rw [List.dropLast_append_of_ne_nil (by simp), List.dropLast_cons_of_ne_nil hes]
              have hdl : es.dropLast.length = es.length - 1 := List.length_dropLast
              clear hDn2
              go_wp2_with (first
                | (go_at_call 18; refine hDep.mono ?_; clear hDep; rintro e w9 ⟨rfl, hw9⟩; obtain rfl := hw9.symm)
                | (go_at_call 20; refine hC.mono ?_; clear hC; rintro e w10 ⟨rfl, A10, q10, f10⟩))
              go_roundw
              case rel =>
                rw [hE'.out] at q10
                obtain ⟨c10, dAC10⟩ := f10.w.other hc dAC
                exact ⟨es.dropLast, A10, n + 1, q10, by omega, c10, dAC10, FrW.out hbw f10.w (fun n hn => Nat.le_trans hlo (hst.foot n hn).1)⟩
              case measure =>
                have e1 := q10.lenAt
                rw [hla, e1, List.length_dropLast, hDn]
                omega

theorem storeRolls_own : ownKnob Try.prog.godebug = none := by kernel_rfl
theorem storeRolls_laid : laidOutB Try.prog = true := by kernel_rfl

set_option maxRecDepth 100000 in
theorem storeRolls_lifted (os : Os) (started : os.Started) (H : Type) (enc : TypeId × Value → H) :
    ReturnsInHanded {} Try.checked os 4 .any (Rows.storeRollsSpec.pre6 enc Try.prog Try.f4 Rows.storeRollsRow.domain false) (Rows.storeRollsSpec.post enc Try.prog Try.f4 false true false false) := by
  refine returnsInHanded_of_change (C := Try.checked) storeRolls_own started (by kernel_rfl) Try.func4
    (ChangeSpec.witness6 (enc := enc) (C := Try.checked) false ⟨#[], #[.slice none 0 0, .slice none 0 0], []⟩ 8 (by kernel_rfl) (by kernel_rfl) (by kernel_rfl) (by kernel_rfl)) ?_
  intro W base args ds gs before hval0 hW hcnd _
  have hval : ∀ (j : Nat) t v, Try.f4.params[j]? = some t → args[j]? = some v → Value.okWide Try.prog W .any base t v := hval0
  have hW' := hW
  obtain ⟨p, q, hA0, hV, rfl, hfz, hnd⟩ := hW
  have hA : DataW.TrodAll enc Try.prog W 0 (fun _ => true) true Try.f4.params.toList args.toList ds p := hA0
  rw [Try.params4] at hA hval
  obtain ⟨v0, vs0, d0, ds0, p0, q0, hargs0, rfl, rfl, h0, r0⟩ := trodAll_cons hA
  obtain ⟨v1, vs1, d1, ds1, p1, q1, hargs1, rfl, rfl, h1, r1⟩ := trodAll_cons r0
  obtain ⟨rfl, rfl, rfl⟩ := trodAll_nil r1
  obtain rfl : args = #[v0, v1] := by cases args; simp_all
  obtain ⟨rfl, rfl⟩ := trodVars_none hV
  have k0 := h0
  have lt0 : ∀ x ∈ p0, x.block < W.heap.size := by obtain ⟨m, hm⟩ := k0; exact DataW.trod_lt m _ _ _ hm
  have k1 := h1
  have lt1 : ∀ x ∈ p1, x.block < W.heap.size := by obtain ⟨m, hm⟩ := k1; exact DataW.trod_lt m _ _ _ hm
  obtain ⟨a0, len0, cap0, rfl⟩ := okWide_slice Try.underlying22 (hval 0 22 v0 rfl rfl)
  obtain ⟨fuel0, hf0⟩ := h0
  simp only [Value.cells] at hf0
  obtain ⟨l0, hl0⟩ := acts_open hf0
  obtain ⟨a1, len1, cap1, rfl⟩ := okWide_slice Try.underlying22 (hval 1 22 v1 rfl rfl)
  obtain ⟨fuel1, hf1⟩ := h1
  simp only [Value.cells] at hf1
  obtain ⟨l1, hl1⟩ := acts_open hf1
  clear hA0 hval0
  have walk : Calls Try.prog 4 _ W fun e w' => e = .returned (.bool true) ∧ Below W.heap.size W w' := storeRolls_any a0 len0 cap0 l0 a1 len1 cap1 l1 (slice_len Try.underlying22 hf0) hl0 (slice_len Try.underlying22 hf1) hl1
  refine walk.mono fun e W' ⟨he, bel⟩ => ?_
  subst he
  exact ⟨_, rfl, _, _, _, [], _, [], hW', trodAll_mk1 (shut_bool Try.underlying4 _), trodAll_cons_mk (Below.trod storeRolls_laid (by kernel_rfl) (of_decide_eq_true (by kernel_rfl)) k0 bel lt0) (trodAll_cons_mk (Below.trod storeRolls_laid (by kernel_rfl) (of_decide_eq_true (by kernel_rfl)) k1 bel lt1) (trodAll_mk0)), rfl, bel.frame _, fun h => by cases h⟩

theorem storeRolls_holds : Rows.StoreRollsSaid :=
  OpenClaim.holds_of_wide 4 Try.f4 rfl rfl rfl rfl rfl rfl rfl ⟨rfl, rfl, rfl, rfl, rfl⟩ rfl rfl rfl rfl rfl (by kernel_rfl) Try.func4 (by kernel_rfl)
    (of_decide_eq_true (by kernel_rfl)) (by unfold Func.isWrapper; first | (rw [if_pos (by decide +kernel)]; kernel_rfl) | (rw [if_neg (by decide +kernel)]; exact ⟨rfl, rfl⟩))
    (fun os started H enc _ => storeRolls_lifted os started H enc)
#print axioms storeRolls_holds
end Go.Proofs.Ythajolagpnakkaa
