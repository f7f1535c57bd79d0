
/- jointurelaw02.CoinsOwn. -/
import Derived.Test.YtphdckiaoikblaaC16
import Derived.Test.YtphdckiaoikblaaV3
import Derived.Deep.RegionWith
import Derived.Deep.RegionHeld2
set_option linter.unusedSimpArgs false
set_option linter.unusedVariables false
namespace Go.Proofs.Ytphdckiaoikblaa
open Go.RowKit

theorem slices_info : (Try.prog.info? 27).map (fun i => (i.zero, i.size, i.bytes)) = some (some (.slice none 0 0), 1, 24) := by kernel_rfl
/-- What stays while the rows are written over, up to the j-th. -/
structure Rows4 (w W : World) (n0 n1 n2 n3 : Int) (lv : Value) (v : Nat → Value) (up uq : Value) (z y : Nat → Cn) (j : Nat) : Prop where
  bel : Below w.heap.size w W
  num : W.heap[w.heap.size]? = some (.cells #[.int .u64 n0, .int .u64 n1, .int .u64 n2, .int .u64 n3] 25 (0, 0))
  l : W.ownsRow w.heap.size 27 1 lv 4 [v 0, v 1, v 2, v 3]
  p : W.ownsRow w.heap.size 36 5 up (lst z 8).length (cellsL (lst z 8))
  q : W.ownsRow w.heap.size 36 5 uq (lst y 8).length (cellsL (lst y 8))
  r : ∀ m, j ≤ m → m < 4 → W.ownsRow w.heap.size 36 5 (v m) (lst z 8).length (cellsL (lst z 8))
theorem Rows4.below {w W W' : World} {n0 n1 n2 n3 : Int} {lv : Value} {v : Nat → Value} {up uq : Value} {z y : Nat → Cn} {j : Nat} (h : Rows4 w W n0 n1 n2 n3 lv v up uq z y j) (hb : Below W.heap.size W W') : Rows4 w W' n0 n1 n2 n3 lv v up uq z y j :=
  ⟨bt h.bel hb, (hb.block _ (Array.getElem?_eq_some_iff.1 h.num).1).trans h.num, own_below h.l hb, own_below h.p hb, own_below h.q hb, fun m h1 h2 => own_below (h.r m h1 h2) hb⟩
/-- The rows lie apart. -/
def Apart4 (v : Nat → Value) (up uq : Value) : Prop := ∀ m, m < 4 → ∀ g, (v m).ownBlock = some g → up.ownBlock ≠ some g ∧ uq.ownBlock ≠ some g ∧ ∀ m', m' < 4 → m ≠ m' → (v m').ownBlock ≠ some g
theorem grown_belowB {w W W' : World} {B : Nat} {g : Option Nat} (h : Below B w W) (hg : W.grownBy W' g) (hB : ∀ k, g = some k → B ≤ k) (hs : B ≤ W.heap.size) : Below B w W' :=
  h.grown hg hs hB
theorem Rows4.step {w W W' : World} {n0 n1 n2 n3 : Int} {lv : Value} {v : Nat → Value} {up uq : Value} {z y : Nat → Cn} {j : Nat} (h : Rows4 w W n0 n1 n2 n3 lv v up uq z y j) (hA : Apart4 v up uq) (hj : j < 4) (hg : W.grownBy W' (v j).ownBlock) : Rows4 w W' n0 n1 n2 n3 lv v up uq z y (j + 1) := by
  have hr := h.r j (Nat.le_refl _) hj
  have hnum : some w.heap.size ≠ (v j).ownBlock := not_rowC h.num (by decide) hr
  refine ⟨h.bel.grown hg h.bel.size (fun k hk => (hr.lt k hk).1), (hg.block _ (Array.getElem?_eq_some_iff.1 h.num).1 hnum).trans h.num, h.l.kept hg (own_ne h.l hr (by decide)), h.p.kept hg ?_, h.q.kept hg ?_, fun m h1 h2 => (h.r m (by omega) h2).kept hg ?_⟩
  · cases e : (v j).ownBlock with
    | none => cases up.ownBlock <;> simp
    | some g => exact .inr (hA j hj g e).1
  · cases e : (v j).ownBlock with
    | none => cases uq.ownBlock <;> simp
    | some g => exact .inr (hA j hj g e).2.1
  · cases e : (v j).ownBlock with
    | none => cases (v m).ownBlock <;> simp
    | some g => exact .inr ((hA j hj g e).2.2 m h2 (by omega))
theorem grown_refl (W : World) (r : Option Nat) : W.grownBy W r := ⟨rfl, rfl, rfl, Nat.le_refl _, fun _ _ _ => rfl⟩
theorem grown_set {W W' : World} {g o : Nat} {v : Value} (h : W.grownBy W' (some g)) : W.grownBy (W'.setCell ⟨g, o, none⟩ v) (some g) :=
  ⟨h.os, h.tape, h.output, Nat.le_trans h.size (by simp [World.setCell]), fun k hk hne => (Below.heap_setCell W' ⟨g, o, none⟩ v k (fun e => hne (by rw [e]))).trans (h.block k hk hne)⟩
theorem grown_drew {W W' : World} {r : Option Nat} (h : W.grownBy W' r) : W.grownBy W'.drew r := ⟨h.os, h.tape, h.output, h.size, h.block⟩

theorem made2 (W : World) (u v : Value) : (W.alloc (.cells #[u, v] 27)).ownsRow W.heap.size 27 1 (.slice (some ⟨W.heap.size, 0, none⟩) 2 2) 2 [u, v] :=
  ⟨rfl, .inr ⟨W.heap.size, 2, #[u, v], rfl, Nat.le_refl _, World.alloc_heap_new W _, Nat.le_refl _, by unfold maxLen; omega, rfl, rfl⟩⟩
theorem cell_two_new (W : World) (u v : Value) (t : TypeId) : ∀ j x, [u, v][j]? = some x → (W.alloc (.cells #[u, v] t)).cell? (Addr.add ⟨W.heap.size, 0, none⟩ j) = some x := by
  intro j x hj
  have e : Addr.add ⟨W.heap.size, 0, none⟩ j = ⟨W.heap.size, j, none⟩ := by
    unfold Addr.add; split
    · subst_vars; rfl
    · simp
  rw [e, (cells_of_block (World.alloc_heap_new W _)).1]
  simpa using hj
set_option maxRecDepth 100000 in
set_option maxHeartbeats 8000000 in
theorem coinsOwn_w (a b : Option Addr) (la lb ca cb : Nat) (n0 n1 n2 n3 : Int) (h1 : la ≤ 100) (h2 : lb ≤ 100) (pa pb : List Cn) (hwa : ∀ y ∈ pa, CnWf y) (hwb : ∀ y ∈ pb, CnWf y) (w : World) (hA0 : IsCoins w (.slice a la ca) pa) (hC0 : IsCoins w (.slice b lb cb) pb) :
    Calls Try.prog 3 #[.slice a la ca, .slice b lb cb, .agg #[.int .u64 n0, .int .u64 n1, .int .u64 n2, .int .u64 n3]] w fun e w' => e = .returned (.bool true) ∧ Below w.heap.size w w' := by
  have hl1 : ¬ (100 : Int) < (la : Int) := by omega
  have hl2 : ¬ (100 : Int) < (lb : Int) := by omega
  have hz : Purse (ofP pa) := purse_of pa (fun y hy => (hwa y hy).2)
  have hy : Purse (ofP pb) := purse_of pb (fun y hy => (hwb y hy).2)
  obtain ⟨i0, hi, hz0, hz1, hz2⟩ := info_parts slices_info
  have hA0' : IsCoins (w.alloc (.cells #[.int .u64 n0, .int .u64 n1, .int .u64 n2, .int .u64 n3] 25)) (.slice a la ca) pa := hA0.below (ba (Below.refl _ _) _)
  have hC0' : IsCoins (w.alloc (.cells #[.int .u64 n0, .int .u64 n1, .int .u64 n2, .int .u64 n3] 25)) (.slice b lb cb) pb := hC0.below (ba (Below.refl _ _) _)
  have B0 : Below w.heap.size w (w.alloc (.cells #[.int .u64 n0, .int .u64 n1, .int .u64 n2, .int .u64 n3] 25)) := ba (Below.refl _ _) _
  have N0 : (w.alloc (.cells #[.int .u64 n0, .int .u64 n1, .int .u64 n2, .int .u64 n3] 25)).heap[w.heap.size]? = some (.cells #[.int .u64 n0, .int .u64 n1, .int .u64 n2, .int .u64 n3] 25 (0, 0)) := al_at rfl
  go_enter Try.func3, Try.ntmps3
  go_wp2_with (first
    | (go_at_call 5; refine (of_any _ hA0' hwa).mono ?_; rintro e w1 ⟨uP, rfl, oP1, hb1⟩; have hC1 := hC0'.below hb1; have B1 := bt B0 hb1; have N1 := (hb1.block w.heap.size (by simp)).trans N0; clear hA0' hC0' B0 N0)
    | (go_at_call 5; refine (of_any _ hC1 hwb).mono ?_; rintro e w2 ⟨uQ, rfl, oQ2, hb2⟩; have oP2 := own_below oP1 hb2; have B2 := bt B1 hb2; have N2 := (hb2.block w.heap.size (Array.getElem?_eq_some_iff.1 N1).1).trans N1; clear hC1 B1 N1)
    | (go_at_call 6; refine (leastC_own hz _ (own_coins oP2 (lst8 _))).mono ?_; rintro e w3 ⟨v0, rfl, o03, hb3⟩; have oP3 := own_below oP2 hb3; have oQ3 := own_below oQ2 hb3; have B3 := bt B2 hb3; have N3 := (hb3.block w.heap.size (Array.getElem?_eq_some_iff.1 N2).1).trans N2; clear B2 N2; obtain ⟨a0, c0, rfl⟩ := row_sliceC o03)
    | (go_at_call 7; refine (restC_own hz _ (own_coins oP3 (lst8 _))).mono ?_; rintro e w4 ⟨v1, rfl, o14, hb4⟩; have oP4 := own_below oP3 hb4; have oQ4 := own_below oQ3 hb4; have o04 := own_below o03 hb4; have B4 := bt B3 hb4; have N4 := (hb4.block w.heap.size (Array.getElem?_eq_some_iff.1 N3).1).trans N3; clear B3 N3; obtain ⟨a1, c1, rfl⟩ := row_sliceC o14)
    | (go_at_call 8; refine (addC_own hz _ (own_coins (oP4.alloc _) (lst8 _))).mono ?_; rintro e w5 ⟨v2, rfl, o25, hb5⟩; have oP5 := own_below (oP4.alloc _) hb5; have oQ5 := own_below (oQ4.alloc _) hb5; have o05 := own_below (o04.alloc _) hb5; have o15 := own_below (o14.alloc _) hb5; have B5 := bt (ba B4 _) hb5; have N5 := (hb5.block w.heap.size (by have := (Array.getElem?_eq_some_iff.1 N4).1; simp; omega)).trans ((al_old (Array.getElem?_eq_some_iff.1 N4).1).trans N4); have oL5 := own_below (made2 w4 _ _) hb5; clear B4 N4; obtain ⟨a2, c2, rfl⟩ := row_sliceC o25)
    | (go_at_call 9; refine (subC_own hz _ (own_coins oP5 (lst8 _))).mono ?_; rintro e w6 ⟨v3, rfl, o36, hb6⟩; have oP6 := own_below oP5 hb6; have oQ6 := own_below oQ5 hb6; have o06 := own_below o05 hb6; have o16 := own_below o15 hb6; have o26 := own_below o25 hb6; have oL6 := own_below oL5 hb6; have B6 := bt B5 hb6; have N6 := (hb6.block w.heap.size (Array.getElem?_eq_some_iff.1 N5).1).trans N5; clear B5 N5; obtain ⟨a3, c3, rfl⟩ := row_sliceC o36)
    | (at_builtin; refine wpList_append_own _ rfl _ _ 30 rfl _ 27 i0 (.slice none 0 0) 1 24 Try.underlying30 hi hz0 hz1 hz2 rfl (by decide) _ _ _ rfl (oL6.alloc _) ⟨w6.heap.size, 0, none⟩ 2 2 [_, _] rfl rfl (cell_two_new _ _ _ _) (by simp [Value.oneCell']) (by unfold maxLen; omega) (by omega) (by have := hb5.size; have := hb6.size; simp at *; omega) ?_; intro v' w7 hown' hgrow _; obtain ⟨gl, cl, rfl⟩ := ownsRow_succ hown'))
  have sz1' := hb1.size; have sz2' := hb2.size; have sz3' := hb3.size; have sz4' := hb4.size; have sz5' := hb5.size; have sz6' := hb6.size
  simp at sz1' sz5'
  obtain ⟨v, R0, hap⟩ : ∃ v : Nat → Value, Rows4 w w7 n0 n1 n2 n3 (.slice (some ⟨gl, 0, none⟩) 4 cl) v uP uQ (ofP pa) (ofP pb) 0 ∧ Apart4 v uP uQ := by
    refine ⟨fun m => match m with | 0 => .slice a0 (lst (ofP pa) 8).length c0 | 1 => .slice a1 (lst (ofP pa) 8).length c1 | 2 => .slice a2 (lst (ofP pa) 8).length c2 | _ => .slice a3 (lst (ofP pa) 8).length c3, ?_, ?_⟩
    · have oL := oL6.alloc (.cells #[.slice a2 (lst (ofP pa) 8).length c2, .slice a3 (lst (ofP pa) 8).length c3] 27)
      have k0 := (o06.alloc (.cells #[.slice a2 (lst (ofP pa) 8).length c2, .slice a3 (lst (ofP pa) 8).length c3] 27)).kept hgrow (own_ne (o06.alloc _) oL (by decide))
      have k1 := (o16.alloc (.cells #[.slice a2 (lst (ofP pa) 8).length c2, .slice a3 (lst (ofP pa) 8).length c3] 27)).kept hgrow (own_ne (o16.alloc _) oL (by decide))
      have k2 := (o26.alloc (.cells #[.slice a2 (lst (ofP pa) 8).length c2, .slice a3 (lst (ofP pa) 8).length c3] 27)).kept hgrow (own_ne (o26.alloc _) oL (by decide))
      have k3 := (o36.alloc (.cells #[.slice a2 (lst (ofP pa) 8).length c2, .slice a3 (lst (ofP pa) 8).length c3] 27)).kept hgrow (own_ne (o36.alloc _) oL (by decide))
      have kP := (oP6.alloc (.cells #[.slice a2 (lst (ofP pa) 8).length c2, .slice a3 (lst (ofP pa) 8).length c3] 27)).kept hgrow (own_ne (oP6.alloc _) oL (by decide))
      have kQ := (oQ6.alloc (.cells #[.slice a2 (lst (ofP pa) 8).length c2, .slice a3 (lst (ofP pa) 8).length c3] 27)).kept hgrow (own_ne (oQ6.alloc _) oL (by decide))
      have lN := (Array.getElem?_eq_some_iff.1 N6).1
      refine ⟨(ba B6 _).grown hgrow (by simp; omega) (fun k hk => by have := oL.lt k hk; omega), (hgrow.block w.heap.size (by simp; omega) (not_rowC ((al_old lN).trans N6) (by decide) oL)).trans ((al_old lN).trans N6), row_base hown' (by omega), row_base kP (by simp), row_base kQ (by omega), fun m h1 h2 => ?_⟩
      rcases (show m = 0 ∨ m = 1 ∨ m = 2 ∨ m = 3 by omega) with rfl | rfl | rfl | rfl
      · exact row_base k0 (by omega)
      · exact row_base k1 (by omega)
      · exact row_base k2 (by simp; omega)
      · exact row_base k3 (by omega)
    · intro m hm g hg
      have lP := oP1.lt g
      have lQ := oQ2.lt g
      have l0 := o03.lt g
      have l1 := o14.lt g
      have l2 := o25.lt g
      have l3 := o36.lt g
      simp at l2
      rcases (show m = 0 ∨ m = 1 ∨ m = 2 ∨ m = 3 by omega) with rfl | rfl | rfl | rfl
      all_goals
        first | have b := l0 hg | have b := l1 hg | have b := l2 hg | have b := l3 hg
        refine ⟨fun e => by have := lP e; omega, fun e => by have := lQ e; omega, fun m' hm' hne e => ?_⟩
        rcases (show m' = 0 ∨ m' = 1 ∨ m' = 2 ∨ m' = 3 by omega) with rfl | rfl | rfl | rfl
        all_goals first | omega | (have := l0 e; omega) | (have := l1 e; omega) | (have := l2 e; omega) | (have := l3 e; omega)
  clear hown' hgrow B6 N6 oL6 o06 o16 o26 oP6 oQ6 o36 oL5 o05 o15 oP5 oQ5 o25 o04 oP4 oQ4 o14 o03 oP3 oQ3 oP2 oQ2 oP1 hb1 hb2 hb3 hb4 hb5 hb6 sz1' sz2' sz3' sz4' sz5' sz6'
  have hK8 := lst_len (ofP pa) 8
  generalize hK : (lst (ofP pa) 8).length = K at *
  go_loopw [14] (fun i W => ∃ j : Nat, j ≤ 4 ∧ i = .int .i64 j ∧ Rows4 w W n0 n1 n2 n3 (.slice (some ⟨gl, 0, none⟩) 4 cl) v uP uQ (ofP pa) (ofP pb) j) (fun i _ => 4 - (intOf i).toNat)
  case atStart => exact ⟨0, by omega, rfl, R0⟩
  case round =>
    clear R0
    obtain ⟨j, hj, rfl, R⟩ := hrel
    have hAr := hA0.below R.bel
    have hCr := hC0.below R.bel
    by_cases hlt : j < 4
    · have hcl : wr.cell? ⟨gl, j, none⟩ = some (v j) := by
        have := R.l.cells (g := gl) rfl j (v j) (by rcases (show j = 0 ∨ j = 1 ∨ j = 2 ∨ j = 3 by omega) with rfl | rfl | rfl | rfl <;> rfl)
        have e : Addr.add ⟨gl, 0, none⟩ j = ⟨gl, j, none⟩ := by
          unfold Addr.add; split
          · subst_vars; rfl
          · simp
        rwa [e] at this
      have hgl : gl < wr.heap.size := (R.l.lt gl rfl).2
      have hrj := R.r j (Nat.le_refl _) hlt
      obtain ⟨aj, cj, hvj⟩ := row_sliceC hrj
      rw [hK] at hvj
      rw [hvj] at hcl
      have hvj' : Hid (v j = _) := hvj
      clear hvj
      go_wp2
      go_region_held2 (fun W => W.cell? ⟨gl, j, none⟩ = some (.slice aj K cj)) (first | assumption | go_simp) (first
        | (go_at_call 5; refine (of_any _ hAr.dr hwa).mono ?_; rintro e wf ⟨uF, rfl, oF, hbf⟩; have cf := (hbf.cell (p := ⟨gl, j, none⟩) hgl).trans hcl; have Rf := (R.below (bd (Below.refl _ _))).below hbf; have hSf := own_coins (Rf.r j (Nat.le_refl _) hlt) (lst8 (ofP pa)); rw [hvj'.out] at hSf; have hFf := own_coins oF (lst8 (ofP pa)))
        | (go_at_call 10; with_reducible refine (sameC_any _ hSf hFf).mono ?_; rintro e ws ⟨rfl, hbs⟩; have Rs := Rf.below hbs; have cs := (hbs.cell (p := ⟨gl, j, none⟩) ((Rf.l.lt gl rfl).2)).trans cf))
      all_goals go_wp2
      all_goals
        clear hcl hgl hrj cf hbs hbf oF hSf hAr hCr Rf R
        have hrs := Rs.r j (Nat.le_refl _) hlt
        go_loopw [15] (fun kk W => ∃ t : Nat, t ≤ K ∧ kk = .int .i64 t ∧ ws.grownBy W (v j).ownBlock ∧ ∀ g, (v j).ownBlock = some g → ∃ cur, W.heap[g]? = some (.cells cur 36 (0, 0)) ∧ K * 5 ≤ cur.size) (fun kk _ => K - (intOf kk).toNat)
        case atStart =>
          refine ⟨0, by omega, rfl, grown_refl _ _, fun g hg => ?_⟩
          rcases hrs.2 with ⟨e, _⟩ | ⟨g', cap, cur, e, _, hg', hcap, _, hcs, _⟩
          · rw [e] at hg; simp [Value.ownBlock] at hg
          · rw [e] at hg
            obtain rfl : g' = g := by simpa [Value.ownBlock] using hg
            exact ⟨cur, hg', by omega⟩
        case round =>
          obtain ⟨t, ht, rfl, hgr, hop⟩ := hrel
          have hne : some gl ≠ (v j).ownBlock := by
            rcases own_ne Rs.l hrs (by decide) with e | e
            · simp [Value.ownBlock] at e
            · exact e
          have hclr : wr.cell? ⟨gl, j, none⟩ = some (.slice aj K cj) := hgr.cell cs hne
          by_cases htk : t < K
          · obtain ⟨gj, hgj⟩ : ∃ gj, aj = some ⟨gj, 0, none⟩ := by
              rcases hrs.2 with ⟨e, h0⟩ | ⟨g', cap, cur, e, _⟩
              · rw [hK] at h0; omega
              · rw [hvj'.out] at e; simp at e; exact ⟨g', e.1⟩
            subst hgj
            have hob : (v j).ownBlock = some gj := by rw [hvj'.out]; rfl
            obtain ⟨cur, hcur, hcs⟩ := hop gj hob
            obtain ⟨cg0, fg⟩ := cells_of_block hcur
            have hnum : wr.heap[w.heap.size]? = _ := (hgr.block _ (Array.getElem?_eq_some_iff.1 Rs.num).1 (not_rowC Rs.num (by decide) hrs)).trans Rs.num
            obtain ⟨cn, fn⟩ := cells_of_block hnum
            have g0 : wr.cell? ⟨gj, t * 5, none⟩ = some (cur[t * 5]'(by omega)) := by rw [cg0]; simp
            have g1 : wr.cell? ⟨gj, t * 5 + 1, none⟩ = some (cur[t * 5 + 1]'(by omega)) := by rw [cg0]; simp
            have g2 : wr.cell? ⟨gj, t * 5 + 2, none⟩ = some (cur[t * 5 + 2]'(by omega)) := by rw [cg0]; simp
            have g3 : wr.cell? ⟨gj, t * 5 + 3, none⟩ = some (cur[t * 5 + 3]'(by omega)) := by rw [cg0]; simp
            have g4 : wr.cell? ⟨gj, t * 5 + 4, none⟩ = some (cur[t * 5 + 4]'(by omega)) := by rw [cg0]; simp
            have htk' : (t : Int) < (K : Int) := by omega
            clear cg0 hop
            go_wp2
            go_region
            all_goals go_wp2
            all_goals go_roundw
            case rel =>
              rw [hob] at hgr ⊢
              refine ⟨t + 1, by omega, by go_num, ?_, fun g hg => ?_⟩
              · repeat (first | exact hgr | apply grown_set | apply grown_drew)
              · obtain rfl : gj = g := by simpa using hg
                exact ⟨_, block_set _ (block_set _ (block_set _ (block_set _ (block_set _ hcur)))), by simpa using hcs⟩
            case measure => (simp [intOf]; omega)
          · have htK : t = K := by omega
            subst htK
            go_wp2
            all_goals go_roundw
            case rel => exact ⟨j + 1, by omega, by go_num, Rs.step hap hlt hgr⟩
            case measure => (simp [intOf]; omega)
    · obtain rfl : j = 4 := by omega
      go_wp2_with (first
        | (go_at_call 4; refine (little_any _).mono ?_; rintro e w1 ⟨rfl, hb1⟩; have R1 := R.below hb1; have hA1 := hAr.below hb1; have hC1 := hCr.below hb1)
        | (go_at_call 5; with_reducible refine (of_any _ hA1 hwa).mono ?_; rintro e w2 ⟨uA, rfl, oA, hb2⟩; have R2 := R1.below hb2; have hC2 := hC1.below hb2; have hP2 := own_coins R2.p (lst8 (ofP pa)); have hF2 := own_coins oA (lst8 (ofP pa)))
        | (go_at_call 10; with_reducible refine (sameC_any _ hP2 hF2).mono ?_; rintro e w3 ⟨rfl, hb3⟩; have R3 := R2.below hb3; have hC3 := hC2.below hb3)
        | (go_at_call 5; with_reducible refine (of_any _ hC3 hwb).mono ?_; rintro e w4 ⟨uB, rfl, oB, hb4⟩; have R4 := R3.below hb4; have hQ4 := own_coins R4.q (lst8 (ofP pb)); have hG4 := own_coins oB (lst8 (ofP pb)))
        | (go_at_call 10; with_reducible refine (sameC_any _ hQ4 hG4).mono ?_; rintro e w5 ⟨rfl, hb5⟩; have R5 := R4.below hb5))
      all_goals go_ret
      all_goals exact ⟨rfl, R5.bel⟩
end Go.Proofs.Ytphdckiaoikblaa
