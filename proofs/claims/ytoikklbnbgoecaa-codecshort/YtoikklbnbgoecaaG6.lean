
/- The reference's reader: numbers of 256 bits. -/
import Derived.Test.YtoikklbnbgoecaaG5
import Derived.Deep.CutRange
set_option linter.unusedSimpArgs false
set_option linter.unusedVariables false
namespace Go.Proofs.Ytoikklbnbgoecaa
open Go.RowKit

theorem Byt.mid {W : World} {D : Option Nat} {k n cap : Nat} {a : Option Addr} {p : List Int} (h : Byt W D (.slice a p.length cap) p) (hn : k + n ≤ p.length) : IsBytes W (.slice (if cap = k then a else Option.map (fun x => x.add k) a) n (cap - k)) ((p.drop k).take n) := by
  have hlen : ((p.drop k).take n).length = n := by simp; omega
  by_cases hc : cap = k
  · have h0 : n = 0 := by obtain ⟨a', cap', e, h1, -⟩ := h; simp at e; omega
    subst h0
    exact .inl ⟨by simp, _, _, rfl⟩
  · rw [if_neg hc]
    have h1 := h.drop (n := k) (by omega)
    obtain ⟨a', cap', e, h1, h2, h3, h4⟩ := h1
    simp at e
    obtain ⟨rfl, -, rfl⟩ := e
    rcases h4 with h4 | ⟨d, off, hd, ha, h5, h6⟩
    · have h0 : n = 0 := by have := congrArg List.length h4; simp at this; omega
      subst h0
      exact .inl ⟨by simp, _, _, rfl⟩
    · rw [ha]
      refine .inr ⟨d, off, _, by rw [hlen], by rw [hlen]; simp at h2; omega, h5, fun i x hi => h6 i x ?_⟩
      have : i < n := by have := (List.getElem?_eq_some_iff.1 hi).1; omega
      rwa [List.getElem?_take_of_lt this] at hi

set_option maxRecDepth 10000 in
set_option maxHeartbeats 4000000 in
theorem inNum_any {W : World} {b : Nat} {D : Option Nat} {s : Option (List Int)} (hD : D ≠ some b) (hDl : ∀ d, D = some d → d < W.heap.size) (h : InAt W b D s) :
    Calls Try.prog 44 #[.pointer (some ⟨b, 0, none⟩)] W fun e w' => ∃ z0 z1 z2 z3 : Int, e = .returned (.agg #[.int .u64 z0, .int .u64 z1, .int .u64 z2, .int .u64 z3]) ∧ Lim z0 z1 z2 z3 ∧ Hid (val z0 z1 z2 z3 = (nS s).1) ∧ InAt w' b D (nS s).2 ∧ W.grownBy w' (some b) := by
  have hpad := pads
  have hbl := h.lt
  have hDh : D = none ∨ D ≠ some W.heap.size := by
    cases hd : D with
    | none => exact .inl rfl
    | some d => right; intro e; have := hDl d hd; simp at e; omega
  have hR0 : InAt (W.alloc (.cells #[.int .u64 0, .int .u64 0, .int .u64 0, .int .u64 0] 33)) b D s := h.kept (World.grownBy_alloc W _ none) (by simp) (by cases D <;> simp)
  have hT1 := inByte_any hD hR0
  have hrs : Rng s := by
    obtain ⟨a, cap, p, k, bad, hblk, hB, hk, h1, h2, rfl, -⟩ := h.opn
    obtain ⟨-, -, -, -, -, h3, -⟩ := hB
    intro p' hp' x hx
    cases bad with
    | true => simp at hp'
    | false => simp at hp'; subst hp'; exact h3 x (List.mem_of_mem_drop hx)
  have hlim := byteS_lim hrs
  have hrg : Rng (byteS s).2 := takeS_rng2 hrs 1
  obtain ⟨n, hn⟩ := Int.eq_ofNat_of_zero_le hlim.1
  unfold nS
  rw [hn] at hT1 hlim ⊢
  generalize (byteS s).2 = s1 at *
  rw [Int.toNat_natCast]
  have hn255 : (n : Int) ≤ 255 := by omega
  have hb0 : b ≠ W.heap.size := by omega
  have hb0' : ¬ W.heap.size = b := by omega
  by_cases hs1 : s1 = none
  · subst hs1
    have e1 : takeS none n = ([], none) := rfl
    rw [e1]
    have e2 : goodB [] = true := rfl
    rw [e2, if_pos rfl]
    go_enter Try.func44, Try.ntmps44
    go_wp2_with (first
      | (go_at_call 41; refine hT1.mono ?_; rintro e w1 ⟨rfl, hr1, hg1⟩; have q1 := (hg1.block W.heap.size (by simp) (by simp; omega)).trans (al_at rfl); have l1 := (Array.getElem?_eq_some_iff.1 q1).1; obtain ⟨a, cap, p, k, hblk, hB, hk, c0, c1, c2, f⟩ := hr1.opnN; obtain ⟨cq, fq⟩ := cells_of_block q1))
    go_quiet (fail)
    go_wp2
    have hG1 : W.grownBy ((w1.drewN nq).setCell ⟨b, 2, none⟩ (.bool true)) (some b) := grown_se (grown_dn (grown_tr (World.grownBy_alloc W _ (some b)) hg1) nq) _ _
    have hI1 : InAt ((w1.drewN nq).setCell ⟨b, 2, none⟩ (.bool true)) b D none := ⟨_, p, k, true, by rw [block_set (W := w1.drewN nq) _ hblk]; rfl, hB.kept (r := some b) (grown_se (grown_dn (grown_ref _ _) nq) _ _) (.inr hD), hk, rfl⟩
    have hk : ∀ X : World, X.grownBy ((((X.setCell ⟨W.heap.size, 0, none⟩ (.int .u64 0)).setCell ⟨W.heap.size, 1, none⟩ (.int .u64 0)).setCell ⟨W.heap.size, 2, none⟩ (.int .u64 0)).setCell ⟨W.heap.size, 3, none⟩ (.int .u64 0)) (some W.heap.size) := fun X => grown_se (grown_se (grown_se (grown_se (grown_ref _ _) _ _) _ _) _ _) _ _
    refine bodyPost_ret (v := .agg #[.int .u64 0, .int .u64 0, .int .u64 0, .int .u64 0]) (by simp only [results, Try.results44]; go_simp) rfl ⟨0, 0, 0, 0, rfl, lim_zero, val0, hI1.kept (hk _) (by simp; omega) hDh, grown_new hG1 (hk _) (Nat.le_refl _)⟩
  · by_cases hl : ∃ r, s1 = some r ∧ n ≤ r.length
    · obtain ⟨r, rfl, hl⟩ := hl
      have e1 : takeS (some r) n = (r.take n, some (r.drop n)) := by unfold takeS; simp only; rw [if_pos hl]
      rw [e1]
      simp only
      have hq : ∀ x ∈ r.take n, 0 ≤ x ∧ x ≤ 255 := fun x hx => hrg r rfl x (List.mem_of_mem_take hx)
      obtain ⟨z0, z1, z2, z3, ok, hz, hv, hst, hRd⟩ : ∃ (z0 z1 z2 z3 : Int) (ok : Bool), Lim z0 z1 z2 z3 ∧ Hid (val z0 z1 z2 z3 = (if goodB (r.take n) = true then (rd (r.take n), some (r.drop n)) else ((0 : Int), none)).1) ∧ Hid ((if goodB (r.take n) = true then (rd (r.take n), some (r.drop n)) else ((0 : Int), none)).2 = if ok then some (r.drop n) else none) ∧ ∀ (X : World) (v : Value), IsBytes X v (r.take n) → Calls Try.prog 56 #[v] X fun e w' => e = .returned (.tuple #[.agg #[.int .u64 z0, .int .u64 z1, .int .u64 z2, .int .u64 z3], .bool ok]) ∧ Below X.heap.size X w' := by
        rcases Bool.eq_false_or_eq_true (goodB (r.take n)) with hgd | hgd
        · obtain ⟨hgood, hl32⟩ := goodB_t hgd hq
          obtain ⟨z0, z1, z2, z3, hz, hv⟩ := rd_limbs hq hl32
          exact ⟨z0, z1, z2, z3, true, hz, by rw [hgd]; exact hv, by rw [hgd]; exact rfl, fun X v hB => readR_good hgood hl32 hz hv X hB⟩
        · exact ⟨0, 0, 0, 0, false, lim_zero, by rw [hgd]; exact val0, by rw [hgd]; exact rfl, fun X v hB => readR_bad (goodB_f hgd) X hB⟩
      generalize (if goodB (r.take n) = true then (rd (r.take n), some (r.drop n)) else ((0 : Int), none)) = pr at *
      go_enter Try.func44, Try.ntmps44
      go_wp2_with (first
        | (go_at_call 41; refine hT1.mono ?_; rintro e w1 ⟨rfl, hr1, hg1⟩; have q1 := (hg1.block W.heap.size (by simp) (by simp; omega)).trans (al_at rfl); have l1 := (Array.getElem?_eq_some_iff.1 q1).1; obtain ⟨a, cap, p, k, hblk, hB, hk, h1, h2, hss, c0, c1, c2, f⟩ := hr1.opnS hs1; obtain ⟨cq, fq⟩ := cells_of_block q1; have hrl : r.length = p.length - k := (by have := hss.out; simp at this; subst this; exact List.length_drop); have hpk : (k : Int) ≤ (p.length : Int) := (by omega); have hpl : (p.length : Int) ≤ 1048576 := (by omega); have hw : IntKind.i64.wrap ((p.length : Int) - (k : Int)) = (p.length : Int) - (k : Int) := (by rw [IntKind.wrap_i64]; omega); have hd : decide ((p.length : Int) - (k : Int) < (n : Int)) = false := (by rw [decide_eq_false_iff_not]; omega); have hdn : ¬ (p.length : Int) - (k : Int) < (n : Int) := (by omega); have hkn : (k : Int) + (n : Int) ≤ (cap : Int) := (by omega)))
      go_quiet (fail)
      have hMid : Hid (∀ X, Below w1.heap.size w1 X → IsBytes X (.slice (if cap = k then a else Option.map (fun x => x.add k) a) n (cap - k)) (r.take n)) := by
        intro X hX
        have e := hss.out; simp at e; subst e
        exact (hB.mid (n := n) (by omega)).below hX
      have hkn' : ((k : Int) + (n : Int)).toNat - k = n := by omega
      have hw2 : IntKind.i64.wrap ((k : Int) + (n : Int)) = (k : Int) + (n : Int) := by rw [IntKind.wrap_i64]; omega
      have hdz : ∀ n, (w1.drewN n).heap.size = w1.heap.size := fun _ => rfl
      have hbw : b < w1.heap.size := (Array.getElem?_eq_some_iff.1 hblk).1
      have hk0 : (0 : Int) ≤ (k : Int) := by omega
      have hk1 : (k : Int) ≤ (k : Int) + (n : Int) := by omega
      have hKeep : Hid (∀ X, Below w1.heap.size w1 X → X.cell? ⟨b, 0, none⟩ = some (.slice a p.length cap) ∧ X.cell? ⟨b, 1, none⟩ = some (.int .i64 (k : Int))) := fun X hX => ⟨(hX.cell (p := ⟨b, 0, none⟩) hbw).trans c0, (hX.cell (p := ⟨b, 1, none⟩) hbw).trans c1⟩
      go_upto_region 5 with fail
      go_cut [4, 5] from 31 to 49 (fun s4 s5 wx => ∃ B, s4 = .pointer (some ⟨B, 0, none⟩) ∧ s5 = .bool ok ∧ w1.heap.size ≤ B ∧ Below w1.heap.size w1 wx ∧ wx.heap[B]? = some (.cells #[.int .u64 z0, .int .u64 z1, .int .u64 z2, .int .u64 z3] 33 (0, 0)))
      case first =>
        by_cases hck : cap = k
        · subst hck
          rw [if_pos rfl, Nat.sub_self] at hMid
          go_region_held2 (fun X => X.cell? ⟨b, 0, none⟩ = some (.slice a p.length cap) ∧ X.cell? ⟨b, 1, none⟩ = some (.int .i64 (cap : Int))) (exact hKeep.out _ (by (repeat (first | (with_reducible exact Below.refl _ _) | (with_reducible assumption) | (with_reducible apply bd) | (with_reducible apply below_drewN) | (with_reducible apply ba) | (with_reducible refine bp ?_ (by first | omega | (simp [pad_size]; done) | (simp [pad_size]; omega)) _ _) | (with_reducible refine bs ?_ (by first | omega | (simp [pad_size]; done) | (simp [pad_size]; omega)) _))))) (first | (go_at_call 56; refine (hRd _ _ (hMid.out _ (by (repeat (first | (with_reducible exact Below.refl _ _) | (with_reducible assumption) | (with_reducible apply bd) | (with_reducible apply below_drewN) | (with_reducible apply ba) | (with_reducible refine bp ?_ (by first | omega | (simp [pad_size]; done) | (simp [pad_size]; omega)) _ _) | (with_reducible refine bs ?_ (by first | omega | (simp [pad_size]; done) | (simp [pad_size]; omega)) _)))))).mono ?_; rintro e w2 ⟨rfl, hb2⟩; have hB2 : Below w1.heap.size w1 w2 := Below.trans (by (repeat (first | (with_reducible exact Below.refl _ _) | (with_reducible assumption) | (with_reducible apply bd) | (with_reducible apply below_drewN) | (with_reducible apply ba) | (with_reducible refine bp ?_ (by first | omega | (simp [pad_size]; done) | (simp [pad_size]; omega)) _ _) | (with_reducible refine bs ?_ (by first | omega | (simp [pad_size]; done) | (simp [pad_size]; omega)) _)))) (hb2.mono (by simp [hdz])); try (have qa : w2.heap[w1.heap.size]? = some (.cells #[.int .u64 0, .int .u64 0, .int .u64 0, .int .u64 0] 33 (0, 0)) := (hb2.block w1.heap.size (by simp [hdz]; done)).trans (by with_reducible exact al_at (by simp [hdz])); obtain ⟨ca, fa⟩ := cells_of_block qa); have l2 := hB2.size; clear hb2))
          all_goals (go_wp2_with fail; go_meet)
          all_goals refine ⟨_, rfl, rfl, ?_, by (repeat (first | (with_reducible exact Below.refl _ _) | (with_reducible assumption) | (with_reducible apply bd) | (with_reducible apply below_drewN) | (with_reducible apply ba) | (with_reducible refine bp ?_ (by first | omega | (simp [pad_size]; done) | (simp [pad_size]; omega)) _ _) | (with_reducible refine bs ?_ (by first | omega | (simp [pad_size]; done) | (simp [pad_size]; omega)) _))), ?_⟩
          all_goals first | (with_reducible exact hB2.size) | (with_reducible exact Nat.le_refl _) | (with_reducible exact al_at rfl) | (with_reducible refine Eq.trans (block_set _ (block_set _ (block_set _ (block_set _ qa)))) ?_; simp; done)
        · rw [if_neg hck] at hMid
          go_region_held2 (fun X => X.cell? ⟨b, 0, none⟩ = some (.slice a p.length cap) ∧ X.cell? ⟨b, 1, none⟩ = some (.int .i64 (k : Int))) (exact hKeep.out _ (by (repeat (first | (with_reducible exact Below.refl _ _) | (with_reducible assumption) | (with_reducible apply bd) | (with_reducible apply below_drewN) | (with_reducible apply ba) | (with_reducible refine bp ?_ (by first | omega | (simp [pad_size]; done) | (simp [pad_size]; omega)) _ _) | (with_reducible refine bs ?_ (by first | omega | (simp [pad_size]; done) | (simp [pad_size]; omega)) _))))) (first | (go_at_call 56; refine (hRd _ _ (hMid.out _ (by (repeat (first | (with_reducible exact Below.refl _ _) | (with_reducible assumption) | (with_reducible apply bd) | (with_reducible apply below_drewN) | (with_reducible apply ba) | (with_reducible refine bp ?_ (by first | omega | (simp [pad_size]; done) | (simp [pad_size]; omega)) _ _) | (with_reducible refine bs ?_ (by first | omega | (simp [pad_size]; done) | (simp [pad_size]; omega)) _)))))).mono ?_; rintro e w2 ⟨rfl, hb2⟩; have hB2 : Below w1.heap.size w1 w2 := Below.trans (by (repeat (first | (with_reducible exact Below.refl _ _) | (with_reducible assumption) | (with_reducible apply bd) | (with_reducible apply below_drewN) | (with_reducible apply ba) | (with_reducible refine bp ?_ (by first | omega | (simp [pad_size]; done) | (simp [pad_size]; omega)) _ _) | (with_reducible refine bs ?_ (by first | omega | (simp [pad_size]; done) | (simp [pad_size]; omega)) _)))) (hb2.mono (by simp [hdz])); try (have qa : w2.heap[w1.heap.size]? = some (.cells #[.int .u64 0, .int .u64 0, .int .u64 0, .int .u64 0] 33 (0, 0)) := (hb2.block w1.heap.size (by simp [hdz]; done)).trans (by with_reducible exact al_at (by simp [hdz])); obtain ⟨ca, fa⟩ := cells_of_block qa); have l2 := hB2.size; clear hb2))
          all_goals (go_wp2_with fail; go_meet)
          all_goals refine ⟨_, rfl, rfl, ?_, by (repeat (first | (with_reducible exact Below.refl _ _) | (with_reducible assumption) | (with_reducible apply bd) | (with_reducible apply below_drewN) | (with_reducible apply ba) | (with_reducible refine bp ?_ (by first | omega | (simp [pad_size]; done) | (simp [pad_size]; omega)) _ _) | (with_reducible refine bs ?_ (by first | omega | (simp [pad_size]; done) | (simp [pad_size]; omega)) _))), ?_⟩
          all_goals first | (with_reducible exact hB2.size) | (with_reducible exact Nat.le_refl _) | (with_reducible exact al_at rfl) | (with_reducible refine Eq.trans (block_set _ (block_set _ (block_set _ (block_set _ qa)))) ?_; simp; done)
      case rest =>
        obtain ⟨B, rfl, rfl, hB1, hBx, hBb⟩ := hcut
        have hbk := (hBx.block b hbw).trans hblk
        have hqk := (hBx.block W.heap.size l1).trans q1
        obtain ⟨cc, fc⟩ := cells_of_block hbk
        obtain ⟨cd, fd⟩ := cells_of_block hqk
        obtain ⟨ce, fe⟩ := cells_of_block hBb
        have hBb1 : ¬ b = B := by omega
        have hBb2 : ¬ W.heap.size = B := by omega
        have hBb3 : ¬ B = b := by omega
        have hBb4 : ¬ B = W.heap.size := by omega
        clear c0 c1 c2 f cq fq
        go_wp2
        have hG1 : W.grownBy ((wc.setCell ⟨b, 1, none⟩ (.int .i64 ((k : Int) + (n : Int)))).setCell ⟨b, 2, none⟩ (.bool (!ok))) (some b) := grown_se (grown_se (grown_tr (grown_tr (World.grownBy_alloc W _ (some b)) hg1) (grown_up (grown_none hBx))) _ _) _ _
        have hI1 : InAt ((wc.setCell ⟨b, 1, none⟩ (.int .i64 ((k : Int) + (n : Int)))).setCell ⟨b, 2, none⟩ (.bool (!ok))) b D pr.2 := by
          rw [hst.out]
          refine ⟨_, p, k + n, !ok, by rw [block_set _ (block_set _ hbk)]; simp, hB.kept (r := some b) (grown_se (grown_se (grown_up (grown_none hBx)) _ _) _ _) (.inr hD), by omega, ?_⟩
          have e := hss.out; simp at e; subst e
          cases ok <;> simp
        have hk : ∀ X : World, X.grownBy ((((X.setCell ⟨W.heap.size, 0, none⟩ (.int .u64 z0)).setCell ⟨W.heap.size, 1, none⟩ (.int .u64 z1)).setCell ⟨W.heap.size, 2, none⟩ (.int .u64 z2)).setCell ⟨W.heap.size, 3, none⟩ (.int .u64 z3)) (some W.heap.size) := fun X => grown_se (grown_se (grown_se (grown_se (grown_ref _ _) _ _) _ _) _ _) _ _
        refine bodyPost_ret (v := .agg #[.int .u64 z0, .int .u64 z1, .int .u64 z2, .int .u64 z3]) (by simp only [results, Try.results44]; go_simp) rfl ⟨z0, z1, z2, z3, rfl, hz, hv, hI1.kept (hk _) (by simp; omega) hDh, grown_new hG1 (hk _) (Nat.le_refl _)⟩
    · have e1 : takeS s1 n = ([], none) := by
        match s1, hs1 with
        | some r, _ => unfold takeS; simp only; rw [if_neg (fun h => hl ⟨r, rfl, h⟩)]
      rw [e1]
      have e2 : goodB [] = true := rfl
      rw [e2, if_pos rfl]
      go_enter Try.func44, Try.ntmps44
      go_wp2_with (first
        | (go_at_call 41; refine hT1.mono ?_; rintro e w1 ⟨rfl, hr1, hg1⟩; have q1 := (hg1.block W.heap.size (by simp) (by simp; omega)).trans (al_at rfl); have l1 := (Array.getElem?_eq_some_iff.1 q1).1; obtain ⟨a, cap, p, k, hblk, hB, hk, h1, h2, hss, c0, c1, c2, f⟩ := hr1.opnS hs1; obtain ⟨cq, fq⟩ := cells_of_block q1; have hrl : ¬ n ≤ p.length - k := (fun hc => hl ⟨p.drop k, hss.out, by rw [List.length_drop]; exact hc⟩); have hpk : (k : Int) ≤ (p.length : Int) := (by omega); have hpl : (p.length : Int) ≤ 1048576 := (by omega); have hw : IntKind.i64.wrap ((p.length : Int) - (k : Int)) = (p.length : Int) - (k : Int) := (by rw [IntKind.wrap_i64]; omega); have hd : decide ((p.length : Int) - (k : Int) < (n : Int)) = true := (by rw [decide_eq_true_iff]; omega); have hdn : (p.length : Int) - (k : Int) < (n : Int) := (by omega)))
      go_quiet (fail)
      go_wp2
      have hG1 : W.grownBy ((w1.drewN nq).setCell ⟨b, 2, none⟩ (.bool true)) (some b) := grown_se (grown_dn (grown_tr (World.grownBy_alloc W _ (some b)) hg1) nq) _ _
      have hI1 : InAt ((w1.drewN nq).setCell ⟨b, 2, none⟩ (.bool true)) b D none := ⟨_, p, k, true, by rw [block_set (W := w1.drewN nq) _ hblk]; rfl, hB.kept (r := some b) (grown_se (grown_dn (grown_ref _ _) nq) _ _) (.inr hD), hk, rfl⟩
      have hk : ∀ X : World, X.grownBy ((((X.setCell ⟨W.heap.size, 0, none⟩ (.int .u64 0)).setCell ⟨W.heap.size, 1, none⟩ (.int .u64 0)).setCell ⟨W.heap.size, 2, none⟩ (.int .u64 0)).setCell ⟨W.heap.size, 3, none⟩ (.int .u64 0)) (some W.heap.size) := fun X => grown_se (grown_se (grown_se (grown_se (grown_ref _ _) _ _) _ _) _ _) _ _
      refine bodyPost_ret (v := .agg #[.int .u64 0, .int .u64 0, .int .u64 0, .int .u64 0]) (by simp only [results, Try.results44]; go_simp) rfl ⟨0, 0, 0, 0, rfl, lim_zero, val0, hI1.kept (hk _) (by simp; omega) hDh, grown_new hG1 (hk _) (Nat.le_refl _)⟩
end Go.Proofs.Ytoikklbnbgoecaa
