
/- Several texts, one behind the other: G8, G6, G9, G10, G11, V2, G12, G13, G14, G15, G16, G17. -/
import Derived.Test.YtjhjgncnadhbhaaQB4
import Derived.Laws.Cover3
import Derived.Deep.CutRange
import Derived.Test.YtjhjgncnadhbhaaR
import Derived.WalkMore
import Derived.Test.YtjhjgncnadhbhaaC5
import Derived.Test.YtjhjgncnadhbhaaV6
import Derived.Test.YtjhjgncnadhbhaaV1
import Derived.ScopeJumps
import Derived.Test.YtjhjgncnadhbhaaD4

/- codec: bytes, numbers, what is done, what is read. -/
set_option linter.unusedSimpArgs false
set_option linter.unusedVariables false
set_option maxRecDepth 20000
namespace Go.Proofs.Ytjhjgncnadhbhaa
open Go.RowKit

set_option maxHeartbeats 1000000 in
theorem wByte_any {W : World} {b base : Nat} {v : Value} {p : List Int} (x : Int) (hW : WrAt W b base v p) (hbase : base ≤ W.heap.size) (hl : p.length + 1 ≤ 1048576) :
    Calls Try.prog 44 #[.pointer (some ⟨b, 0, none⟩), .int .u8 x] W fun e w' => e = .returned (.pointer (some ⟨b, 0, none⟩)) ∧ ∃ v', WrAt w' b base v' (p ++ [x]) ∧ WF W w' b v v' := by
  have hg := World.grownBy_alloc W (.cells #[.int .u8 x] 5) none
  have hL := lay_any (hW.kept hg (by simp) (by cases v.ownBlock <;> simp)) (by simp; omega) (q := [x]) hl (src_new W [x] 5)
  go_enter Try.func44, Try.ntmps44
  go_wp2_with (go_at_call 71; refine hL.mono ?_; rintro e w1 ⟨rfl, v', h1, h2⟩)
  go_ret
  exact ⟨rfl, v', h1, h2.pre hg⟩

set_option maxHeartbeats 1000000 in
theorem clone_any {W : World} {u : Value} {q : List Int} (hl : q.length ≤ 1048576) (hu : Src W u q) :
    Calls Try.prog 46 #[u] W fun e w' => ∃ u', e = .returned u' ∧ w'.ownsRow W.heap.size 5 1 u' q.length (encB q) ∧ Below W.heap.size W w' := by
  obtain ⟨i0, hi, hz0, hz1, hz2⟩ := info_parts u8_info
  have hnil : ∀ X a l c, (binOp .eql 42 (.slice a l c) (.slice none 0 0)).run Try.prog X = .ok (.bool a.isNone) X := fun X a l c => by simp [binOp, run_equal_slice_nil X 42 5 a l c Try.underlying42]
  rcases hu with ⟨rfl, rfl⟩ | ⟨ad, cap, rfl, hc⟩
  · go_enter Try.func46, Try.ntmps46
    go_wp2
    go_ret
    exact ⟨_, rfl, World.ownsRow_nil _ _ _ _, Below.refl _ _⟩
  · have hm : (W.alloc (.cells #[] 5)).ownsRow W.heap.size 5 1 (.slice (some ⟨W.heap.size, 0, none⟩) 0 0) 0 [] := World.ownsRow_made W #[] 0 (Nat.le_refl _) (by unfold maxLen; omega) rfl
    go_enter Try.func46, Try.ntmps46
    go_wp2_with (at_builtin; refine wpList_append_own _ rfl _ _ 42 rfl W.heap.size 5 i0 _ 1 1 Try.underlying42 hi hz0 hz1 hz2 rfl (by decide) _ _ _ rfl hm ad q.length cap (encB q) rfl (by simp [encB]) (fun j x hj => by simp only [encB, List.getElem?_map] at hj; obtain ⟨y, hy, rfl⟩ := Option.map_eq_some_iff.1 hj; exact (World.grownBy_alloc W _ none).cell (hc j y hy) (by simp)) (by simp [encB, Value.oneCell']) (by unfold maxLen; omega) (by omega) (by simp) ?_; intro v' w1 hown' hgrow _; rw [Nat.zero_add, List.nil_append] at hown')
    go_ret
    exact ⟨_, rfl, hown', (ba (Below.refl _ _) _).grown hgrow (by simp) (fun k hk => (hm.lt k hk).1)⟩
set_option maxHeartbeats 1000000 in
theorem read_new {W : World} {u : Value} {q : List Int} (hl : q.length ≤ 1048576) (hr : ∀ x ∈ q, 0 ≤ x ∧ x ≤ 255) (hu : Src W u q) :
    Calls Try.prog 19 #[u] W fun e w' => ∃ b D, e = .returned (.pointer (some ⟨b, 0, none⟩)) ∧ RdAt w' b D (some q) ∧ W.heap.size ≤ b ∧ D ≠ some b ∧ (∀ d, D = some d → W.heap.size ≤ d ∧ d < w'.heap.size) ∧ Below W.heap.size W w' := by
  go_enter Try.func19, Try.ntmps19
  go_wp2_with (go_at_call 46; refine (clone_any hl hu).mono ?_; rintro e w1 ⟨u', rfl, ho, hb⟩; obtain ⟨a, cap, rfl⟩ := row_slice ho)
  go_ret
  have hB := byt_own ho hl hr
  have hlt := ho.lt
  refine ⟨w1.heap.size, _, rfl, ⟨_, World.alloc_heap_new w1 _, hB.kept (World.grownBy_alloc w1 _ none) (by cases a <;> simp [Value.ownBlock])⟩, hb.size, ?_, ?_, ba hb _⟩
  · intro e; have := (hlt _ e).2; omega
  · intro d hd; have := hlt d hd; simp; omega
set_option maxHeartbeats 1000000 in
theorem wDone_any {W : World} {b base : Nat} {v : Value} {p : List Int} (hW : WrAt W b base v p) (hl : p.length ≤ 1048576) :
    Calls Try.prog 18 #[.pointer (some ⟨b, 0, none⟩)] W fun e w' => ∃ u', e = .returned u' ∧ w'.ownsRow W.heap.size 5 1 u' p.length (encB p) ∧ Below W.heap.size W w' := by
  obtain ⟨hblk, hrow⟩ := hW
  obtain ⟨c, f⟩ := cells_of_block hblk
  have hs := src_own hrow
  obtain ⟨a, cap, rfl⟩ := row_slice hrow
  go_enter Try.func18, Try.ntmps18
  go_wp2_with (go_at_call 46; refine (clone_any hl hs).mono ?_; rintro e w1 ⟨u', rfl, ho, hb⟩)
  go_ret
  exact ⟨u', rfl, ho, hb⟩

theorem bytes_own (x0 x1 x2 x3 : Int) (hx : Lim x0 x1 x2 x3) (w : World) :
    Calls Try.prog 93 #[.agg #[.int .u64 x0, .int .u64 x1, .int .u64 x2, .int .u64 x3]] w fun e w' => ∃ v : Value, e = .returned v ∧ w'.ownsRow w.heap.size 5 1 v (byL (val x0 x1 x2 x3) 32).length (encB (byL (val x0 x1 x2 x3) 32)) ∧ Below w.heap.size w w' := by
  refine (bytes_any x0 x1 x2 x3 hx w).mono ?_
  rintro e w' ⟨v, rfl, hr, hb⟩
  rw [bytesB_byL hx] at hr
  exact ⟨v, rfl, hr, hb⟩
set_option maxHeartbeats 2000000 in
theorem wNum_any {W : World} {b base : Nat} {v : Value} {p : List Int} (x0 x1 x2 x3 : Int) (hx : Lim x0 x1 x2 x3) (hW : WrAt W b base v p) (hbase : base ≤ W.heap.size) (hl : p.length + 33 ≤ 1048576) :
    Calls Try.prog 72 #[.pointer (some ⟨b, 0, none⟩), .agg #[.int .u64 x0, .int .u64 x1, .int .u64 x2, .int .u64 x3]] W fun e w' => e = .returned (.pointer (some ⟨b, 0, none⟩)) ∧ ∃ v', WrAt w' b base v' (p ++ (((byL (val x0 x1 x2 x3) 32).length : Int) :: byL (val x0 x1 x2 x3) 32)) ∧ WF W w' b v v' := by
  have hlen := byL_len (val x0 x1 x2 x3) 32
  generalize hq : byL (val x0 x1 x2 x3) 32 = q at *
  have hB0 := bytes_own x0 x1 x2 x3 hx
  rw [hq] at hB0
  have hg0 := World.grownBy_alloc W (.cells #[.int .u64 x0, .int .u64 x1, .int .u64 x2, .int .u64 x3] 64) none
  have hW0 := hW.kept hg0 (by simp) (by cases v.ownBlock <;> simp)
  have hl1 : (q.length : Int) ≤ 32 := by omega
  have hw8 : IntKind.u8.wrap (q.length : Int) = (q.length : Int) := by rw [IntKind.wrap_u8]; omega
  clear hq
  go_enter Try.func72, Try.ntmps72
  go_wp2_with (first
    | (go_at_call 93; refine (hB0 _).mono ?_; rintro e w1 ⟨u, rfl, ho1, hb1⟩; have hW1 := hW0.kept (grown_none hb1) (by simp) (by cases v.ownBlock <;> simp); have hz1 := hb1.size; simp at hz1; obtain ⟨a1, c1, rfl⟩ := row_slice ho1)
    | (go_at_call 44; refine (wByte_any (q.length : Int) hW1 (by omega) (by omega)).mono ?_; rintro e w2 ⟨rfl, v2, hW2, hF2⟩)
    | (go_at_call 71; refine (lay_any hW2 (by have := hF2.size; omega) (by simp; omega) (src_own (hF2.row ho1 (by have := hW.lt; intro e; have := ho1.lt b e; simp at this; omega) (by cases e : v.ownBlock with | none => (cases (Value.slice a1 q.length c1).ownBlock <;> simp) | some g => (right; intro e2; have := hW.2.lt g e; have := ho1.lt g e2; simp at this; omega))))).mono ?_; rintro e w3 ⟨rfl, v3, hW3, hF3⟩))
  go_ret
  refine ⟨rfl, v3, ?_, WF.pre (World.grownBy.trans hg0 (grown_none hb1)) (hF2.trans hF3)⟩
  rw [List.append_assoc] at hW3
  exact hW3
end Go.Proofs.Ytjhjgncnadhbhaa

/- The reference's reader: numbers of 256 bits. -/
namespace Go.Proofs.Ytjhjgncnadhbhaa
open Go.RowKit

theorem Byt.mid {W : World} {D : Option Nat} {k n cap : Nat} {a : Option Addr} {p : List Int} (h : Byt W D (.slice a p.length cap) p) (hn : k + n ≤ p.length) : IsBytes W (.slice (if cap = k then a else Option.map (fun x => x.add k) a) n (cap - k)) ((p.drop k).take n) := by
  have hlen : ((p.drop k).take n).length = n := by simp; omega
  by_cases hc : cap = k
  · have h0 : n = 0 := by obtain ⟨a', cap', e, h1, -⟩ := h; simp at e; omega
    subst h0
    exact .inl ⟨by simp, _, _, rfl⟩
  · rw [if_neg hc]
    have h1 := h.drop (n := k) (by omega)
    obtain ⟨a', cap', e, h1, h2, h3, h4⟩ := h1
    simp at e
    obtain ⟨rfl, -, rfl⟩ := e
    rcases h4 with h4 | ⟨d, off, hd, ha, h5, h6⟩
    · have h0 : n = 0 := by have := congrArg List.length h4; simp at this; omega
      subst h0
      exact .inl ⟨by simp, _, _, rfl⟩
    · rw [ha]
      refine .inr ⟨d, off, _, by rw [hlen], by rw [hlen]; simp at h2; omega, h5, fun i x hi => h6 i x ?_⟩
      have : i < n := by have := (List.getElem?_eq_some_iff.1 hi).1; omega
      rwa [List.getElem?_take_of_lt this] at hi

set_option maxRecDepth 10000 in
set_option maxHeartbeats 4000000 in
theorem inNum_any {W : World} {b : Nat} {D : Option Nat} {s : Option (List Int)} (hD : D ≠ some b) (hDl : ∀ d, D = some d → d < W.heap.size) (h : InAt W b D s) :
    Calls Try.prog 77 #[.pointer (some ⟨b, 0, none⟩)] W fun e w' => ∃ z0 z1 z2 z3 : Int, e = .returned (.agg #[.int .u64 z0, .int .u64 z1, .int .u64 z2, .int .u64 z3]) ∧ Lim z0 z1 z2 z3 ∧ Hid (val z0 z1 z2 z3 = (nS s).1) ∧ InAt w' b D (nS s).2 ∧ W.grownBy w' (some b) := by
  have hpad := pads
  have hbl := h.lt
  have hDh : D = none ∨ D ≠ some W.heap.size := by
    cases hd : D with
    | none => exact .inl rfl
    | some d => right; intro e; have := hDl d hd; simp at e; omega
  have hR0 : InAt (W.alloc (.cells #[.int .u64 0, .int .u64 0, .int .u64 0, .int .u64 0] 64)) b D s := h.kept (World.grownBy_alloc W _ none) (by simp) (by cases D <;> simp)
  have hT1 := inByte_any hD hR0
  have hrs : Rng s := by
    obtain ⟨a, cap, p, k, bad, hblk, hB, hk, h1, h2, rfl, -⟩ := h.opn
    obtain ⟨-, -, -, -, -, h3, -⟩ := hB
    intro p' hp' x hx
    cases bad with
    | true => simp at hp'
    | false => simp at hp'; subst hp'; exact h3 x (List.mem_of_mem_drop hx)
  have hlim := byteS_lim hrs
  have hrg : Rng (byteS s).2 := takeS_rng2 hrs 1
  obtain ⟨n, hn⟩ := Int.eq_ofNat_of_zero_le hlim.1
  unfold nS
  rw [hn] at hT1 hlim ⊢
  generalize (byteS s).2 = s1 at *
  rw [Int.toNat_natCast]
  have hn255 : (n : Int) ≤ 255 := by omega
  have hb0 : b ≠ W.heap.size := by omega
  have hb0' : ¬ W.heap.size = b := by omega
  by_cases hs1 : s1 = none
  · subst hs1
    have e1 : takeS none n = ([], none) := rfl
    rw [e1]
    have e2 : goodB [] = true := rfl
    rw [e2, if_pos rfl]
    go_enter Try.func77, Try.ntmps77
    go_wp2_with (first
      | (go_at_call 55; refine hT1.mono ?_; rintro e w1 ⟨rfl, hr1, hg1⟩; have q1 := (hg1.block W.heap.size (by simp) (by simp; omega)).trans (al_at rfl); have l1 := (Array.getElem?_eq_some_iff.1 q1).1; obtain ⟨a, cap, p, k, hblk, hB, hk, c0, c1, c2, f⟩ := hr1.opnN; obtain ⟨cq, fq⟩ := cells_of_block q1))
    go_quiet (fail)
    go_wp2
    have hG1 : W.grownBy ((w1.drewN nq).setCell ⟨b, 2, none⟩ (.bool true)) (some b) := grown_se (grown_dn (grown_tr (World.grownBy_alloc W _ (some b)) hg1) nq) _ _
    have hI1 : InAt ((w1.drewN nq).setCell ⟨b, 2, none⟩ (.bool true)) b D none := ⟨_, p, k, true, by rw [block_set (W := w1.drewN nq) _ hblk]; rfl, hB.kept (r := some b) (grown_se (grown_dn (grown_ref _ _) nq) _ _) (.inr hD), hk, rfl⟩
    have hk : ∀ X : World, X.grownBy ((((X.setCell ⟨W.heap.size, 0, none⟩ (.int .u64 0)).setCell ⟨W.heap.size, 1, none⟩ (.int .u64 0)).setCell ⟨W.heap.size, 2, none⟩ (.int .u64 0)).setCell ⟨W.heap.size, 3, none⟩ (.int .u64 0)) (some W.heap.size) := fun X => grown_se (grown_se (grown_se (grown_se (grown_ref _ _) _ _) _ _) _ _) _ _
    refine bodyPost_ret (v := .agg #[.int .u64 0, .int .u64 0, .int .u64 0, .int .u64 0]) (by simp only [results, Try.results77]; go_simp) rfl ⟨0, 0, 0, 0, rfl, lim_zero, val0, hI1.kept (hk _) (by simp; omega) hDh, grown_new hG1 (hk _) (Nat.le_refl _)⟩
  · by_cases hl : ∃ r, s1 = some r ∧ n ≤ r.length
    · obtain ⟨r, rfl, hl⟩ := hl
      have e1 : takeS (some r) n = (r.take n, some (r.drop n)) := by unfold takeS; simp only; rw [if_pos hl]
      rw [e1]
      simp only
      have hq : ∀ x ∈ r.take n, 0 ≤ x ∧ x ≤ 255 := fun x hx => hrg r rfl x (List.mem_of_mem_take hx)
      obtain ⟨z0, z1, z2, z3, ok, hz, hv, hst, hRd⟩ : ∃ (z0 z1 z2 z3 : Int) (ok : Bool), Lim z0 z1 z2 z3 ∧ Hid (val z0 z1 z2 z3 = (if goodB (r.take n) = true then (rd (r.take n), some (r.drop n)) else ((0 : Int), none)).1) ∧ Hid ((if goodB (r.take n) = true then (rd (r.take n), some (r.drop n)) else ((0 : Int), none)).2 = if ok then some (r.drop n) else none) ∧ ∀ (X : World) (v : Value), IsBytes X v (r.take n) → Calls Try.prog 96 #[v] X fun e w' => e = .returned (.tuple #[.agg #[.int .u64 z0, .int .u64 z1, .int .u64 z2, .int .u64 z3], .bool ok]) ∧ Below X.heap.size X w' := by
        rcases Bool.eq_false_or_eq_true (goodB (r.take n)) with hgd | hgd
        · obtain ⟨hgood, hl32⟩ := goodB_t hgd hq
          obtain ⟨z0, z1, z2, z3, hz, hv⟩ := rd_limbs hq hl32
          exact ⟨z0, z1, z2, z3, true, hz, by rw [hgd]; exact hv, by rw [hgd]; exact rfl, fun X v hB => readR_good hgood hl32 hz hv X hB⟩
        · exact ⟨0, 0, 0, 0, false, lim_zero, by rw [hgd]; exact val0, by rw [hgd]; exact rfl, fun X v hB => readR_bad (goodB_f hgd) X hB⟩
      generalize (if goodB (r.take n) = true then (rd (r.take n), some (r.drop n)) else ((0 : Int), none)) = pr at *
      go_enter Try.func77, Try.ntmps77
      go_wp2_with (first
        | (go_at_call 55; refine hT1.mono ?_; rintro e w1 ⟨rfl, hr1, hg1⟩; have q1 := (hg1.block W.heap.size (by simp) (by simp; omega)).trans (al_at rfl); have l1 := (Array.getElem?_eq_some_iff.1 q1).1; obtain ⟨a, cap, p, k, hblk, hB, hk, h1, h2, hss, c0, c1, c2, f⟩ := hr1.opnS hs1; obtain ⟨cq, fq⟩ := cells_of_block q1; have hrl : r.length = p.length - k := (by have := hss.out; simp at this; subst this; exact List.length_drop); have hpk : (k : Int) ≤ (p.length : Int) := (by omega); have hpl : (p.length : Int) ≤ 1048576 := (by omega); have hw : IntKind.i64.wrap ((p.length : Int) - (k : Int)) = (p.length : Int) - (k : Int) := (by rw [IntKind.wrap_i64]; omega); have hd : decide ((p.length : Int) - (k : Int) < (n : Int)) = false := (by rw [decide_eq_false_iff_not]; omega); have hdn : ¬ (p.length : Int) - (k : Int) < (n : Int) := (by omega); have hkn : (k : Int) + (n : Int) ≤ (cap : Int) := (by omega)))
      go_quiet (fail)
      have hMid : Hid (∀ X, Below w1.heap.size w1 X → IsBytes X (.slice (if cap = k then a else Option.map (fun x => x.add k) a) n (cap - k)) (r.take n)) := by
        intro X hX
        have e := hss.out; simp at e; subst e
        exact (hB.mid (n := n) (by omega)).below hX
      have hkn' : ((k : Int) + (n : Int)).toNat - k = n := by omega
      have hw2 : IntKind.i64.wrap ((k : Int) + (n : Int)) = (k : Int) + (n : Int) := by rw [IntKind.wrap_i64]; omega
      have hdz : ∀ n, (w1.drewN n).heap.size = w1.heap.size := fun _ => rfl
      have hbw : b < w1.heap.size := (Array.getElem?_eq_some_iff.1 hblk).1
      have hk0 : (0 : Int) ≤ (k : Int) := by omega
      have hk1 : (k : Int) ≤ (k : Int) + (n : Int) := by omega
      have hKeep : Hid (∀ X, Below w1.heap.size w1 X → X.cell? ⟨b, 0, none⟩ = some (.slice a p.length cap) ∧ X.cell? ⟨b, 1, none⟩ = some (.int .i64 (k : Int))) := fun X hX => ⟨(hX.cell (p := ⟨b, 0, none⟩) hbw).trans c0, (hX.cell (p := ⟨b, 1, none⟩) hbw).trans c1⟩
      go_upto_region 5 with fail
      go_cut [4, 5] from 31 to 49 (fun s4 s5 wx => ∃ B, s4 = .pointer (some ⟨B, 0, none⟩) ∧ s5 = .bool ok ∧ w1.heap.size ≤ B ∧ Below w1.heap.size w1 wx ∧ wx.heap[B]? = some (.cells #[.int .u64 z0, .int .u64 z1, .int .u64 z2, .int .u64 z3] 64 (0, 0)))
      case first =>
        by_cases hck : cap = k
        · subst hck
          rw [if_pos rfl, Nat.sub_self] at hMid
          go_region_held2 (fun X => X.cell? ⟨b, 0, none⟩ = some (.slice a p.length cap) ∧ X.cell? ⟨b, 1, none⟩ = some (.int .i64 (cap : Int))) (exact hKeep.out _ (by (repeat (first | (with_reducible exact Below.refl _ _) | (with_reducible assumption) | (with_reducible apply bd) | (with_reducible apply below_drewN) | (with_reducible apply ba) | (with_reducible refine bp ?_ (by first | omega | (simp [pad_size]; done) | (simp [pad_size]; omega)) _ _) | (with_reducible refine bs ?_ (by first | omega | (simp [pad_size]; done) | (simp [pad_size]; omega)) _))))) (first | (go_at_call 96; refine (hRd _ _ (hMid.out _ (by (repeat (first | (with_reducible exact Below.refl _ _) | (with_reducible assumption) | (with_reducible apply bd) | (with_reducible apply below_drewN) | (with_reducible apply ba) | (with_reducible refine bp ?_ (by first | omega | (simp [pad_size]; done) | (simp [pad_size]; omega)) _ _) | (with_reducible refine bs ?_ (by first | omega | (simp [pad_size]; done) | (simp [pad_size]; omega)) _)))))).mono ?_; rintro e w2 ⟨rfl, hb2⟩; have hB2 : Below w1.heap.size w1 w2 := Below.trans (by (repeat (first | (with_reducible exact Below.refl _ _) | (with_reducible assumption) | (with_reducible apply bd) | (with_reducible apply below_drewN) | (with_reducible apply ba) | (with_reducible refine bp ?_ (by first | omega | (simp [pad_size]; done) | (simp [pad_size]; omega)) _ _) | (with_reducible refine bs ?_ (by first | omega | (simp [pad_size]; done) | (simp [pad_size]; omega)) _)))) (hb2.mono (by simp [hdz])); try (have qa : w2.heap[w1.heap.size]? = some (.cells #[.int .u64 0, .int .u64 0, .int .u64 0, .int .u64 0] 64 (0, 0)) := (hb2.block w1.heap.size (by simp [hdz]; done)).trans (by with_reducible exact al_at (by simp [hdz])); obtain ⟨ca, fa⟩ := cells_of_block qa); have l2 := hB2.size; clear hb2))
          all_goals (go_wp2_with fail; go_meet)
          all_goals refine ⟨_, rfl, rfl, ?_, by (repeat (first | (with_reducible exact Below.refl _ _) | (with_reducible assumption) | (with_reducible apply bd) | (with_reducible apply below_drewN) | (with_reducible apply ba) | (with_reducible refine bp ?_ (by first | omega | (simp [pad_size]; done) | (simp [pad_size]; omega)) _ _) | (with_reducible refine bs ?_ (by first | omega | (simp [pad_size]; done) | (simp [pad_size]; omega)) _))), ?_⟩
          all_goals first | (with_reducible exact hB2.size) | (with_reducible exact Nat.le_refl _) | (with_reducible exact al_at rfl) | (with_reducible refine Eq.trans (block_set _ (block_set _ (block_set _ (block_set _ qa)))) ?_; simp; done)
        · rw [if_neg hck] at hMid
          go_region_held2 (fun X => X.cell? ⟨b, 0, none⟩ = some (.slice a p.length cap) ∧ X.cell? ⟨b, 1, none⟩ = some (.int .i64 (k : Int))) (exact hKeep.out _ (by (repeat (first | (with_reducible exact Below.refl _ _) | (with_reducible assumption) | (with_reducible apply bd) | (with_reducible apply below_drewN) | (with_reducible apply ba) | (with_reducible refine bp ?_ (by first | omega | (simp [pad_size]; done) | (simp [pad_size]; omega)) _ _) | (with_reducible refine bs ?_ (by first | omega | (simp [pad_size]; done) | (simp [pad_size]; omega)) _))))) (first | (go_at_call 96; refine (hRd _ _ (hMid.out _ (by (repeat (first | (with_reducible exact Below.refl _ _) | (with_reducible assumption) | (with_reducible apply bd) | (with_reducible apply below_drewN) | (with_reducible apply ba) | (with_reducible refine bp ?_ (by first | omega | (simp [pad_size]; done) | (simp [pad_size]; omega)) _ _) | (with_reducible refine bs ?_ (by first | omega | (simp [pad_size]; done) | (simp [pad_size]; omega)) _)))))).mono ?_; rintro e w2 ⟨rfl, hb2⟩; have hB2 : Below w1.heap.size w1 w2 := Below.trans (by (repeat (first | (with_reducible exact Below.refl _ _) | (with_reducible assumption) | (with_reducible apply bd) | (with_reducible apply below_drewN) | (with_reducible apply ba) | (with_reducible refine bp ?_ (by first | omega | (simp [pad_size]; done) | (simp [pad_size]; omega)) _ _) | (with_reducible refine bs ?_ (by first | omega | (simp [pad_size]; done) | (simp [pad_size]; omega)) _)))) (hb2.mono (by simp [hdz])); try (have qa : w2.heap[w1.heap.size]? = some (.cells #[.int .u64 0, .int .u64 0, .int .u64 0, .int .u64 0] 64 (0, 0)) := (hb2.block w1.heap.size (by simp [hdz]; done)).trans (by with_reducible exact al_at (by simp [hdz])); obtain ⟨ca, fa⟩ := cells_of_block qa); have l2 := hB2.size; clear hb2))
          all_goals (go_wp2_with fail; go_meet)
          all_goals refine ⟨_, rfl, rfl, ?_, by (repeat (first | (with_reducible exact Below.refl _ _) | (with_reducible assumption) | (with_reducible apply bd) | (with_reducible apply below_drewN) | (with_reducible apply ba) | (with_reducible refine bp ?_ (by first | omega | (simp [pad_size]; done) | (simp [pad_size]; omega)) _ _) | (with_reducible refine bs ?_ (by first | omega | (simp [pad_size]; done) | (simp [pad_size]; omega)) _))), ?_⟩
          all_goals first | (with_reducible exact hB2.size) | (with_reducible exact Nat.le_refl _) | (with_reducible exact al_at rfl) | (with_reducible refine Eq.trans (block_set _ (block_set _ (block_set _ (block_set _ qa)))) ?_; simp; done)
      case rest =>
        obtain ⟨B, rfl, rfl, hB1, hBx, hBb⟩ := hcut
        have hbk := (hBx.block b hbw).trans hblk
        have hqk := (hBx.block W.heap.size l1).trans q1
        obtain ⟨cc, fc⟩ := cells_of_block hbk
        obtain ⟨cd, fd⟩ := cells_of_block hqk
        obtain ⟨ce, fe⟩ := cells_of_block hBb
        have hBb1 : ¬ b = B := by omega
        have hBb2 : ¬ W.heap.size = B := by omega
        have hBb3 : ¬ B = b := by omega
        have hBb4 : ¬ B = W.heap.size := by omega
        clear c0 c1 c2 f cq fq
        go_wp2
        have hG1 : W.grownBy ((wc.setCell ⟨b, 1, none⟩ (.int .i64 ((k : Int) + (n : Int)))).setCell ⟨b, 2, none⟩ (.bool (!ok))) (some b) := grown_se (grown_se (grown_tr (grown_tr (World.grownBy_alloc W _ (some b)) hg1) (grown_up (grown_none hBx))) _ _) _ _
        have hI1 : InAt ((wc.setCell ⟨b, 1, none⟩ (.int .i64 ((k : Int) + (n : Int)))).setCell ⟨b, 2, none⟩ (.bool (!ok))) b D pr.2 := by
          rw [hst.out]
          refine ⟨_, p, k + n, !ok, by rw [block_set _ (block_set _ hbk)]; simp, hB.kept (r := some b) (grown_se (grown_se (grown_up (grown_none hBx)) _ _) _ _) (.inr hD), by omega, ?_⟩
          have e := hss.out; simp at e; subst e
          cases ok <;> simp
        have hk : ∀ X : World, X.grownBy ((((X.setCell ⟨W.heap.size, 0, none⟩ (.int .u64 z0)).setCell ⟨W.heap.size, 1, none⟩ (.int .u64 z1)).setCell ⟨W.heap.size, 2, none⟩ (.int .u64 z2)).setCell ⟨W.heap.size, 3, none⟩ (.int .u64 z3)) (some W.heap.size) := fun X => grown_se (grown_se (grown_se (grown_se (grown_ref _ _) _ _) _ _) _ _) _ _
        refine bodyPost_ret (v := .agg #[.int .u64 z0, .int .u64 z1, .int .u64 z2, .int .u64 z3]) (by simp only [results, Try.results77]; go_simp) rfl ⟨z0, z1, z2, z3, rfl, hz, hv, hI1.kept (hk _) (by simp; omega) hDh, grown_new hG1 (hk _) (Nat.le_refl _)⟩
    · have e1 : takeS s1 n = ([], none) := by
        match s1, hs1 with
        | some r, _ => unfold takeS; simp only; rw [if_neg (fun h => hl ⟨r, rfl, h⟩)]
      rw [e1]
      have e2 : goodB [] = true := rfl
      rw [e2, if_pos rfl]
      go_enter Try.func77, Try.ntmps77
      go_wp2_with (first
        | (go_at_call 55; refine hT1.mono ?_; rintro e w1 ⟨rfl, hr1, hg1⟩; have q1 := (hg1.block W.heap.size (by simp) (by simp; omega)).trans (al_at rfl); have l1 := (Array.getElem?_eq_some_iff.1 q1).1; obtain ⟨a, cap, p, k, hblk, hB, hk, h1, h2, hss, c0, c1, c2, f⟩ := hr1.opnS hs1; obtain ⟨cq, fq⟩ := cells_of_block q1; have hrl : ¬ n ≤ p.length - k := (fun hc => hl ⟨p.drop k, hss.out, by rw [List.length_drop]; exact hc⟩); have hpk : (k : Int) ≤ (p.length : Int) := (by omega); have hpl : (p.length : Int) ≤ 1048576 := (by omega); have hw : IntKind.i64.wrap ((p.length : Int) - (k : Int)) = (p.length : Int) - (k : Int) := (by rw [IntKind.wrap_i64]; omega); have hd : decide ((p.length : Int) - (k : Int) < (n : Int)) = true := (by rw [decide_eq_true_iff]; omega); have hdn : (p.length : Int) - (k : Int) < (n : Int) := (by omega)))
      go_quiet (fail)
      go_wp2
      have hG1 : W.grownBy ((w1.drewN nq).setCell ⟨b, 2, none⟩ (.bool true)) (some b) := grown_se (grown_dn (grown_tr (World.grownBy_alloc W _ (some b)) hg1) nq) _ _
      have hI1 : InAt ((w1.drewN nq).setCell ⟨b, 2, none⟩ (.bool true)) b D none := ⟨_, p, k, true, by rw [block_set (W := w1.drewN nq) _ hblk]; rfl, hB.kept (r := some b) (grown_se (grown_dn (grown_ref _ _) nq) _ _) (.inr hD), hk, rfl⟩
      have hk : ∀ X : World, X.grownBy ((((X.setCell ⟨W.heap.size, 0, none⟩ (.int .u64 0)).setCell ⟨W.heap.size, 1, none⟩ (.int .u64 0)).setCell ⟨W.heap.size, 2, none⟩ (.int .u64 0)).setCell ⟨W.heap.size, 3, none⟩ (.int .u64 0)) (some W.heap.size) := fun X => grown_se (grown_se (grown_se (grown_se (grown_ref _ _) _ _) _ _) _ _) _ _
      refine bodyPost_ret (v := .agg #[.int .u64 0, .int .u64 0, .int .u64 0, .int .u64 0]) (by simp only [results, Try.results77]; go_simp) rfl ⟨0, 0, 0, 0, rfl, lim_zero, val0, hI1.kept (hk _) (by simp; omega) hDh, grown_new hG1 (hk _) (Nat.le_refl _)⟩
end Go.Proofs.Ytjhjgncnadhbhaa


/- codec: the law's examples; nil ones. -/
namespace Go.Proofs.Ytjhjgncnadhbhaa
open Go.RowKit

theorem byL_256 : byL (val 256 0 0 0) 32 = [1, 0] := by
  rw [val_of]; decide
theorem isb_new (W : World) (q : List Int) (c : Array Value) (k n : Nat) (t : TypeId) (hc : c = (encB q).toArray) (hk : k = q.length) (hn : n = W.heap.size) (hl : q.length ≤ 1073741824) : IsBytes (W.alloc (.cells c t)) (.slice (some ⟨n, 0, none⟩) k k) q := by
  subst hc hk hn
  refine .inr ⟨_, 0, _, rfl, hl, by simp, fun i x hi => ?_⟩
  rw [(cells_of_block (World.alloc_heap_new W _)).1]
  simp [encB, hi]
theorem RdAt.nn {W W' : World} {b : Nat} {D : Option Nat} {s : Option (List Int)} (h : RdAt W b D s) (hg : W.grownBy W' none) : RdAt W' b D s := h.kept hg (by simp) (by cases D <;> simp)
theorem InAt.nn {W W' : World} {b : Nat} {D : Option Nat} {s : Option (List Int)} (h : InAt W b D s) (hg : W.grownBy W' none) : InAt W' b D s := h.kept hg (by simp) (by cases D <;> simp)
theorem nS_ex : nS (some [1, 0]) = (0, none) := by decide

end Go.Proofs.Ytjhjgncnadhbhaa

/- codec: nil ones. -/
namespace Go.Proofs.Ytjhjgncnadhbhaa
open Go.RowKit

set_option maxHeartbeats 1000000 in
theorem lay_nil (u : Value) (W : World) : Calls Try.prog 71 #[.pointer none, u] W fun e w' => e = .returned (.pointer none) ∧ w' = W := by
  go_enter Try.func71, Try.ntmps71
  go_wp2
  go_ret
  exact ⟨rfl, rfl⟩
set_option maxHeartbeats 1000000 in
theorem wByte_nil (x : Int) (W : World) : Calls Try.prog 44 #[.pointer none, .int .u8 x] W fun e w' => e = .returned (.pointer none) ∧ Below W.heap.size W w' := by
  go_enter Try.func44, Try.ntmps44
  go_wp2_with (go_at_call 71; refine (lay_nil _ _).mono ?_; rintro e w1 ⟨rfl, rfl⟩)
  go_ret
  exact ⟨rfl, by (repeat (first | (with_reducible exact Below.refl _ _) | (with_reducible assumption) | (with_reducible apply bd) | (with_reducible apply ba) | (with_reducible refine bp ?_ (by first | omega | (simp [pad_size]; done) | (simp [pad_size]; omega)) _ _) | (with_reducible refine bs ?_ (by first | omega | (simp [pad_size]; done) | (simp [pad_size]; omega)) _) | (with_reducible refine bt ?_ (by assumption))))⟩
set_option maxHeartbeats 1000000 in
theorem wShort_nil (x : Int) (hx : 0 ≤ x ∧ x < 65536) (W : World) : Calls Try.prog 43 #[.pointer none, .int .u16 x] W fun e w' => e = .returned (.pointer none) ∧ Below W.heap.size W w' := by
  go_enter Try.func43, Try.ntmps43
  go_wp2_with (go_at_call 71; refine (lay_nil _ _).mono ?_; rintro e w1 ⟨rfl, rfl⟩)
  go_ret
  exact ⟨rfl, by (repeat (first | (with_reducible exact Below.refl _ _) | (with_reducible assumption) | (with_reducible apply bd) | (with_reducible apply ba) | (with_reducible refine bp ?_ (by first | omega | (simp [pad_size]; done) | (simp [pad_size]; omega)) _ _) | (with_reducible refine bs ?_ (by first | omega | (simp [pad_size]; done) | (simp [pad_size]; omega)) _) | (with_reducible refine bt ?_ (by assumption))))⟩
set_option maxHeartbeats 2000000 in
theorem wLong_nil (W : World) : Calls Try.prog 16 #[.pointer none, .int .u64 2] W fun e w' => e = .returned (.pointer none) ∧ Below W.heap.size W w' := by
  have hpad := pads
  go_enter Try.func16, Try.ntmps16
  go_wp2_with (go_at_call 43; refine (wShort_nil _ (by omega) _).mono ?_; rintro e w1 ⟨rfl, hb⟩; obtain ⟨m, g, d, hm, rfl⟩ := pad_of hb; clear hb; (try simp [pad_size] at hm))
  go_ret
  exact ⟨rfl, by (repeat (first | (with_reducible exact Below.refl _ _) | (with_reducible assumption) | (with_reducible apply bd) | (with_reducible apply ba) | (with_reducible refine bp ?_ (by first | omega | (simp [pad_size]; done) | (simp [pad_size]; omega)) _ _) | (with_reducible refine bs ?_ (by first | omega | (simp [pad_size]; done) | (simp [pad_size]; omega)) _) | (with_reducible refine bt ?_ (by assumption))))⟩
set_option maxHeartbeats 1000000 in
theorem wNum_nil (x0 x1 x2 x3 : Int) (hx : Lim x0 x1 x2 x3) (W : World) : Calls Try.prog 72 #[.pointer none, .agg #[.int .u64 x0, .int .u64 x1, .int .u64 x2, .int .u64 x3]] W fun e w' => e = .returned (.pointer none) ∧ Below W.heap.size W w' := by
  have hlen := byL_len (val x0 x1 x2 x3) 32
  have hB0 := bytes_own x0 x1 x2 x3 hx
  generalize byL (val x0 x1 x2 x3) 32 = q at *
  have hl1 : (q.length : Int) ≤ 32 := by omega
  go_enter Try.func72, Try.ntmps72
  go_wp2_with (first
    | (go_at_call 93; refine (hB0 _).mono ?_; rintro e w1 ⟨u, rfl, ho1, hb1⟩; obtain ⟨a1, c1, rfl⟩ := row_slice ho1)
    | (go_at_call 44; refine (wByte_nil _ _).mono ?_; rintro e w2 ⟨rfl, hb2⟩)
    | (go_at_call 71; refine (lay_nil _ _).mono ?_; rintro e w3 ⟨rfl, rfl⟩))
  go_ret
  exact ⟨rfl, bt (bt (ba (Below.refl _ _) _) hb1) hb2⟩
set_option maxHeartbeats 1000000 in
theorem wCoins_nil (W : World) : Calls Try.prog 45 #[.pointer none, .slice none 0 0] W fun e w' => e = .returned (.pointer none) ∧ Below W.heap.size W w' := by
  go_enter Try.func45, Try.ntmps45
  go_wp2_with (go_at_call 44; refine (wByte_nil _ _).mono ?_; rintro e w2 ⟨rfl, hb2⟩)
  apply wp_loop_rounds 1
  simp only [Code.rounds]
  go_wp2
  go_ret
  exact ⟨rfl, hb2⟩
set_option maxHeartbeats 1000000 in
theorem wDone_nil (W : World) : Calls Try.prog 18 #[.pointer none] W fun e w' => e = .returned (.slice none 0 0) ∧ w' = W := by
  go_enter Try.func18, Try.ntmps18
  go_wp2
  go_ret
  exact ⟨rfl, rfl⟩
set_option maxHeartbeats 1000000 in
theorem rFail_nil (W : World) : Calls Try.prog 51 #[.pointer none] W fun e w' => e = .returned (.tuple #[]) ∧ w' = W := by
  go_enter Try.func51, Try.ntmps51
  go_wp2
  exact bodyPost_end (v := .tuple #[]) (by simp [results, Try.results51]) rfl ⟨rfl, rfl⟩
set_option maxHeartbeats 1000000 in
theorem rBad_nil (W : World) : Calls Try.prog 29 #[.pointer none] W fun e w' => e = .returned (.bool true) ∧ w' = W := by
  go_enter Try.func29, Try.ntmps29
  go_wp2
  go_ret
  exact ⟨rfl, rfl⟩
set_option maxHeartbeats 1000000 in
theorem rLeft_nil (W : World) : Calls Try.prog 30 #[.pointer none] W fun e w' => e = .returned (.int .i64 0) ∧ w' = W := by
  go_enter Try.func30, Try.ntmps30
  go_wp2_with (go_at_call 29; refine (rBad_nil _).mono ?_; rintro e w1 ⟨rfl, rfl⟩)
  go_ret
  exact ⟨rfl, rfl⟩
set_option maxHeartbeats 1000000 in
theorem rEnd_nil (W : World) : Calls Try.prog 27 #[.pointer none] W fun e w' => e = .returned (.bool false) ∧ w' = W := by
  go_enter Try.func27, Try.ntmps27
  go_wp2_with (go_at_call 29; refine (rBad_nil _).mono ?_; rintro e w1 ⟨rfl, rfl⟩)
  go_ret
  exact ⟨rfl, rfl⟩
set_option maxHeartbeats 1000000 in
theorem rTake_nil (n : Int) (W : World) : Calls Try.prog 74 #[.pointer none, .int .i64 n] W fun e w' => e = .returned (.slice none 0 0) ∧ w' = W := by
  go_enter Try.func74, Try.ntmps74
  go_wp2_with (go_at_call 29; refine (rBad_nil _).mono ?_; rintro e w1 ⟨rfl, rfl⟩)
  go_ret
  exact ⟨rfl, rfl⟩
set_option maxHeartbeats 1000000 in
theorem rNumber_nil (n : Int) (W : World) : Calls Try.prog 48 #[.pointer none, .int .i64 n] W fun e w' => e = .returned (.int .u64 0) ∧ w' = W := by
  go_enter Try.func48, Try.ntmps48
  go_wp2_with (go_at_call 74; refine (rTake_nil _ _).mono ?_; rintro e w1 ⟨rfl, rfl⟩)
  apply wp_loop_rounds 1
  simp only [Code.rounds]
  go_wp2
  go_ret
  exact ⟨rfl, rfl⟩
set_option maxHeartbeats 1000000 in
theorem rByte_nil (W : World) : Calls Try.prog 49 #[.pointer none] W fun e w' => e = .returned (.int .u8 0) ∧ w' = W := by
  go_enter Try.func49, Try.ntmps49
  go_wp2_with (go_at_call 48; refine (rNumber_nil _ _).mono ?_; rintro e w1 ⟨rfl, rfl⟩)
  go_ret
  exact ⟨rfl, rfl⟩
set_option maxHeartbeats 1000000 in
theorem rLong_nil (W : World) : Calls Try.prog 24 #[.pointer none] W fun e w' => e = .returned (.int .u64 0) ∧ w' = W := by
  go_enter Try.func24, Try.ntmps24
  go_wp2_with (go_at_call 48; refine (rNumber_nil _ _).mono ?_; rintro e w1 ⟨rfl, rfl⟩)
  go_ret
  exact ⟨rfl, rfl⟩
set_option maxHeartbeats 1000000 in
theorem rNum_nil (W : World) : Calls Try.prog 75 #[.pointer none] W fun e w' => e = .returned (.agg #[.int .u64 0, .int .u64 0, .int .u64 0, .int .u64 0]) ∧ Below W.heap.size W w' := by
  have hpad := pads
  go_enter Try.func75, Try.ntmps75
  go_wp2_with (first
    | (go_at_call 49; refine (rByte_nil _).mono ?_; rintro e w1 ⟨rfl, rfl⟩)
    | (go_at_call 74; refine (rTake_nil _ _).mono ?_; rintro e w1 ⟨rfl, rfl⟩)
    | (go_at_call 95; refine (read_nil _ _ _).mono ?_; rintro e w1 ⟨rfl, hb⟩; obtain ⟨m, g, d, hm, rfl⟩ := pad_of hb; clear hb; simp at hm; have st := sz1 (n := W.heap.size) (m := m) (by omega)))
  refine bodyPost_ret (v := .agg #[.int .u64 0, .int .u64 0, .int .u64 0, .int .u64 0]) (by simp only [results, Try.results75]; go_simp) rfl ⟨rfl, by (repeat (first | (with_reducible exact Below.refl _ _) | (with_reducible assumption) | (with_reducible apply bd) | (with_reducible apply ba) | (with_reducible refine bp ?_ (by first | omega | (simp [pad_size]; done) | (simp [pad_size]; omega)) _ _) | (with_reducible refine bs ?_ (by first | omega | (simp [pad_size]; done) | (simp [pad_size]; omega)) _) | (with_reducible refine bt ?_ (by assumption))))⟩
set_option maxHeartbeats 1000000 in
theorem rCoins_nil (W : World) : Calls Try.prog 50 #[.pointer none] W fun e w' => e = .returned (.slice none 0 0) ∧ Below W.heap.size W w' := by
  go_enter Try.func50, Try.ntmps50
  go_wp2
  go_step3
  go_wp2_with (first
    | (go_at_call 49; refine (rByte_nil _).mono ?_; rintro e w1 ⟨rfl, rfl⟩))
  go_step3
  go_wp2_with (first
    | (go_at_call 29; refine (rBad_nil _).mono ?_; rintro e w2 ⟨rfl, rfl⟩)
    | (go_at_call 76; refine (right_none _ _ _).mono ?_; rintro e w2 ⟨rfl, hb2⟩))
  try rw [Exit.noGoto_ret]
  go_ret
  exact ⟨rfl, hb2⟩
end Go.Proofs.Ytjhjgncnadhbhaa

/- jointurelaw04.reads. -/
namespace Go.Proofs.Ytjhjgncnadhbhaa
open Go.RowKit

/-- Nothing that was there has turned but two blocks. -/
structure Two (W W' : World) (r i : Nat) : Prop where
  os : W'.os = W.os
  tape : W'.tape = W.tape
  output : W'.output = W.output
  size : W.heap.size ≤ W'.heap.size
  block : ∀ k, k < W.heap.size → k ≠ r → k ≠ i → W'.heap[k]? = W.heap[k]?
theorem two_of {A B C : World} {r i : Nat} (h : A.grownBy B (some r)) (k : B.grownBy C (some i)) : Two A C r i :=
  ⟨k.os.trans h.os, k.tape.trans h.tape, k.output.trans h.output, Nat.le_trans h.size k.size, fun n hn h1 h2 => (k.block n (Nat.lt_of_lt_of_le hn h.size) (by simpa using h2)).trans (h.block n hn (by simpa using h1))⟩
theorem Two.post {A B C : World} {r i : Nat} (h : Two A B r i) (k : B.grownBy C none) : Two A C r i :=
  ⟨k.os.trans h.os, k.tape.trans h.tape, k.output.trans h.output, Nat.le_trans h.size k.size, fun n hn h1 h2 => (k.block n (Nat.lt_of_lt_of_le hn h.size) (by simp)).trans (h.block n hn h1 h2)⟩
theorem Two.below {w W W' : World} {r i : Nat} (h : Below w.heap.size w W) (k : Two W W' r i) (hr : w.heap.size ≤ r) (hi : w.heap.size ≤ i) : Below w.heap.size w W' :=
  ⟨k.os.trans h.os, k.tape.trans h.tape, k.output.trans h.output, Nat.le_trans h.size k.size, fun n hn => (k.block n (Nat.lt_of_lt_of_le hn h.size) (by omega) (by omega)).trans (h.block n hn)⟩
/-- What reading a part leaves; of coins s5. -/
def rdS (s s5 : Option (List Int)) (r : Int) : Option (List Int) :=
  if r = 0 then (byteS s).2 else if r = 1 then (flagS s).2 else if r = 2 then (numS s 2).2 else if r = 3 then (numS s 8).2 else if r = 4 then (nS s).2 else s5
/-- Coins are read so, by the program and by the document. -/
def RCo (s : Option (List Int)) (L : List Cn) (s' : Option (List Int)) : Prop := ∀ (W : World) (b : Nat) (D : Option Nat), D ≠ some b → (∀ d, D = some d → d < W.heap.size) → RdAt W b D s →
  Calls Try.prog 50 #[.pointer (some ⟨b, 0, none⟩)] W fun e w' => ∃ v, e = .returned v ∧ w'.ownsRow W.heap.size 66 5 v L.length (cellsL L) ∧ RdAt w' b D s' ∧ W.grownBy w' (some b)
def ICo (s : Option (List Int)) (L : List Cn) (s' : Option (List Int)) : Prop := ∀ (W : World) (b : Nat) (D : Option Nat), D ≠ some b → (∀ d, D = some d → d < W.heap.size) → InAt W b D s →
  Calls Try.prog 57 #[.pointer (some ⟨b, 0, none⟩)] W fun e w' => ∃ v, e = .returned v ∧ w'.ownsRow W.heap.size 66 5 v L.length (cellsL L) ∧ InAt w' b D s' ∧ W.grownBy w' (some b)
theorem InAt.bad {W : World} {b : Nat} {D : Option Nat} {s : Option (List Int)} (h : InAt W b D s) : W.cell? ⟨b, 2, none⟩ = some (.bool s.isNone) := by
  obtain ⟨a, cap, p, k, bad, hblk, hB, hk, h1, h2, rfl, c0, c1, c2, f⟩ := h.opn
  rw [c2]; cases bad <;> rfl

end Go.Proofs.Ytjhjgncnadhbhaa


/- Arguments as they come in: lists of bytes. -/
namespace Go.Proofs.Ytjhjgncnadhbhaa
open Go.ChangeShapes Go.WideShapes Go.ChangeAt Go.RowKit
variable {H : Type} {enc : TypeId × Value → H} {w : World} {base : Nat} {spare : Nat → Bool} {held : Bool} {fuel : Nat} {cs : List Value} {x : DataW H × List MemPlace}

end Go.Proofs.Ytjhjgncnadhbhaa


/- codec: coins with a fault; arguments that are bytes; CodecFails. -/
namespace Go.Proofs.Ytjhjgncnadhbhaa
open Go.ChangeShapes Go.WideShapes Go.ChangeAt Go.RowKit

set_option maxHeartbeats 1000000 in
theorem rCoins_bad : RCo none [] none := by
  intro W b D hD hDl hR
  have hT : Calls Try.prog 49 #[.pointer (some ⟨b, 0, none⟩)] W fun e w' => e = .returned (.int .u8 0) ∧ RdAt w' b D none ∧ W.grownBy w' (some b) := rByte_any hD hR
  go_enter Try.func50, Try.ntmps50
  go_wp2
  go_step3
  go_wp2_with (first
    | (go_at_call 49; refine hT.mono ?_; rintro e w1 ⟨rfl, hr1, hg1⟩))
  go_step3
  go_wp2_with (first
    | (go_at_call 76; refine (right_none _ _ _).mono ?_; rintro e w2 ⟨rfl, hb2⟩; have hr2 := hr1.nn (grown_none hb2))
    | (go_at_call 29; refine (rBad_any hr2).mono ?_; rintro e w3 ⟨rfl, rfl⟩))
  try rw [Exit.noGoto_ret]
  go_ret
  exact ⟨_, rfl, World.ownsRow_nil _ _ _ _, hr2, grown_tr hg1 (grown_up (grown_none hb2))⟩
set_option maxHeartbeats 1000000 in
theorem inCoins_bad : ICo none [] none := by
  intro W b D hD hDl hR
  have hT : Calls Try.prog 55 #[.pointer (some ⟨b, 0, none⟩)] W fun e w' => e = .returned (.int .u8 0) ∧ InAt w' b D none ∧ W.grownBy w' (some b) := inByte_any hD hR
  go_enter Try.func57, Try.ntmps57
  go_wp2_with (first
    | (go_at_call 55; refine hT.mono ?_; rintro e w1 ⟨rfl, hr1, hg1⟩; obtain ⟨a, cap, p, k, hblk, hB, hk, c0, c1, c2, f⟩ := hr1.opnN))
  apply wp_loop_rounds 1
  simp only [Code.rounds]
  go_wp2
  go_ret
  have hg2 := grown_se hg1 2 (.bool true)
  exact ⟨_, rfl, World.ownsRow_nil _ _ _ _, ⟨_, p, k, true, by rw [block_set _ hblk]; rfl, hB.kept (grown_se (grown_ref _ _) _ _) (.inr hD), hk, rfl⟩, hg2⟩
theorem rdS_none (r : Int) : rdS none none r = none := by
  unfold rdS
  split
  · rfl
  · split
    · rfl
    · split
      · rfl
      · split
        · rfl
        · split <;> rfl
end Go.Proofs.Ytjhjgncnadhbhaa


/- codec's reader: coins. -/
namespace Go.Proofs.Ytjhjgncnadhbhaa
open Go.RowKit

/-- A coin of a denomination and a number. -/
def cnI (d n : Int) : Cn := ⟨d, n % 18446744073709551616, n / 18446744073709551616 % 18446744073709551616, n / 340282366920938463463374607431768211456 % 18446744073709551616, n / 6277101735386680763835789423207666416102355444464034512896⟩
/-- So many coins more, up to a fault. -/
def cl : Nat → List Cn → Option (List Int) → List Cn × Option (List Int)
  | 0, l, s => (l, s)
  | _ + 1, l, none => (l, none)
  | k + 1, l, some p => cl k (l ++ [cnI (byteS (some p)).1 (nS (byteS (some p)).2).1]) (nS (byteS (some p)).2).2
theorem cl_none (k : Nat) (l : List Cn) : cl k l none = (l, none) := by cases k <;> rfl
/-- What reading coins comes to. -/
def coinsS (s : Option (List Int)) : List Cn × Option (List Int) :=
  if (cl (byteS s).1.toNat [] (byteS s).2).2.isSome && rightFrom 0 (cl (byteS s).1.toNat [] (byteS s).2).1 then cl (byteS s).1.toNat [] (byteS s).2 else ([], none)
theorem nS_rng {s : Option (List Int)} (h : Rng s) : Rng (nS s).2 := by
  unfold nS; split
  · exact takeS_rng2 (takeS_rng2 h 1) _
  · intro p hp; simp at hp
theorem nS_val {s : Option (List Int)} {z0 z1 z2 z3 : Int} (hz : Lim z0 z1 z2 z3) (hv : val z0 z1 z2 z3 = (nS s).1) (d : Int) : cnI d (nS s).1 = ⟨d, z0, z1, z2, z3⟩ := by
  rw [← hv]
  unfold cnI val
  unfold Lim at hz
  simp only [Cn.mk.injEq, true_and]
  omega
def slen : Value → Nat
  | .slice _ n _ => n
  | _ => 0
set_option maxRecDepth 100000 in
set_option maxHeartbeats 8000000 in
theorem rCoins_any (s : Option (List Int)) : RCo s (coinsS s).1 (coinsS s).2 := by
  intro W b D hD hDl hR
  obtain ⟨i0, hi, hz0, hz1, hz2⟩ := info_parts coin_info
  have hbl := hR.lt
  have hT1 := rByte_any hD hR
  have hlim := byteS_lim hR.rng
  obtain ⟨m, hm0⟩ := Int.eq_ofNat_of_zero_le hlim.1
  have hcS : coinsS s = if (cl m [] (byteS s).2).2.isSome && rightFrom 0 (cl m [] (byteS s).2).1 then cl m [] (byteS s).2 else ([], none) := by
    unfold coinsS; rw [hm0, Int.toNat_natCast]
  obtain ⟨Lf, hLf⟩ : ∃ Lf, (coinsS s).1 = Lf := ⟨_, rfl⟩
  obtain ⟨sf, hsf⟩ : ∃ sf, (coinsS s).2 = sf := ⟨_, rfl⟩
  rw [hm0] at hT1 hlim
  obtain ⟨R, hR0⟩ : ∃ R, cl m [] (byteS s).2 = R := ⟨_, rfl⟩
  rw [hR0] at hcS
  have hres : Hid ((if R.2.isSome && rightFrom 0 R.1 then R else ([], none)) = (Lf, sf)) := by
    unfold Hid; rw [← hcS, ← hLf, ← hsf]
  rw [hLf, hsf]
  clear hcS hLf hsf hm0
  generalize (byteS s).2 = s1 at *
  have hm255 : m ≤ 255 := by omega
  have hm255' : (m : Int) ≤ 255 := by omega
  have hR0' : Hid (cl (m - 0) [] s1 = R) := hR0
  clear hR0 hlim
  go_enter Try.func50, Try.ntmps50
  go_wp2
  refine wp_scope_jumps 0 (fun a' w' => ∃ (lv : Value) (l : List Cn) (s1 : Option (List Int)) (u5 u9 u10 u11 u12 u13 u14 u15 u16 u17 u18 u19 u20 u21 u22 u23 u24 u25 u26 : Value), a' = { tmps := #[.pointer (some ⟨b, 0, none⟩), undef, .slice none 0 0, lv, .int .i64 (m : Int), u5, .pointer (some ⟨b, 0, none⟩), .int .u8 (m : Int), .int .i64 (m : Int), u9, u10, u11, u12, u13, u14, u15, u16, u17, u18, u19, u20, u21, u22, u23, u24, u25, u26, undef, undef, undef, undef, undef, undef, undef, undef], defers := [] } ∧ RdAt w' b D s1 ∧ w'.ownsRow W.heap.size 66 5 lv l.length (cellsL l) ∧ W.grownBy w' (some b) ∧ (∀ y ∈ l, CnWf y) ∧ l.length ≤ m ∧ Hid (cl (m - l.length) l s1 = R)) (fun a' _ => m - slen (a'.tmps.getD 3 undef)) rfl ?_ ?_
  · go_wp2_with (first
      | (go_at_call 49; refine hT1.mono ?_; rintro e w1 ⟨rfl, hr, hG⟩))
    go_step3
    have hcl := hR0'
    have hrow : w1.ownsRow W.heap.size 66 5 (.slice none 0 0) ([] : List Cn).length (cellsL []) := World.ownsRow_nil _ _ _ _
    have hwf : ∀ y ∈ ([] : List Cn), CnWf y := by simp
    have hlen : ([] : List Cn).length ≤ m := by simp
    by_cases hm : 0 < m ∧ s1 ≠ none
    · obtain ⟨hm, hs1⟩ := hm
      obtain ⟨q, rfl⟩ : ∃ q, s1 = some q := by cases s1 with | none => exact absurd rfl hs1 | some q => exact ⟨q, rfl⟩
      have hm' : (0 : Int) < (m : Int) := by omega
      have hsn : (some q : Option (List Int)).isNone = false := rfl
      have hbd := byteS_lim hr.rng
      have hT2 := rByte_any hD hr
      have hcl2 : Hid (cl (m - (0 + 1)) ([] ++ [cnI (byteS (some q)).1 (nS (byteS (some q)).2).1]) (nS (byteS (some q)).2).2 = R) := by
        have h := hcl.out
        rw [show m - 0 = (m - (0 + 1)) + 1 by omega] at h
        exact h
      generalize (byteS (some q)).1 = d at *
      generalize (byteS (some q)).2 = s2 at *
      go_wp2_with (first
        | (go_at_call 29; refine (rBad_any hr).mono ?_; rintro e w9 ⟨rfl, rfl⟩)
        | (go_at_call 49; refine hT2.mono ?_; rintro e w2 ⟨rfl, hr2, hg2⟩; have hrow2 := hrow.kept hg2 (by cases he : (Value.slice none 0 0).ownBlock with | none => exact .inl rfl | some g => (right; intro e2; have := hrow.lt g he; simp at e2; omega)); have hG2 := grown_tr hG hg2)
        | (go_at_call 75; refine (rNum_any hD (fun d hd => Nat.lt_of_lt_of_le (hDl d hd) hG2.size) hr2).mono ?_; rintro e w3 ⟨z0, z1, z2, z3, rfl, hz, hv, hr3, hg3⟩; have hrow3 := hrow2.kept hg3 (by cases he : (Value.slice none 0 0).ownBlock with | none => exact .inl rfl | some g => (right; intro e2; have := hrow2.lt g he; simp at e2; omega)); have hG3 := grown_tr hG2 hg3; have hz3 := hG3.size)
        | (at_builtin; refine wpList_append_own _ rfl _ _ 24 rfl W.heap.size 66 i0 _ 5 40 Try.underlying24 hi hz0 hz1 hz2 rfl (by decide) _ _ _ rfl (hrow3.alloc _) ⟨w3.heap.size, 0, none⟩ 1 1 [.int .u8 d, .int .u64 z0, .int .u64 z1, .int .u64 z2, .int .u64 z3] rfl rfl (new_cells0 w3 #[.int .u8 d, .int .u64 z0, .int .u64 z1, .int .u64 z2, .int .u64 z3] 66) (by simp [Value.oneCell']) (by unfold maxLen; omega) (by omega) (by simp; omega) ?_; intro v' w4 hown' hgrow _; obtain ⟨a4, cap4, rfl⟩ := row_slice hown'))
      go_step3
      have hlt4 := (hrow3.alloc (.cells #[.int .u8 d, .int .u64 z0, .int .u64 z1, .int .u64 z2, .int .u64 z3] 66)).lt
      have hr4 : RdAt w4 b D (nS s2).2 := (hr3.nn (World.grownBy_alloc w3 (.cells #[.int .u8 d, .int .u64 z0, .int .u64 z1, .int .u64 z2, .int .u64 z3] 66) none)).kept hgrow (fun e => by have := hlt4 b e.symm; omega) (by cases he : D with | none => exact .inl rfl | some d' => (right; intro e; have := hlt4 d' e.symm; have := hDl d' he; omega))
      have hG4 : W.grownBy w4 (some b) := grown_own (grown_al hG3 _) hgrow (fun g e => (hlt4 g e).1)
      have hcn := nS_val hz hv.out d
      have hwf4 : ∀ y ∈ [] ++ [cnI d (nS s2).1], CnWf y := by
        intro y hy
        rcases List.mem_append.1 hy with h | h
        · exact hwf y h
        · rw [List.mem_singleton] at h; subst h; rw [hcn]; exact ⟨hbd, hz⟩
      have hrow4 : w4.ownsRow W.heap.size 66 5 (.slice a4 (0 + 1) cap4) ([] ++ [cnI d (nS s2).1]).length (cellsL ([] ++ [cnI d (nS s2).1])) := by
        rw [List.length_append, cellsL_append, hcn]; exact hown'
      exact ⟨rfl, ⟨_, [] ++ [cnI d (nS s2).1], (nS s2).2, _, _, _, _, _, _, _, _, _, _, _, _, _, _, _, _, _, _, _, rfl, hr4, hrow4, hG4, hwf4, by rw [List.length_append]; exact hm, by rw [List.length_append]; exact hcl2⟩⟩
    · have hend : R = (([] : List Cn), s1) := by
        have h := hcl.out
        by_cases hs1 : s1 = none
        · subst hs1; rw [cl_none] at h; exact h.symm
        · have : m - 0 = 0 := by
            have hh : ¬ 0 < m := fun c => hm ⟨c, hs1⟩
            omega
          rw [this] at h; exact h.symm
      have hres' := hres.out
      rw [hend] at hres'
      clear hres hcl hend
      have hcoin := own_coins hrow (by omega)
      have hRt := right_any _ hcoin hwf
      cases s1 with
      | none =>
        obtain ⟨rfl, rfl⟩ : Lf = [] ∧ sf = none := by simpa [eq_comm] using hres'
        by_cases hdm : (0 : Int) < (m : Int)
        all_goals
          rcases Bool.eq_false_or_eq_true (rightFrom 0 []) with hrt | hrt
          all_goals
            rw [hrt] at hRt
            go_wp2_with (first
              | (go_at_call 29; refine (rBad_any hr).mono ?_; rintro e w9 ⟨rfl, rfl⟩)
              | (go_at_call 76; refine hRt.mono ?_; rintro e w5 ⟨rfl, hb5⟩; have hr5 := hr.nn (grown_none hb5); have hG5 := grown_tr hG (grown_up (grown_none hb5)))
              | (go_at_call 51; refine (rFail_any hr5).mono ?_; rintro e w6 ⟨rfl, hr6, hg6⟩; have hG6 := grown_tr hG5 hg6)
              | (go_at_call 29; refine (rBad_any hr6).mono ?_; rintro e w9 ⟨rfl, rfl⟩)
              | (go_at_call 29; refine (rBad_any hr5).mono ?_; rintro e w9 ⟨rfl, rfl⟩))
            all_goals try simp only [Exit.jump]
            all_goals try rw [Exit.noGoto_ret]
            all_goals go_ret
            all_goals first | exact ⟨_, rfl, World.ownsRow_nil _ _ _ _, hr6, hG6⟩ | exact ⟨_, rfl, World.ownsRow_nil _ _ _ _, hr5, hG5⟩
      | some q =>
        have hdm : ¬ (0 : Int) < (m : Int) := by
          have hh : ¬ 0 < m := fun c => hm ⟨c, by simp⟩
          omega
        rcases Bool.eq_false_or_eq_true (rightFrom 0 []) with hrt | hrt
        · rw [hrt] at hRt hres'
          obtain ⟨rfl, rfl⟩ : Lf = [] ∧ sf = some q := by simpa [eq_comm] using hres'
          go_wp2_with (first
            | (go_at_call 76; refine hRt.mono ?_; rintro e w5 ⟨rfl, hb5⟩; have hr5 := hr.nn (grown_none hb5); have hG5 := grown_tr hG (grown_up (grown_none hb5)))
            | (go_at_call 29; refine (rBad_any hr5).mono ?_; rintro e w9 ⟨rfl, rfl⟩))
          all_goals try simp only [Exit.jump]
          all_goals try rw [Exit.noGoto_ret]
          all_goals go_ret
          exact ⟨_, rfl, none_row hrow (grown_none hb5), hr5, hG5⟩
        · rw [hrt] at hRt hres'
          obtain ⟨rfl, rfl⟩ : Lf = [] ∧ sf = none := by simpa [eq_comm] using hres'
          go_wp2_with (first
            | (go_at_call 76; refine hRt.mono ?_; rintro e w5 ⟨rfl, hb5⟩; have hr5 := hr.nn (grown_none hb5); have hG5 := grown_tr hG (grown_up (grown_none hb5)))
            | (go_at_call 51; refine (rFail_any hr5).mono ?_; rintro e w6 ⟨rfl, hr6, hg6⟩; have hG6 := grown_tr hG5 hg6)
            | (go_at_call 29; refine (rBad_any hr6).mono ?_; rintro e w9 ⟨rfl, rfl⟩))
          all_goals try simp only [Exit.jump]
          all_goals try rw [Exit.noGoto_ret]
          all_goals go_ret
          all_goals exact ⟨_, rfl, World.ownsRow_nil _ _ _ _, hr6, hG6⟩
  · rintro a' X ⟨lv, l, s1, u5, u9, u10, u11, u12, u13, u14, u15, u16, u17, u18, u19, u20, u21, u22, u23, u24, u25, u26, rfl, hr, hrow, hG, hwf, hlen, hcl⟩
    obtain ⟨a0, cap0, rfl⟩ := row_slice hrow
    by_cases hm : l.length < m ∧ s1 ≠ none
    · obtain ⟨hm, hs1⟩ := hm
      obtain ⟨q, rfl⟩ : ∃ q, s1 = some q := by cases s1 with | none => exact absurd rfl hs1 | some q => exact ⟨q, rfl⟩
      have hm' : (l.length : Int) < (m : Int) := by omega
      have hsn : (some q : Option (List Int)).isNone = false := rfl
      have hbd := byteS_lim hr.rng
      have hT2 := rByte_any hD hr
      have hcl2 : Hid (cl (m - (l.length + 1)) (l ++ [cnI (byteS (some q)).1 (nS (byteS (some q)).2).1]) (nS (byteS (some q)).2).2 = R) := by
        have h := hcl.out
        rw [show m - l.length = (m - (l.length + 1)) + 1 by omega] at h
        exact h
      generalize (byteS (some q)).1 = d at *
      generalize (byteS (some q)).2 = s2 at *
      go_wp2_with (first
        | (go_at_call 29; refine (rBad_any hr).mono ?_; rintro e w9 ⟨rfl, rfl⟩)
        | (go_at_call 49; refine hT2.mono ?_; rintro e w2 ⟨rfl, hr2, hg2⟩; have hrow2 := hrow.kept hg2 (by cases he : (Value.slice a0 l.length cap0).ownBlock with | none => exact .inl rfl | some g => (right; intro e2; have := hrow.lt g he; simp at e2; omega)); have hG2 := grown_tr hG hg2)
        | (go_at_call 75; refine (rNum_any hD (fun d hd => Nat.lt_of_lt_of_le (hDl d hd) hG2.size) hr2).mono ?_; rintro e w3 ⟨z0, z1, z2, z3, rfl, hz, hv, hr3, hg3⟩; have hrow3 := hrow2.kept hg3 (by cases he : (Value.slice a0 l.length cap0).ownBlock with | none => exact .inl rfl | some g => (right; intro e2; have := hrow2.lt g he; simp at e2; omega)); have hG3 := grown_tr hG2 hg3; have hz3 := hG3.size)
        | (at_builtin; refine wpList_append_own _ rfl _ _ 24 rfl W.heap.size 66 i0 _ 5 40 Try.underlying24 hi hz0 hz1 hz2 rfl (by decide) _ _ _ rfl (hrow3.alloc _) ⟨w3.heap.size, 0, none⟩ 1 1 [.int .u8 d, .int .u64 z0, .int .u64 z1, .int .u64 z2, .int .u64 z3] rfl rfl (new_cells0 w3 #[.int .u8 d, .int .u64 z0, .int .u64 z1, .int .u64 z2, .int .u64 z3] 66) (by simp [Value.oneCell']) (by unfold maxLen; omega) (by omega) (by simp; omega) ?_; intro v' w4 hown' hgrow _; obtain ⟨a4, cap4, rfl⟩ := row_slice hown'))
      go_step3
      have hlt4 := (hrow3.alloc (.cells #[.int .u8 d, .int .u64 z0, .int .u64 z1, .int .u64 z2, .int .u64 z3] 66)).lt
      have hr4 : RdAt w4 b D (nS s2).2 := (hr3.nn (World.grownBy_alloc w3 (.cells #[.int .u8 d, .int .u64 z0, .int .u64 z1, .int .u64 z2, .int .u64 z3] 66) none)).kept hgrow (fun e => by have := hlt4 b e.symm; omega) (by cases he : D with | none => exact .inl rfl | some d' => (right; intro e; have := hlt4 d' e.symm; have := hDl d' he; omega))
      have hG4 : W.grownBy w4 (some b) := grown_own (grown_al hG3 _) hgrow (fun g e => (hlt4 g e).1)
      have hcn := nS_val hz hv.out d
      have hwf4 : ∀ y ∈ l ++ [cnI d (nS s2).1], CnWf y := by
        intro y hy
        rcases List.mem_append.1 hy with h | h
        · exact hwf y h
        · rw [List.mem_singleton] at h; subst h; rw [hcn]; exact ⟨hbd, hz⟩
      have hrow4 : w4.ownsRow W.heap.size 66 5 (.slice a4 (l.length + 1) cap4) (l ++ [cnI d (nS s2).1]).length (cellsL (l ++ [cnI d (nS s2).1])) := by
        rw [List.length_append, cellsL_append, hcn]; exact hown'
      exact ⟨rfl, ⟨_, l ++ [cnI d (nS s2).1], (nS s2).2, _, _, _, _, _, _, _, _, _, _, _, _, _, _, _, _, _, _, _, rfl, hr4, hrow4, hG4, hwf4, by rw [List.length_append]; exact hm, by rw [List.length_append]; exact hcl2⟩, by simp only [Array.getD_eq_getD_getElem?, slen]; simp [slen]; omega⟩
    · have hend : R = (l, s1) := by
        have h := hcl.out
        by_cases hs1 : s1 = none
        · subst hs1; rw [cl_none] at h; exact h.symm
        · have : m - l.length = 0 := by
            have hh : ¬ l.length < m := fun c => hm ⟨c, hs1⟩
            omega
          rw [this] at h; exact h.symm
      have hres' := hres.out
      rw [hend] at hres'
      clear hres hcl hend
      have hcoin := own_coins hrow (by omega)
      have hRt := right_any _ hcoin hwf
      cases s1 with
      | none =>
        obtain ⟨rfl, rfl⟩ : Lf = [] ∧ sf = none := by simpa [eq_comm] using hres'
        by_cases hdm : (l.length : Int) < (m : Int)
        all_goals
          rcases Bool.eq_false_or_eq_true (rightFrom 0 l) with hrt | hrt
          all_goals
            rw [hrt] at hRt
            go_wp2_with (first
              | (go_at_call 29; refine (rBad_any hr).mono ?_; rintro e w9 ⟨rfl, rfl⟩)
              | (go_at_call 76; refine hRt.mono ?_; rintro e w5 ⟨rfl, hb5⟩; have hr5 := hr.nn (grown_none hb5); have hG5 := grown_tr hG (grown_up (grown_none hb5)))
              | (go_at_call 51; refine (rFail_any hr5).mono ?_; rintro e w6 ⟨rfl, hr6, hg6⟩; have hG6 := grown_tr hG5 hg6)
              | (go_at_call 29; refine (rBad_any hr6).mono ?_; rintro e w9 ⟨rfl, rfl⟩)
              | (go_at_call 29; refine (rBad_any hr5).mono ?_; rintro e w9 ⟨rfl, rfl⟩))
            try simp only [Exit.jump]
            try rw [Exit.noGoto_ret]
            go_ret
            first | exact ⟨_, rfl, World.ownsRow_nil _ _ _ _, hr6, hG6⟩ | exact ⟨_, rfl, World.ownsRow_nil _ _ _ _, hr5, hG5⟩
      | some q =>
        have hdm : ¬ (l.length : Int) < (m : Int) := by
          have hh : ¬ l.length < m := fun c => hm ⟨c, by simp⟩
          omega
        rcases Bool.eq_false_or_eq_true (rightFrom 0 l) with hrt | hrt
        · rw [hrt] at hRt hres'
          obtain ⟨rfl, rfl⟩ : Lf = l ∧ sf = some q := by simpa [eq_comm] using hres'
          go_wp2_with (first
            | (go_at_call 76; refine hRt.mono ?_; rintro e w5 ⟨rfl, hb5⟩; have hr5 := hr.nn (grown_none hb5); have hG5 := grown_tr hG (grown_up (grown_none hb5)))
            | (go_at_call 29; refine (rBad_any hr5).mono ?_; rintro e w9 ⟨rfl, rfl⟩))
          try simp only [Exit.jump]
          try rw [Exit.noGoto_ret]
          go_ret
          exact ⟨_, rfl, none_row hrow (grown_none hb5), hr5, hG5⟩
        · rw [hrt] at hRt hres'
          obtain ⟨rfl, rfl⟩ : Lf = [] ∧ sf = none := by simpa [eq_comm] using hres'
          go_wp2_with (first
            | (go_at_call 76; refine hRt.mono ?_; rintro e w5 ⟨rfl, hb5⟩; have hr5 := hr.nn (grown_none hb5); have hG5 := grown_tr hG (grown_up (grown_none hb5)))
            | (go_at_call 51; refine (rFail_any hr5).mono ?_; rintro e w6 ⟨rfl, hr6, hg6⟩; have hG6 := grown_tr hG5 hg6)
            | (go_at_call 29; refine (rBad_any hr6).mono ?_; rintro e w9 ⟨rfl, rfl⟩))
          try simp only [Exit.jump]
          try rw [Exit.noGoto_ret]
          go_ret
          exact ⟨_, rfl, World.ownsRow_nil _ _ _ _, hr6, hG6⟩
end Go.Proofs.Ytjhjgncnadhbhaa

/- The reference's reader: coins. -/
namespace Go.Proofs.Ytjhjgncnadhbhaa
open Go.RowKit

theorem InAt.rng {W : World} {b : Nat} {D : Option Nat} {s : Option (List Int)} (h : InAt W b D s) : Rng s := by
  obtain ⟨a, cap, p, k, bad, hblk, hB, hk, h1, h2, rfl, -⟩ := h.opn
  obtain ⟨-, -, -, -, -, h3, -⟩ := hB
  intro p' hp' x hx
  cases bad with
  | true => simp at hp'
  | false => simp at hp'; subst hp'; exact h3 x (List.mem_of_mem_drop hx)

set_option maxRecDepth 100000 in
set_option maxHeartbeats 8000000 in
theorem inCoins_any (s : Option (List Int)) : ICo s (coinsS s).1 (coinsS s).2 := by
  intro W b D hD hDl hR
  obtain ⟨i0, hi, hz0, hz1, hz2⟩ := info_parts coin_info
  have hbl := hR.lt
  have hT1 := inByte_any hD hR
  have hlim := byteS_lim hR.rng
  obtain ⟨m, hm0⟩ := Int.eq_ofNat_of_zero_le hlim.1
  have hcS : coinsS s = if (cl m [] (byteS s).2).2.isSome && rightFrom 0 (cl m [] (byteS s).2).1 then cl m [] (byteS s).2 else ([], none) := by
    unfold coinsS; rw [hm0, Int.toNat_natCast]
  obtain ⟨Lf, hLf⟩ : ∃ Lf, (coinsS s).1 = Lf := ⟨_, rfl⟩
  obtain ⟨sf, hsf⟩ : ∃ sf, (coinsS s).2 = sf := ⟨_, rfl⟩
  rw [hm0] at hT1 hlim
  obtain ⟨R, hR0⟩ : ∃ R, cl m [] (byteS s).2 = R := ⟨_, rfl⟩
  rw [hR0] at hcS
  have hres : Hid ((if R.2.isSome && rightFrom 0 R.1 then R else ([], none)) = (Lf, sf)) := by
    unfold Hid; rw [← hcS, ← hLf, ← hsf]
  rw [hLf, hsf]
  clear hcS hLf hsf hm0
  generalize (byteS s).2 = s1 at *
  have hm255 : m ≤ 255 := by omega
  have hm255' : (m : Int) ≤ 255 := by omega
  have hR0' : Hid (cl (m - 0) [] s1 = R) := hR0
  clear hR0 hlim
  go_enter Try.func57, Try.ntmps57
  go_wp2_with (first
    | (go_at_call 55; refine hT1.mono ?_; rintro e w1 ⟨rfl, hI1, hG1⟩))
  go_loopw [3, 5] (fun lv i X => ∃ (a0 : Option Addr) (cap0 : Nat) (l : List Cn) (s1 : Option (List Int)), lv = .slice a0 l.length cap0 ∧ i = .int .i64 (l.length : Int) ∧ InAt X b D s1 ∧ X.ownsRow W.heap.size 66 5 (.slice a0 l.length cap0) l.length (cellsL l) ∧ W.grownBy X (some b) ∧ (∀ y ∈ l, CnWf y) ∧ l.length ≤ m ∧ Hid (cl (m - l.length) l s1 = R)) (fun _ i _ => m - (intOf i).toNat)
  case atStart => exact ⟨none, 0, [], s1, rfl, rfl, hI1, World.ownsRow_nil _ _ _ _, hG1, by simp, by simp, hR0'⟩
  case round =>
    clear hI1 hG1 hR0'
    obtain ⟨a0, cap0, l, s1, rfl, rfl, hr, hrow, hG, hwf, hlen, hcl⟩ := hrel
    have hbad := hr.bad
    by_cases hm : l.length < m ∧ s1 ≠ none
    · obtain ⟨hm, hs1⟩ := hm
      obtain ⟨q, rfl⟩ : ∃ q, s1 = some q := by cases s1 with | none => exact absurd rfl hs1 | some q => exact ⟨q, rfl⟩
      have hm' : (l.length : Int) < (m : Int) := by omega
      rw [show (some q : Option (List Int)).isNone = false from rfl] at hbad
      have hbd := byteS_lim hr.rng
      have hT2 := inByte_any hD hr
      have hcl2 : Hid (cl (m - (l.length + 1)) (l ++ [cnI (byteS (some q)).1 (nS (byteS (some q)).2).1]) (nS (byteS (some q)).2).2 = R) := by
        have h := hcl.out
        rw [show m - l.length = (m - (l.length + 1)) + 1 by omega] at h
        exact h
      generalize (byteS (some q)).1 = d at *
      generalize (byteS (some q)).2 = s2 at *
      go_wp2_with (first
        | (go_at_call 55; refine hT2.mono ?_; rintro e w2 ⟨rfl, hr2, hg2⟩; have hrow2 := hrow.kept hg2 (by cases he : (Value.slice a0 l.length cap0).ownBlock with | none => exact .inl rfl | some g => (right; intro e2; have := hrow.lt g he; simp at e2; omega)); have hG2 := grown_tr hG hg2)
        | (go_at_call 77; refine (inNum_any hD (fun d hd => Nat.lt_of_lt_of_le (hDl d hd) hG2.size) hr2).mono ?_; rintro e w3 ⟨z0, z1, z2, z3, rfl, hz, hv, hr3, hg3⟩; have hrow3 := hrow2.kept hg3 (by cases he : (Value.slice a0 l.length cap0).ownBlock with | none => exact .inl rfl | some g => (right; intro e2; have := hrow2.lt g he; simp at e2; omega)); have hG3 := grown_tr hG2 hg3; have hz3 := hG3.size)
        | (at_builtin; refine wpList_append_own _ rfl _ _ 24 rfl W.heap.size 66 i0 _ 5 40 Try.underlying24 hi hz0 hz1 hz2 rfl (by decide) _ _ _ rfl ((hrow3.alloc _).alloc _) ⟨w3.heap.size + 1, 0, none⟩ 1 1 [.int .u8 d, .int .u64 z0, .int .u64 z1, .int .u64 z2, .int .u64 z3] rfl rfl (new_cells w3 _ #[.int .u8 d, .int .u64 z0, .int .u64 z1, .int .u64 z2, .int .u64 z3] 66) (by simp [Value.oneCell']) (by unfold maxLen; omega) (by omega) (by simp; omega) ?_; intro v' w4 hown' hgrow _; obtain ⟨a4, cap4, rfl⟩ := row_slice hown'))
      have hgA : w3.grownBy ((w3.alloc (.cells #[.int .u64 z0, .int .u64 z1, .int .u64 z2, .int .u64 z3] 64)).alloc (.cells #[.int .u8 d, .int .u64 z0, .int .u64 z1, .int .u64 z2, .int .u64 z3] 66)) none := World.grownBy.trans (World.grownBy_alloc _ _ none) (World.grownBy_alloc _ _ none)
      have hlt4 := (none_row hrow3 hgA).lt
      have hr4 : InAt w4 b D (nS s2).2 := (hr3.nn hgA).kept hgrow (fun e => by have := hlt4 b e.symm; omega) (by cases he : D with | none => exact .inl rfl | some d' => (right; intro e; have := hlt4 d' e.symm; have := hDl d' he; omega))
      have hG4 : W.grownBy w4 (some b) := grown_own (grown_tr hG3 (grown_up hgA)) hgrow (fun g e => (hlt4 g e).1)
      have hcn := nS_val hz hv.out d
      have hwf4 : ∀ y ∈ l ++ [cnI d (nS s2).1], CnWf y := by
        intro y hy
        rcases List.mem_append.1 hy with h | h
        · exact hwf y h
        · rw [List.mem_singleton] at h; subst h; rw [hcn]; exact ⟨hbd, hz⟩
      have hrow4 : w4.ownsRow W.heap.size 66 5 (.slice a4 (l.length + 1) cap4) (l ++ [cnI d (nS s2).1]).length (cellsL (l ++ [cnI d (nS s2).1])) := by
        rw [List.length_append, cellsL_append, hcn]; exact hown'
      all_goals go_roundw
      case rel => exact ⟨a4, cap4, l ++ [cnI d (nS s2).1], (nS s2).2, by rw [List.length_append]; rfl, by rw [List.length_append]; go_num, hr4, by rw [List.length_append] at hrow4 ⊢; exact hrow4, hG4, hwf4, by rw [List.length_append]; exact hm, by rw [List.length_append]; exact hcl2⟩
      case measure => (simp [intOf]; omega)
    · have hend : R = (l, s1) := by
        have h := hcl.out
        by_cases hs1 : s1 = none
        · subst hs1; rw [cl_none] at h; exact h.symm
        · have : m - l.length = 0 := by
            have hh : ¬ l.length < m := fun c => hm ⟨c, hs1⟩
            omega
          rw [this] at h; exact h.symm
      have hres' := hres.out
      rw [hend] at hres'
      clear hres hcl hend
      have hcoin := own_coins hrow (by omega)
      have hRt := rightR_any _ hcoin hwf
      cases s1 with
      | none =>
        obtain ⟨rfl, rfl⟩ : Lf = [] ∧ sf = none := by simpa [eq_comm] using hres'
        obtain ⟨a, cap, p, k, hblk, hB, hk, c0, c1, c2, f⟩ := hr.opnN
        have hg2 := grown_se hG 2 (.bool true)
        have hfin : InAt (wr.setCell ⟨b, 2, none⟩ (.bool true)) b D none := ⟨_, p, k, true, by rw [block_set _ hblk]; rfl, hB.kept (grown_se (grown_ref _ _) _ _) (.inr hD), hk, rfl⟩
        by_cases hdm : (l.length : Int) < (m : Int)
        all_goals
          go_wp2
          go_ret
          exact ⟨_, rfl, World.ownsRow_nil _ _ _ _, hfin, hg2⟩
      | some q =>
        have hdm : ¬ (l.length : Int) < (m : Int) := by
          have hh : ¬ l.length < m := fun c => hm ⟨c, by simp⟩
          omega
        rw [show (some q : Option (List Int)).isNone = false from rfl] at hbad
        rcases Bool.eq_false_or_eq_true (rightFrom 0 l) with hrt | hrt
        · rw [hrt] at hRt hres'
          obtain ⟨rfl, rfl⟩ : Lf = l ∧ sf = some q := by simpa [eq_comm] using hres'
          go_wp2_with (first
            | (go_at_call 78; refine hRt.mono ?_; rintro e w5 ⟨rfl, hb5⟩; have hr5 := hr.nn (grown_none hb5); have hG5 := grown_tr hG (grown_up (grown_none hb5)))
            | fail)
          go_ret
          exact ⟨_, rfl, none_row hrow (grown_none hb5), hr5, hG5⟩
        · rw [hrt] at hRt hres'
          obtain ⟨rfl, rfl⟩ : Lf = [] ∧ sf = none := by simpa [eq_comm] using hres'
          go_wp2_with (first
            | (go_at_call 78; refine hRt.mono ?_; rintro e w5 ⟨rfl, hb5⟩; have hr5 := hr.nn (grown_none hb5); have hG5 := grown_tr hG (grown_up (grown_none hb5)); obtain ⟨a, cap, p, k, hblk, hB, hk, h1', h2, hss, c0, c1, c2, f⟩ := hr5.opnS (by simp))
            | fail)
          go_ret
          have hg2 := grown_se hG5 2 (.bool true)
          exact ⟨_, rfl, World.ownsRow_nil _ _ _ _, ⟨_, p, k, true, by rw [block_set _ hblk]; rfl, hB.kept (grown_se (grown_ref _ _) _ _) (.inr hD), hk, rfl⟩, hg2⟩
end Go.Proofs.Ytjhjgncnadhbhaa

/- codec's writer: coins; what is laid is read. -/
namespace Go.Proofs.Ytjhjgncnadhbhaa
open Go.RowKit

/-- A number, and a coin, as they are laid. -/
def layN (n : Int) : List Int := ((byL n 32).length : Int) :: byL n 32
def layC (c : Cn) : List Int := c.d :: layN (vl c)
def layL (l : List Cn) : List Int := l.flatMap layC
theorem layL_snoc (l : List Cn) (c : Cn) : layL (l ++ [c]) = layL l ++ layC c := by simp [layL]
theorem layN_len (n : Int) : (layN n).length ≤ 33 := by have := byL_len n 32; simp [layN]; omega
theorem layL_len (l : List Cn) : (layL l).length ≤ 34 * l.length := by
  induction l with
  | nil => simp [layL]
  | cons c l ih =>
    have e : layL (c :: l) = layC c ++ layL l := rfl
    have := layN_len (vl c)
    rw [e, List.length_append, List.length_cons]
    simp only [layC, List.length_cons]
    omega

theorem WF.own_ne {A B : World} {b : Nat} {v v' : Value} (h : WF A B b v v') {n : Nat} (hn : n < A.heap.size) (hne : some n ≠ v.ownBlock) : some n ≠ v'.ownBlock := by
  rcases h.own with e | ⟨g, e, hg⟩
  · rw [e]; exact hne
  · rw [e]; intro e2; simp at e2; omega
set_option maxRecDepth 10000 in
set_option maxHeartbeats 4000000 in
theorem wCoins_any {W : World} {b base base2 : Nat} {v u : Value} {p : List Int} {L : List Cn} (hW : WrAt W b base v p) (hbase : base ≤ W.heap.size) (hwf : ∀ x ∈ L, CnWf x) (hLn : L.length ≤ 255) (hl : p.length + 9000 ≤ 1048576) (hu : W.ownsRow base2 66 5 u L.length (cellsL L)) (hub : u.ownBlock ≠ some b) (huv : u.ownBlock = none ∨ u.ownBlock ≠ v.ownBlock) :
    Calls Try.prog 45 #[.pointer (some ⟨b, 0, none⟩), u] W fun e w' => e = .returned (.pointer (some ⟨b, 0, none⟩)) ∧ ∃ v', WrAt w' b base v' (p ++ ((L.length : Int) :: layL L)) ∧ WF W w' b v v' := by
  have hbl := hW.lt
  have hw8 : IntKind.u8.wrap (L.length : Int) = (L.length : Int) := by rw [IntKind.wrap_u8]; omega
  obtain ⟨au, cu, rfl⟩ := row_slice hu
  have hLn' : (L.length : Int) ≤ 255 := by omega
  go_enter Try.func45, Try.ntmps45
  go_wp2_with (go_at_call 44; refine (wByte_any (L.length : Int) hW hbase (by omega)).mono ?_; rintro e w1 ⟨rfl, v1, hW1, hF1⟩)
  go_loopw [14] (fun i X => ∃ (k : Nat) (vk : Value), k ≤ L.length ∧ i = .int .i64 (k : Int) ∧ WrAt X b base vk (p ++ ((L.length : Int) :: layL (L.take k))) ∧ WF W X b v vk) (fun i _ => L.length - (intOf i).toNat)
  case atStart => exact ⟨0, v1, by omega, rfl, hW1, hF1⟩
  case round =>
    clear hW1 hF1
    obtain ⟨k, vk, hk, rfl, hWk, hFk⟩ := hrel
    by_cases hlt : k < L.length
    · have hrow := hFk.row hu hub huv
      have hsz := hFk.size
      have hc := own_coins hrow (by omega)
      rcases hc with ⟨e, -⟩ | ⟨g, off, cap, hv, -, -, hgl, hall⟩
      · subst e; simp at hlt
      · simp at hv
        obtain ⟨rfl, rfl⟩ := hv
        have hgo : off = 0 := by
          rcases hrow.2 with ⟨e, _⟩ | ⟨g', cap', cur, e, _⟩
          · simp at e
          · simp at e; exact e.1.2
        subst hgo
        obtain ⟨k0, k1, k2, k3, k4⟩ := hall k L[k] (by simp [hlt])
        have hxw := hwf L[k] (List.getElem_mem hlt)
        have htk : layL (L.take (k + 1)) = layL (L.take k) ++ layC L[k] := by rw [List.take_succ_eq_append_getElem hlt, layL_snoc]
        have hln := layL_len (L.take k)
        have hlk : (L.take k).length ≤ 255 := by simp; omega
        generalize hxx : L[k] = x at *
        obtain ⟨xd, xa, xb, xc, xe⟩ := x
        simp only [Nat.zero_add] at k0 k1 k2 k3 k4
        have hlt' : (k : Int) < (L.length : Int) := by omega
        have hgA : wr.grownBy (wr.alloc (.cells #[.int .u8 xd, .int .u64 xa, .int .u64 xb, .int .u64 xc, .int .u64 xe] 66)).drew none := grown_dr (World.grownBy_alloc wr _ none)
        have hWa := hWk.kept hgA (by simp) (by cases vk.ownBlock <;> simp)
        have hbk := hWk.lt
        have hne : some wr.heap.size ≠ vk.ownBlock := fun e => by have := (hWk.2.lt _ e.symm).2; omega
        have htk' : Hid _ := htk
        clear hall hwf htk hxx
        have hlp : (p ++ ((L.length : Int) :: layL (L.take k))).length ≤ p.length + 1 + 34 * 255 := by rw [List.length_append, List.length_cons]; omega
        go_wp2
        go_region_held2 (fun Y => Y.cell? ⟨wr.heap.size, 0, none⟩ = some (.int .u8 xd) ∧ Y.cell? ⟨wr.heap.size, 1, none⟩ = some (.int .u64 xa) ∧ Y.cell? ⟨wr.heap.size, 2, none⟩ = some (.int .u64 xb) ∧ Y.cell? ⟨wr.heap.size, 3, none⟩ = some (.int .u64 xc) ∧ Y.cell? ⟨wr.heap.size, 4, none⟩ = some (.int .u64 xe)) (go_simp) (first
          | (go_at_call 44; refine (wByte_any xd hWa (Nat.le_trans (show base ≤ wr.heap.size by omega) hgA.size) (by omega)).mono ?_; rintro e w2 ⟨rfl, v2, hW2, hF2⟩; have q2 := (hF2.block wr.heap.size (by show wr.heap.size < (wr.alloc _).heap.size; simp) (by omega) hne).trans (show (wr.alloc _).heap[wr.heap.size]? = _ from al_at rfl); obtain ⟨c2, f2⟩ := cells_of_block q2)
          | (go_at_call 72; refine (wNum_any xa xb xc xe hxw.2 hW2 (Nat.le_trans (show base ≤ wr.heap.size by omega) (Nat.le_trans hgA.size hF2.size)) (by rw [List.length_append]; simp only [List.length_cons, List.length_nil]; omega)).mono ?_; rintro e w3 ⟨rfl, v3, hW3, hF3⟩; obtain ⟨c3, f3⟩ := cells_of_block ((hF3.block wr.heap.size (Array.getElem?_eq_some_iff.1 q2).1 (by omega) (hF2.own_ne (by show wr.heap.size < (wr.alloc _).heap.size; simp) hne)).trans q2)))
        all_goals go_wp2
        all_goals go_roundw
        case rel =>
          refine ⟨k + 1, v3, by omega, by go_num, ?_, hFk.trans (WF.pre hgA (hF2.trans hF3))⟩
          rw [htk'.out]
          have e : p ++ ((L.length : Int) :: layL (L.take k)) ++ [xd] ++ (((byL (val xa xb xc xe) 32).length : Int) :: byL (val xa xb xc xe) 32) = p ++ ((L.length : Int) :: (layL (L.take k) ++ layC ⟨xd, xa, xb, xc, xe⟩)) := by
            simp [layC, layN, vl]
          rw [e] at hW3
          exact hW3
        case measure => (simp [intOf]; omega)
    · obtain rfl : k = L.length := by omega
      rw [List.take_length] at hWk
      go_wp2
      go_ret
      exact ⟨rfl, vk, hWk, hFk⟩
end Go.Proofs.Ytjhjgncnadhbhaa

/- What is laid is what is read: plain facts. -/
namespace Go.Proofs.Ytjhjgncnadhbhaa
open Go.RowKit

theorem takeS_some {s : Option (List Int)} {n : Nat} {r : List Int} (h : (takeS s n).2 = some r) : s = some ((takeS s n).1 ++ r) ∧ (takeS s n).1.length = n := by
  unfold takeS at *
  match s with
  | none => simp at h
  | some p =>
    simp only at *
    split at h
    · rename_i hn
      rw [if_pos hn]
      simp at h
      subst h
      simp; omega
    · simp at h
theorem byteS_some {s : Option (List Int)} {r : List Int} (h : (byteS s).2 = some r) : s = some ((byteS s).1 :: r) := by
  obtain ⟨h1, h2⟩ := takeS_some (s := s) (n := 1) h
  have e : ∃ x, (takeS s 1).1 = [x] := by
    match hh : (takeS s 1).1, h2 with
    | [x], _ => exact ⟨x, rfl⟩
  obtain ⟨x, hx⟩ := e
  have hb : (byteS s).1 = x := by show rd (takeS s 1).1 = x; rw [hx]; simp [rd]
  rw [hb]
  rw [hx] at h1
  exact h1
theorem nS_some {s : Option (List Int)} {r : List Int} (hr : Rng s) (h : (nS s).2 = some r) : s = some (layN (nS s).1 ++ r) ∧ 0 ≤ (nS s).1 ∧ (nS s).1 < 115792089237316195423570985008687907853269984665640564039457584007913129639936 := by
  have hlim := byteS_lim hr
  have hr2 : Rng (byteS s).2 := takeS_rng2 hr 1
  unfold nS at *
  have hq := takeS_rng hr2 (byteS s).1.toNat
  rcases Bool.eq_false_or_eq_true (goodB (takeS (byteS s).2 (byteS s).1.toNat).1) with hg | hg
  · rw [hg] at h
    rw [if_pos hg]
    simp only [if_true] at h ⊢
    obtain ⟨h1, h2⟩ := takeS_some h
    obtain ⟨hgood, hl⟩ := goodB_t hg hq
    have h3 := byteS_some h1
    have hby : byL (rd (takeS (byteS s).2 (byteS s).1.toNat).1) 32 = (takeS (byteS s).2 (byteS s).1.toNat).1 := byL_rd hgood hl
    obtain ⟨z0, z1, z2, z3, hz, hv⟩ := rd_limbs hq hl
    refine ⟨?_, by rw [← hv]; exact val_lo hz, by rw [← hv]; exact val_hi hz⟩
    rw [layN, hby, h2]
    have e : ((byteS s).1.toNat : Int) = (byteS s).1 := by omega
    rw [e]
    exact h3
  · rw [hg] at h; simp at h
theorem vl_cnI {d n : Int} : vl (cnI d n) = n := by unfold vl cnI val; simp only; omega
theorem wf_cnI {d n : Int} (hd : 0 ≤ d ∧ d ≤ 255) (h0 : 0 ≤ n) (h1 : n < 115792089237316195423570985008687907853269984665640564039457584007913129639936) : CnWf (cnI d n) := by
  unfold CnWf cnI Lim; simp only; omega
theorem layL_cons (c : Cn) (l : List Cn) : layL (c :: l) = layC c ++ layL l := rfl
theorem cl_some : ∀ (k : Nat) (l : List Cn) (s : Option (List Int)) (L : List Cn) (r : List Int), Rng s → cl k l s = (L, some r) → ∃ L', L = l ++ L' ∧ L'.length = k ∧ s = some (layL L' ++ r) ∧ ∀ x ∈ L', CnWf x
  | 0, l, s, L, r, _, h => by
    simp only [cl, Prod.mk.injEq] at h
    exact ⟨[], by simp [h.1], rfl, by rw [h.2]; rfl, by simp⟩
  | k + 1, l, none, L, r, _, h => by simp [cl] at h
  | k + 1, l, some p, L, r, hr, h => by
    have hb := byteS_lim hr
    have hr1 : Rng (byteS (some p)).2 := takeS_rng2 hr 1
    have hr2 := nS_rng hr1
    obtain ⟨L', h1, h2, h3, h4⟩ := cl_some k _ _ L r hr2 h
    obtain ⟨h5, h6, h7⟩ := nS_some hr1 h3
    have h8 := byteS_some h5
    refine ⟨cnI (byteS (some p)).1 (nS (byteS (some p)).2).1 :: L', by rw [h1]; simp, by simp [h2], ?_, ?_⟩
    · rw [layL_cons, layC, vl_cnI]
      refine h8.trans ?_
      simp [cnI]
    · intro x hx
      rcases List.mem_cons.1 hx with rfl | hx
      · exact wf_cnI hb h6 h7
      · exact h4 x hx
theorem coinsS_none {s : Option (List Int)} (h : (coinsS s).2 = none) : (coinsS s).1 = [] := by
  unfold coinsS at *
  split at h
  · rename_i hh
    rw [h] at hh; simp at hh
  · rename_i hh; rw [if_neg hh]
theorem coinsS_some {s : Option (List Int)} {r : List Int} (hr : Rng s) (h : (coinsS s).2 = some r) : s = some (((coinsS s).1.length : Int) :: layL (coinsS s).1 ++ r) ∧ (coinsS s).1.length ≤ 255 ∧ ∀ x ∈ (coinsS s).1, CnWf x := by
  have hb := byteS_lim hr
  have hr1 : Rng (byteS s).2 := takeS_rng2 hr 1
  unfold coinsS at *
  split at h
  · rename_i hh
    rw [if_pos hh]
    obtain ⟨L', h1, h2, h3, h4⟩ := cl_some _ [] (byteS s).2 (cl (byteS s).1.toNat [] (byteS s).2).1 r hr1 (by rw [← h])
    rw [List.nil_append] at h1
    rw [h1, h2]
    have h5 := byteS_some h3
    have e : ((byteS s).1.toNat : Int) = (byteS s).1 := by omega
    refine ⟨?_, by omega, h4⟩
    rw [e]; exact h5
  · simp at h
theorem WF.grown {A B : World} {b : Nat} {v v' : Value} (h : WF A B b v v') {k : Nat} (hk : k < A.heap.size) (h1 : k ≠ b) (h2 : some k ≠ v.ownBlock) : B.heap[k]? = A.heap[k]? := h.block k hk h1 h2
theorem WF.rd {A B : World} {b rb : Nat} {v v' : Value} {D : Option Nat} {s : Option (List Int)} (h : WF A B b v v') (hr : RdAt A rb D s) (h1 : rb ≠ b) (h2 : some rb ≠ v.ownBlock) (h3 : D = none ∨ D ≠ some b) (h4 : D = none ∨ D ≠ v.ownBlock) : RdAt B rb D s := by
  have hl := hr.lt
  cases s with
  | none => exact (h.block rb hl h1 h2).trans hr
  | some p =>
    obtain ⟨x, hb, a, cap, rfl, k1, k2, k3, k4⟩ := hr
    refine ⟨_, (h.block rb hl h1 h2).trans hb, a, cap, rfl, k1, k2, k3, ?_⟩
    rcases k4 with rfl | ⟨d, off, rfl, rfl, k5, k6⟩
    · exact .inl rfl
    · refine .inr ⟨d, off, rfl, rfl, Nat.lt_of_lt_of_le k5 h.size, fun i x hi => ?_⟩
      refine (World.cell?_of_block (a := ⟨d, off + i, none⟩) (h.block d k5 (fun e => ?_) ?_)).trans (k6 i x hi)
      · rcases h3 with h3 | h3
        · simp at h3
        · exact h3 (by rw [e])
      · rcases h4 with h4 | h4
        · simp at h4
        · exact h4
theorem Byt.front {W : World} {D : Option Nat} {n cap : Nat} {a : Option Addr} {p : List Int} (h : Byt W D (.slice a p.length cap) p) (hn : n ≤ p.length) : IsBytes W (.slice a n cap) (p.take n) := by
  have h1 := h.take hn
  obtain ⟨a', cap', e, -, h2, -, h4⟩ := h1
  have hl : (p.take n).length = n := by simp; omega
  rw [hl] at e
  simp at e
  obtain ⟨rfl, rfl⟩ := e
  rcases h4 with h4 | ⟨d, off, hd, rfl, h5, h6⟩
  · have h0 : n = 0 := by rw [h4] at hl; exact hl.symm
    subst h0
    exact .inl ⟨by simp, _, _, rfl⟩
  · exact .inr ⟨d, off, cap, by rw [hl], by omega, h5, h6⟩
end Go.Proofs.Ytjhjgncnadhbhaa


/- codec: what was handed in and answered may be written over. -/
namespace Go.Proofs.Ytjhjgncnadhbhaa
open Go.RowKit

/-- The first k written over. -/
def ovr (c : Int) (l : List Int) (k : Nat) : List Int := List.replicate k c ++ l.drop k
theorem ovr_len {c : Int} {l : List Int} {k : Nat} (h : k ≤ l.length) : (ovr c l k).length = l.length := by simp [ovr]; omega
theorem ovr_at {c : Int} {l : List Int} {k : Nat} (h : k < l.length) : (ovr c l k)[k]? = some l[k] := by
  unfold ovr
  rw [List.getElem?_append_right (by simp)]
  simp [h]
theorem ovr_set {c : Int} {l : List Int} {k : Nat} (h : k < l.length) : (encB (ovr c l k)).set k (.int .u8 c) = encB (ovr c l (k + 1)) := by
  have e : ovr c l k = List.replicate k c ++ l[k] :: l.drop (k + 1) := by unfold ovr; rw [List.drop_eq_getElem_cons h]
  have e2 : ovr c l (k + 1) = List.replicate k c ++ c :: l.drop (k + 1) := by
    unfold ovr; rw [List.replicate_succ', List.append_assoc]; rfl
  rw [e, e2]
  unfold encB
  rw [List.map_append, List.map_append, List.set_append_right _ _ (by simp)]
  simp only [List.map_cons, List.length_map, List.length_replicate, Nat.sub_self, List.set_cons_zero]
theorem ovr_0 (c : Int) (l : List Int) : ovr c l 0 = l := by simp [ovr]
theorem row_at {W : World} {base g n cap k : Nat} {xs : List Int} {x : Int} (h : W.ownsRow base 5 1 (.slice (some ⟨g, 0, none⟩) n cap) n (encB xs)) (hk : xs[k]? = some x) : W.cell? ⟨g, k, none⟩ = some (.int .u8 x) ∧ W.frozen? ⟨g, k, none⟩ = false ∧ g < W.heap.size ∧ base ≤ g := by
  have hc := h.cells (g := g) rfl k (.int .u8 x) (by simp [encB, hk])
  rw [add_cell, Nat.zero_add] at hc
  rcases h.2 with ⟨e, _⟩ | ⟨g', cap', cur, e, hb, hg, _⟩
  · simp at e
  · simp at e
    obtain ⟨rfl, rfl⟩ := e
    exact ⟨hc, (cells_of_block hg).2 k, (Array.getElem?_eq_some_iff.1 hg).1, hb⟩
theorem row_some {W : World} {base n k : Nat} {e : TypeId} {v : Value} {xs : List Value} (h : W.ownsRow base e 1 v n xs) (hk : k < n) : ∃ g cap, v = .slice (some ⟨g, 0, none⟩) n cap := by
  rcases h.2 with ⟨_, h0⟩ | ⟨g, cap, cur, rfl, _⟩
  · omega
  · exact ⟨g, cap, rfl⟩

theorem WF.rd' {A B : World} {b rb : Nat} {v v' : Value} {D : Option Nat} {s : Option (List Int)} (h : WF A B b v v') (hr : RdAt A rb D s) (h1 : rb ≠ b) (h2 : some rb ≠ v.ownBlock) (h3 : ∀ d, D = some d → d ≠ b ∧ some d ≠ v.ownBlock) : RdAt B rb D s := by
  have hl := hr.lt
  cases s with
  | none => exact (h.block rb hl h1 h2).trans hr
  | some p =>
    obtain ⟨x, hb, a, cap, rfl, k1, k2, k3, k4⟩ := hr
    refine ⟨_, (h.block rb hl h1 h2).trans hb, a, cap, rfl, k1, k2, k3, ?_⟩
    rcases k4 with rfl | ⟨d, off, rfl, rfl, k5, k6⟩
    · exact .inl rfl
    · exact .inr ⟨d, off, rfl, rfl, Nat.lt_of_lt_of_le k5 h.size, fun i x hi => (World.cell?_of_block (a := ⟨d, off + i, none⟩) (h.block d k5 (h3 d rfl).1 (h3 d rfl).2)).trans (k6 i x hi)⟩
end Go.Proofs.Ytjhjgncnadhbhaa
