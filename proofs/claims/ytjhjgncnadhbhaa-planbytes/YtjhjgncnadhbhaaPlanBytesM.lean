
/- For any plan that is made of anything, and any number, jointurelaw06.PlanBytes returns true and writes nothing that was there: a plan's bytes are those of the document, and what is read of them is the plan. No condition. -/
import Derived.Test.YtjhjgncnadhbhaaQB7
import Derived.Test.YtjhjgncnadhbhaaC18
import Derived.Deep.CutRange
import Derived.Test.YtjhjgncnadhbhaaMA1
import Derived.Test.YtjhjgncnadhbhaaC14
import Derived.Lib.SlBytesConst
import Derived.Deep.RegionLaw
/- Several texts, one behind the other: VE1, MA3, MA4, MA5, MA6, MA10, MA7, MA9, VE5. -/
/- plan.evenly and plan.Vested of plans that may be. -/
set_option linter.unusedSimpArgs false
set_option linter.unusedVariables false
set_option maxRecDepth 20000
namespace Go.Proofs.Ytjhjgncnadhbhaa
open Go.RowKit

/-- A new value's own block is new. -/
def NewV (w w' : World) (u : Value) : Prop := ∀ g, u.ownBlock = some g → w.heap.size ≤ g ∧ g < w'.heap.size
theorem NewV.nil (w w' : World) : NewV w w' (.slice none 0 0) := fun g hg => by cases hg
theorem NewV.row {w X : World} {e : TypeId} {k n : Nat} {v : Value} {xs : List Value} (h : X.ownsRow w.heap.size e k v n xs) : NewV w X v := fun g hg => h.lt g hg
theorem NewV.below {w w1 w2 : World} {u : Value} (h : NewV w w1 u) (hb : Below w1.heap.size w1 w2) : NewV w w2 u := fun g hg => by
  have := h g hg; have := hb.size; omega
theorem NewV.up {w w1 w2 : World} {u : Value} (h : NewV w1 w2 u) (hb : Below w.heap.size w w1) : NewV w w2 u := fun g hg => by
  have := h g hg; have := hb.size; omega
set_option maxHeartbeats 2000000 in
theorem cloneC_any {v : Value} {l : List Cn} (w : World) (h : IsCoins w v l) :
    Calls Try.prog 35 #[v] w fun e w' => ∃ u, e = .returned u ∧ w'.ownsRow w.heap.size 66 5 u l.length (cellsL l) ∧ Below w.heap.size w w' := by
  obtain ⟨i0, hi, hz0, hz1, hz2⟩ := info_parts coin_info
  have hnil : ∀ X a l c, (binOp .eql 24 (.slice a l c) (.slice none 0 0)).run Try.prog X = .ok (.bool a.isNone) X := fun X a l c => by simp [binOp, run_equal_slice_nil X 24 66 a l c Try.underlying24]
  have hm : (w.alloc (.cells #[] 66)).ownsRow w.heap.size 66 5 (.slice (some ⟨w.heap.size, 0, none⟩) 0 0) 0 [] := World.ownsRow_made w #[] 0 (Nat.le_refl _) (by unfold maxLen; omega) rfl
  rcases h with ⟨rfl, a, cap, rfl⟩ | ⟨blk, off, cap, rfl, hne, hlen, hlt, hall⟩
  · cases a with
    | none =>
      go_enter Try.func35, Try.ntmps35
      go_wp2
      go_ret
      exact ⟨_, rfl, World.ownsRow_nil _ _ _ _, Below.refl _ _⟩
    | some ad =>
      go_enter Try.func35, Try.ntmps35
      go_wp2_with (at_builtin; refine wpList_append_own_none rfl _ _ 24 rfl w.heap.size 66 i0 5 Try.underlying24 hi _ _ _ rfl hm rfl ?_)
      go_ret
      exact ⟨_, rfl, hm, ba (Below.refl _ _) _⟩
  · have hc : ∀ (j : Nat) (u : Value), (cellsL l)[j]? = some u → (w.alloc (.cells #[] 66)).cell? (Addr.add ⟨blk, off, none⟩ j) = some u := by
      intro j u hj
      have hjl : j < l.length * 5 := by have := (List.getElem?_eq_some_iff.1 hj).1; rwa [cellsL_length] at this
      have hil : j / 5 < l.length := by omega
      have hg := List.getElem?_eq_getElem hil
      have h5 := cellsL_at hg (j % 5) (by omega)
      have e : j / 5 * 5 + j % 5 = j := by omega
      rw [e, hj] at h5
      obtain ⟨g0, g1, g2, g3, g4⟩ := hall _ _ hg
      have key : ∀ o v, w.cell? ⟨blk, o, none⟩ = some v → (w.alloc (.cells #[] 66)).cell? ⟨blk, o, none⟩ = some v := fun o v hv => (World.grownBy_alloc w _ none).cell hv (by simp)
      rw [add_cell]
      have e2 : off + j = off + j / 5 * 5 + j % 5 := by omega
      rw [e2]
      have hm5 : j % 5 < 5 := Nat.mod_lt _ (by omega)
      generalize j % 5 = r at *
      match r, hm5 with
      | 0, _ => simp at h5; rw [h5]; exact key _ _ g0
      | 1, _ => simp at h5; rw [h5]; exact key _ _ g1
      | 2, _ => simp at h5; rw [h5]; exact key _ _ g2
      | 3, _ => simp at h5; rw [h5]; exact key _ _ g3
      | 4, _ => simp at h5; rw [h5]; exact key _ _ g4
    have hoc : (cellsL l).all Value.oneCell' = true := by simp [cellsL, List.all_flatMap, Value.oneCell']
    go_enter Try.func35, Try.ntmps35
    go_wp2_with (at_builtin; refine wpList_append_own _ rfl _ _ 24 rfl w.heap.size 66 i0 _ 5 40 Try.underlying24 hi hz0 hz1 hz2 rfl (by decide) _ _ _ rfl hm ⟨blk, off, none⟩ l.length cap (cellsL l) rfl (cellsL_length l) hc (by simpa using hoc) (by unfold maxLen; omega) (by omega) (by simp) ?_; intro v' w1 hown' hgrow _; rw [Nat.zero_add, List.nil_append] at hown')
    go_ret
    exact ⟨_, rfl, hown', (ba (Below.refl _ _) _).grown hgrow (by simp) (fun k hk => (hm.lt k hk).1)⟩
/-- A call that answers new coins, as a slice. -/
def GivesC (f : Nat) (args : Array Value) (w : World) (l : List Cn) : Prop :=
  Calls Try.prog f args w fun e w' => ∃ a n c, e = .returned (.slice a n c) ∧ IsCoins w' (.slice a n c) l ∧ NewV w w' (.slice a n c) ∧ Below w.heap.size w w'
theorem GivesC.of {f : Nat} {args : Array Value} {w : World} {l : List Cn} (h : Calls Try.prog f args w fun e w' => ∃ u, e = .returned u ∧ IsCoins w' u l ∧ NewV w w' u ∧ Below w.heap.size w w') : GivesC f args w l := by
  refine Calls.mono h ?_
  rintro e w' ⟨u, rfl, h1, h2, h3⟩
  obtain ⟨a, c, rfl⟩ := h1.sl
  exact ⟨a, _, c, rfl, h1, h2, h3⟩
theorem cloneCI_any {v : Value} {l : List Cn} (w : World) (h : IsCoins w v l) (hl : l.length ≤ 1048576) : GivesC 35 #[v] w l :=
  .of ((cloneC_any w h).mono fun e w' ⟨u, h1, h2, h3⟩ => ⟨u, h1, own_coins h2 hl, NewV.row h2, h3⟩)
/-- A call that answers coins, as a slice. -/
def GivesI (f : Nat) (args : Array Value) (w : World) (l : List Cn) : Prop :=
  Calls Try.prog f args w fun e w' => ∃ a n c, e = .returned (.slice a n c) ∧ IsCoins w' (.slice a n c) l ∧ Below w.heap.size w w'
theorem GivesI.of {f : Nat} {args : Array Value} {w : World} {l : List Cn} (h : Calls Try.prog f args w fun e w' => ∃ u, e = .returned u ∧ IsCoins w' u l ∧ Below w.heap.size w w') : GivesI f args w l := by
  refine Calls.mono h ?_
  rintro e w' ⟨u, rfl, h1, h3⟩
  obtain ⟨a, c, rfl⟩ := h1.sl
  exact ⟨a, _, c, rfl, h1, h3⟩
theorem together_gives {v : Value} {l : List Pd} (w : World) (h : IsPds w v l) (hw : ∀ q ∈ l, PdWf q) (hs : ∀ q ∈ l, rightFrom 0 q.l = true) (hf : ∀ d, d < 8 → tot l d < 115792089237316195423570985008687907853269984665640564039457584007913129639936) :
    Calls Try.prog 41 #[v] w fun e w' => ∃ a n c, e = .returned (.tuple #[.slice a n c, .int .i64 0]) ∧ IsCoins w' (.slice a n c) (lst (sumP l) 8) ∧ Below w.heap.size w w' := by
  refine (together_any w h hw hs).mono ?_
  rintro e w' (⟨-, u, rfl, h1, h2⟩ | ⟨⟨d, hd, h1⟩, -⟩)
  · obtain ⟨a, c, rfl⟩ := h1.sl
    exact ⟨a, _, c, rfl, h1, h2⟩
  · have := hf d hd; omega
theorem al_coins {W : World} {x : Pn} (h : PnAt W x) (hr : PnR x) : IsCoins W x.av (lst (amP x.al) 8) := h.1.lst hr.al
theorem zero_coins (W : World) : IsCoins W (.slice none 0 0) (lst zeroP 8) := by rw [lst_zero]; exact .inl ⟨rfl, _, _, rfl⟩
set_option maxHeartbeats 4000000 in
theorem evenly_any {x : Pn} {t : Int} (w : World) (h : PnAt w x) (ho : PnOk x) (hr : PnR x) (hk : x.k = 1) :
    Calls Try.prog 40 #[pnV x, .int .u64 t] w fun e w' => ∃ u, e = .returned u ∧ IsCoins w' u (lst (vestP x t) 8) ∧ Below w.heap.size w w' := by
  have hse := hr.k1 hk
  have hv : vestP x t = if x.e ≤ t then amP x.al else if t ≤ x.s then zeroP else evP x.al (t - x.s) (x.e - x.s) := by unfold vestP; rw [if_pos hk]
  by_cases h1 : x.e ≤ t
  · rw [hv, if_pos h1]
    have hA : Hid (∀ X, Below w.heap.size w X → IsCoins X x.av (lst (amP x.al) 8)) := fun X hX => al_coins (h.below hX) hr
    obtain ⟨k, s, u, av, pv, al, pl⟩ := x
    obtain ⟨hh1, hh2⟩ := h
    simp only at h1 hse hA hh1 hh2 ⊢
    obtain ⟨a1, c1, rfl⟩ := hh1.slice
    obtain ⟨a2, c2, rfl⟩ := hh2.slice
    have hb : Below w.heap.size w (w.alloc (.cells #[.int .u8 k, .int .u64 s, .int .u64 u, .slice a1 al.length c1, .slice a2 pl.length c2] 33)) := ba (Below.refl _ _) _
    have hC := cloneCI_any _ (hA.out _ hb) (lst8 _)
    unfold GivesC at hC
    show Calls Try.prog 40 #[.agg #[.int .u8 k, .int .u64 s, .int .u64 u, .slice a1 al.length c1, .slice a2 pl.length c2], .int .u64 t] w _
    clear hh1 hh2 ho hr hv hA hk
    go_enter Try.func40, Try.ntmps40
    go_wp2_with (go_at_call 35; refine hC.mono ?_; rintro e w1 ⟨au, n, cu, rfl, hI, hN, hb1⟩; have hI : Hid _ := hI; have hN : Hid _ := hN)
    go_ret
    exact ⟨_, rfl, hI.out, bt hb hb1⟩
  · rw [hv, if_neg h1]
    by_cases h2 : t ≤ x.s
    · rw [if_pos h2]
      obtain ⟨k, s, u, av, pv, al, pl⟩ := x
      obtain ⟨hh1, hh2⟩ := h
      simp only at h1 h2 hh1 hh2 ⊢
      obtain ⟨a1, c1, rfl⟩ := hh1.slice
      obtain ⟨a2, c2, rfl⟩ := hh2.slice
      show Calls Try.prog 40 #[.agg #[.int .u8 k, .int .u64 s, .int .u64 u, .slice a1 al.length c1, .slice a2 pl.length c2], .int .u64 t] w _
      clear hh1 hh2 ho hr hv hk hse
      go_enter Try.func40, Try.ntmps40
      go_wp2
      go_ret
      exact ⟨_, rfl, zero_coins _, ba (Below.refl _ _) _⟩
    · rw [if_neg h2]
      have hn : x.al.length ≤ 1048576 := by rw [← amP_lst hr.al]; have := lst_len (amP x.al) 8; omega
      refine (evenly_mid (t := t) w h ho.w (by omega) (by omega) hn).mono ?_
      rintro e w' ⟨v, ys, rfl, hl, he, hown, hb⟩
      have hf := ev_flat ho.w.al hr.al hl he (by omega) (by omega) (by omega)
      rw [hf] at hown
      exact ⟨v, rfl, own_coins hown (lst8 _), hb⟩
theorem pds_take {W : World} {a : Option Addr} {c : Nat} {l : List Pd} (h : IsPds W (.slice a l.length c) l) {m : Nat} (hm : m ≤ l.length) : IsPds W (.slice a m c) (l.take m) := by
  by_cases hm0 : m = 0
  · subst hm0; exact .inl ⟨by simp, a, c, rfl⟩
  · rcases h with ⟨rfl, -⟩ | ⟨blk, off, cap, ev, hne, hlen, hbl, hall⟩
    · simp at hm; omega
    · simp at ev
      obtain ⟨rfl, rfl⟩ := ev
      refine .inr ⟨blk, off, c, by simp [Nat.min_eq_left hm], ?_, by simp; omega, hbl, fun i q hi => ?_⟩
      · intro e; have := congrArg List.length e; simp at this; rcases this with h | h
        · omega
        · subst h; exact hne rfl
      · rw [List.getElem?_take] at hi
        split at hi
        · exact hall i q hi
        · cases hi
section
variable {s t u : Int} {a1 a2 : Option Addr} {c1 c2 : Nat} {al : List Cn} {pl : List Pd}
set_option maxHeartbeats 4000000 in
theorem vested_2 (w : World) (h : PnAt w ⟨2, s, u, .slice a1 al.length c1, .slice a2 pl.length c2, al, pl⟩) (hr : PnR ⟨2, s, u, .slice a1 al.length c1, .slice a2 pl.length c2, al, pl⟩) :
    Calls Try.prog 14 #[.agg #[.int .u8 2, .int .u64 s, .int .u64 u, .slice a1 al.length c1, .slice a2 pl.length c2], .int .u64 t] w fun e w' => ∃ u', e = .returned u' ∧ IsCoins w' u' (lst (if u ≤ t then amP al else zeroP) 8) ∧ Below w.heap.size w w' := by
  have hb : Below w.heap.size w (w.alloc (.cells #[.int .u8 2, .int .u64 s, .int .u64 u, .slice a1 al.length c1, .slice a2 pl.length c2] 33)) := ba (Below.refl _ _) _
  by_cases h1 : u ≤ t
  · rw [if_pos h1]
    have hC := cloneCI_any _ (al_coins (h.below hb) hr) (lst8 _)
    unfold GivesC at hC
    simp only at hC
    clear h hr
    go_enter Try.func14, Try.ntmps14
    go_wp2_with (go_at_call 35; refine hC.mono ?_; rintro e w1 ⟨au, n, cu, rfl, hI, hN, hb1⟩; have hI : Hid _ := hI; have hN : Hid _ := hN)
    go_ret
    exact ⟨_, rfl, hI.out, bt hb hb1⟩
  · rw [if_neg h1]
    clear h hr
    go_enter Try.func14, Try.ntmps14
    go_wp2
    go_ret
    exact ⟨_, rfl, zero_coins _, hb⟩
set_option maxHeartbeats 4000000 in
theorem vested_no {k : Int} (h1 : ¬ k = 1) (h2 : ¬ k = 2) (h3 : ¬ k = 3) (h5 : ¬ k = 5) (w : World) (v1 v2 : Value) :
    Calls Try.prog 14 #[.agg #[.int .u8 k, .int .u64 s, .int .u64 u, v1, v2], .int .u64 t] w fun e w' => ∃ u', e = .returned u' ∧ IsCoins w' u' (lst zeroP 8) ∧ Below w.heap.size w w' := by
  go_enter Try.func14, Try.ntmps14
  go_wp2
  go_ret
  exact ⟨_, rfl, zero_coins _, ba (Below.refl _ _) _⟩
set_option maxHeartbeats 4000000 in
theorem vested_1 (w : World) (h : PnAt w ⟨1, s, u, .slice a1 al.length c1, .slice a2 pl.length c2, al, pl⟩) (ho : PnOk ⟨1, s, u, .slice a1 al.length c1, .slice a2 pl.length c2, al, pl⟩) (hr : PnR ⟨1, s, u, .slice a1 al.length c1, .slice a2 pl.length c2, al, pl⟩) :
    Calls Try.prog 14 #[.agg #[.int .u8 1, .int .u64 s, .int .u64 u, .slice a1 al.length c1, .slice a2 pl.length c2], .int .u64 t] w fun e w' => ∃ u', e = .returned u' ∧ IsCoins w' u' (lst (vestP ⟨1, s, u, .slice a1 al.length c1, .slice a2 pl.length c2, al, pl⟩ t) 8) ∧ Below w.heap.size w w' := by
  have hb : Below w.heap.size w (w.alloc (.cells #[.int .u8 1, .int .u64 s, .int .u64 u, .slice a1 al.length c1, .slice a2 pl.length c2] 33)) := ba (Below.refl _ _) _
  have hE := GivesI.of (evenly_any (t := t) _ (h.below hb) ho hr rfl)
  unfold GivesI at hE
  have hE' : Calls Try.prog 40 #[.agg #[.int .u8 1, .int .u64 s, .int .u64 u, .slice a1 al.length c1, .slice a2 pl.length c2], .int .u64 t] _ _ := hE
  generalize vestP ⟨1, s, u, .slice a1 al.length c1, .slice a2 pl.length c2, al, pl⟩ t = z at *
  clear hE h ho hr
  go_enter Try.func14, Try.ntmps14
  go_wp2_with (go_at_call 40; refine hE'.mono ?_; rintro e w1 ⟨au, n, cu, rfl, hI, hb1⟩; have hI : Hid _ := hI)
  go_ret
  exact ⟨_, rfl, hI.out, bt hb hb1⟩
set_option maxHeartbeats 4000000 in
theorem vested_3 (w : World) (h : PnAt w ⟨3, s, u, .slice a1 al.length c1, .slice a2 pl.length c2, al, pl⟩) (ho : PnOk ⟨3, s, u, .slice a1 al.length c1, .slice a2 pl.length c2, al, pl⟩) (hr : PnR ⟨3, s, u, .slice a1 al.length c1, .slice a2 pl.length c2, al, pl⟩) (ht : 0 ≤ t ∧ t < 18446744073709551616) (hcc : pl.length ≤ c2) :
    Calls Try.prog 14 #[.agg #[.int .u8 3, .int .u64 s, .int .u64 u, .slice a1 al.length c1, .slice a2 pl.length c2], .int .u64 t] w fun e w' => ∃ u', e = .returned u' ∧ IsCoins w' u' (lst (sumP (pl.take (ovN pl s t).1)) 8) ∧ Below w.heap.size w w' := by
  have hb : Below w.heap.size w (w.alloc (.cells #[.int .u8 3, .int .u64 s, .int .u64 u, .slice a1 al.length c1, .slice a2 pl.length c2] 33)) := ba (Below.refl _ _) _
  have hO := over_any (t := t) _ (h.below hb) ho ht
  have hO' : Calls Try.prog 34 #[.agg #[.int .u8 3, .int .u64 s, .int .u64 u, .slice a1 al.length c1, .slice a2 pl.length c2], .int .u64 t] _ _ := hO
  have hle := ovN_le pl s t
  have hst := steps_facts (hr.st (by simp))
  have hlo := fun (d : Nat) (hd : d < 8) => al_lo ho hd
  have htot := hst.tot
  have hlen := h.2.len
  have hok := hst.ok
  have hwf := ho.p
  have hh2 := h.2
  simp only at htot hlo hlen hok hwf hh2 hO'
  have hkeep : Hid (∀ X, Below (w.alloc (.cells #[.int .u8 3, .int .u64 s, .int .u64 u, .slice a1 al.length c1, .slice a2 pl.length c2] 33)).heap.size (w.alloc (.cells #[.int .u8 3, .int .u64 s, .int .u64 u, .slice a1 al.length c1, .slice a2 pl.length c2] 33)) X → X.cell? ⟨w.heap.size, 4, none⟩ = some (.slice a2 pl.length c2)) := fun X hX => by
    have q1 := (hX.block w.heap.size (by simp)).trans (al_at rfl)
    exact (cells_of_block q1).1 4
  clear hO h ho hr hst
  generalize hm : (ovN pl s t).1 = m at *
  have hwt : ∀ q ∈ pl.take m, PdWf q := fun q hq => hwf q (List.mem_of_mem_take hq)
  have hrt : ∀ q ∈ pl.take m, rightFrom 0 q.l = true := fun q hq => some_right (hok q (List.mem_of_mem_take hq)).2
  have hft : ∀ d, d < 8 → tot (pl.take m) d < 115792089237316195423570985008687907853269984665640564039457584007913129639936 := fun d hd => by
    have h1 := tot_take hwf m hd
    have h2 := htot d hd
    have h3 := hlo d hd
    omega
  have hT : Hid (∀ X, Below w.heap.size w X → Calls Try.prog 41 #[.slice a2 m c2] X fun e w' => ∃ a n c, e = .returned (.tuple #[.slice a n c, .int .i64 0]) ∧ IsCoins w' (.slice a n c) (lst (sumP (pl.take m)) 8) ∧ Below X.heap.size X w') := fun X hX => together_gives X (pds_take (hh2.below hX) hle) hwt hrt hft
  have hmc : ¬ (c2 : Int) < (m : Int) := by omega
  clear hh2 hwf hok htot hlo hwt hrt hft hm
  generalize pl.take m = pm at *
  go_enter Try.func14, Try.ntmps14
  go_wp2_with (first
    | (go_at_call 34; refine hO'.mono ?_; rintro e w1 ⟨rfl, hb1⟩; have q := hkeep.out _ hb1)
    | (go_at_call 41; refine (hT.out _ (bt hb hb1)).mono ?_; rintro e w2 ⟨au, n, cu, rfl, hI, hb2⟩; have hI : Hid _ := hI))
  go_ret
  exact ⟨_, rfl, hI.out, bt (bt hb hb1) hb2⟩
set_option maxHeartbeats 4000000 in
theorem vested_5 (w : World) (h : PnAt w ⟨5, s, u, .slice a1 al.length c1, .slice a2 pl.length c2, al, pl⟩) (ho : PnOk ⟨5, s, u, .slice a1 al.length c1, .slice a2 pl.length c2, al, pl⟩) (hr : PnR ⟨5, s, u, .slice a1 al.length c1, .slice a2 pl.length c2, al, pl⟩) (ht : 0 ≤ t ∧ t < 18446744073709551616) (hcc : pl.length ≤ c2) :
    Calls Try.prog 14 #[.agg #[.int .u8 5, .int .u64 s, .int .u64 u, .slice a1 al.length c1, .slice a2 pl.length c2], .int .u64 t] w fun e w' => ∃ u', e = .returned u' ∧ IsCoins w' u' (lst (sumP (pl.take (ovN pl s t).1)) 8) ∧ Below w.heap.size w w' := by
  have hb : Below w.heap.size w (w.alloc (.cells #[.int .u8 5, .int .u64 s, .int .u64 u, .slice a1 al.length c1, .slice a2 pl.length c2] 33)) := ba (Below.refl _ _) _
  have hO := over_any (t := t) _ (h.below hb) ho ht
  have hO' : Calls Try.prog 34 #[.agg #[.int .u8 5, .int .u64 s, .int .u64 u, .slice a1 al.length c1, .slice a2 pl.length c2], .int .u64 t] _ _ := hO
  have hle := ovN_le pl s t
  have hst := steps_facts (hr.st (by simp))
  have hlo := fun (d : Nat) (hd : d < 8) => al_lo ho hd
  have htot := hst.tot
  have hlen := h.2.len
  have hok := hst.ok
  have hwf := ho.p
  have hh2 := h.2
  simp only at htot hlo hlen hok hwf hh2 hO'
  have hkeep : Hid (∀ X, Below (w.alloc (.cells #[.int .u8 5, .int .u64 s, .int .u64 u, .slice a1 al.length c1, .slice a2 pl.length c2] 33)).heap.size (w.alloc (.cells #[.int .u8 5, .int .u64 s, .int .u64 u, .slice a1 al.length c1, .slice a2 pl.length c2] 33)) X → X.cell? ⟨w.heap.size, 4, none⟩ = some (.slice a2 pl.length c2)) := fun X hX => by
    have q1 := (hX.block w.heap.size (by simp)).trans (al_at rfl)
    exact (cells_of_block q1).1 4
  clear hO h ho hr hst
  generalize hm : (ovN pl s t).1 = m at *
  have hwt : ∀ q ∈ pl.take m, PdWf q := fun q hq => hwf q (List.mem_of_mem_take hq)
  have hrt : ∀ q ∈ pl.take m, rightFrom 0 q.l = true := fun q hq => some_right (hok q (List.mem_of_mem_take hq)).2
  have hft : ∀ d, d < 8 → tot (pl.take m) d < 115792089237316195423570985008687907853269984665640564039457584007913129639936 := fun d hd => by
    have h1 := tot_take hwf m hd
    have h2 := htot d hd
    have h3 := hlo d hd
    omega
  have hT : Hid (∀ X, Below w.heap.size w X → Calls Try.prog 41 #[.slice a2 m c2] X fun e w' => ∃ a n c, e = .returned (.tuple #[.slice a n c, .int .i64 0]) ∧ IsCoins w' (.slice a n c) (lst (sumP (pl.take m)) 8) ∧ Below X.heap.size X w') := fun X hX => together_gives X (pds_take (hh2.below hX) hle) hwt hrt hft
  have hmc : ¬ (c2 : Int) < (m : Int) := by omega
  clear hh2 hwf hok htot hlo hwt hrt hft hm
  generalize pl.take m = pm at *
  go_enter Try.func14, Try.ntmps14
  go_wp2_with (first
    | (go_at_call 34; refine hO'.mono ?_; rintro e w1 ⟨rfl, hb1⟩; have q := hkeep.out _ hb1)
    | (go_at_call 41; refine (hT.out _ (bt hb hb1)).mono ?_; rintro e w2 ⟨au, n, cu, rfl, hI, hb2⟩; have hI : Hid _ := hI))
  go_ret
  exact ⟨_, rfl, hI.out, bt (bt hb hb1) hb2⟩
end
theorem vested_any {x : Pn} {t : Int} (w : World) (h : PnAt w x) (ho : PnOk x) (hr : PnR x) (ht : 0 ≤ t ∧ t < 18446744073709551616) (hc : ∃ a n c, x.pv = .slice a n c ∧ n ≤ c) :
    GivesI 14 #[pnV x, .int .u64 t] w (lst (vestP x t) 8) := by
  apply GivesI.of
  obtain ⟨k, s, u, av, pv, al, pl⟩ := x
  obtain ⟨a1, c1, e1⟩ := h.1.slice
  obtain ⟨a2, c2, e2⟩ := h.2.slice
  simp only at e1 e2
  subst e1 e2
  have hk := hr.k
  simp only at hk
  have hcc : pl.length ≤ c2 := by
    obtain ⟨a, n, c, e, hl⟩ := hc
    simp at e
    omega
  rcases hk with rfl | rfl | rfl | rfl | rfl | rfl
  · exact vested_no (k := 0) (by omega) (by omega) (by omega) (by omega) w _ _
  · exact vested_1 w h ho hr
  · exact vested_2 w h hr
  · exact vested_3 w h ho hr ht hcc
  · exact vested_no (k := 4) (by omega) (by omega) (by omega) (by omega) w _ _
  · exact vested_5 w h ho hr ht hcc
end Go.Proofs.Ytjhjgncnadhbhaa

/- Plans that are made: a row of periods, a period added. -/
namespace Go.Proofs.Ytjhjgncnadhbhaa
open Go.ChangeShapes Go.WideShapes Go.ChangeAt Go.RowKit

def cellsP (l : List Pd) : List Value := l.flatMap fun q => [.int .u64 q.n, q.v]
theorem cellsP_app (l m : List Pd) : cellsP (l ++ m) = cellsP l ++ cellsP m := by simp [cellsP, List.flatMap_append]
theorem cellsP_length (l : List Pd) : (cellsP l).length = l.length * 2 := by
  induction l with
  | nil => rfl
  | cons q l ih => simp only [cellsP, List.flatMap_cons] at ih ⊢; rw [List.length_append, ih]; simp; omega
theorem cellsP_at {l : List Pd} {i : Nat} {q : Pd} (hi : l[i]? = some q) : (cellsP l)[i * 2]? = some (.int .u64 q.n) ∧ (cellsP l)[i * 2 + 1]? = some q.v := by
  induction l generalizing i with
  | nil => simp at hi
  | cons p l ih =>
    cases i with
    | zero => simp at hi; subst hi; exact ⟨rfl, rfl⟩
    | succ i =>
      have h := ih (i := i) (by simpa using hi)
      have e : cellsP (p :: l) = [Value.int .u64 p.n, p.v] ++ cellsP l := rfl
      rw [e, List.getElem?_append_right (by simp; omega), List.getElem?_append_right (by simp; omega)]
      have e1 : (i + 1) * 2 - [Value.int .u64 p.n, p.v].length = i * 2 := by simp; omega
      have e2 : (i + 1) * 2 + 1 - [Value.int .u64 p.n, p.v].length = i * 2 + 1 := by simp; omega
      rw [e1, e2]
      exact h
theorem period_info : (Try.prog.info? 71).map (fun i => (i.zero, i.size, i.bytes)) = some (some (.agg #[.int .u64 0, .slice none 0 0]), 2, 32) := by kernel_rfl
theorem IsCL.keep {W W' : World} {v : Value} {l : List Cn} (h : IsCL W v l) (e : ∀ g, v.ownBlock = some g → W'.heap[g]? = W.heap[g]?) (hs : W.heap.size ≤ W'.heap.size) : IsCL W' v l := by
  rcases h with h | ⟨blk, off, cap, hv, hne, hlen, hlt, hall⟩
  · exact .inl h
  · have hb := e blk (by rw [hv]; rfl)
    refine .inr ⟨blk, off, cap, hv, hne, hlen, Nat.lt_of_lt_of_le hlt hs, fun i x hi => ?_⟩
    obtain ⟨h0, h1, h2, h3, h4⟩ := hall i x hi
    exact ⟨(World.cell?_of_block (a := ⟨blk, _, none⟩) hb).trans h0, (World.cell?_of_block (a := ⟨blk, _, none⟩) hb).trans h1, (World.cell?_of_block (a := ⟨blk, _, none⟩) hb).trans h2, (World.cell?_of_block (a := ⟨blk, _, none⟩) hb).trans h3, (World.cell?_of_block (a := ⟨blk, _, none⟩) hb).trans h4⟩
/-- A row of periods that is a function's own, with each one's coins elsewhere (and not in block bp). -/
structure QsAt (X : World) (lo bp : Nat) (pv : Value) (qs : List Pd) : Prop where
  row : X.ownsRow lo 71 2 pv qs.length (cellsP qs)
  nb : pv.ownBlock ≠ some bp
  all : ∀ q ∈ qs, IsCL X q.v q.l ∧ ∀ g, q.v.ownBlock = some g → g < X.heap.size ∧ pv.ownBlock ≠ some g ∧ bp < g
theorem QsAt.kept {X X' : World} {lo bp j : Nat} {pv : Value} {qs : List Pd} (h : QsAt X lo bp pv qs) (hj : j ≤ bp) (hn : pv.ownBlock ≠ some j) (hg : X.grownBy X' (some j)) : QsAt X' lo bp pv qs :=
  ⟨h.row.kept hg (.inr hn), h.nb, fun q hq => ⟨(h.all q hq).1.keep (fun g hv => hg.block g ((h.all q hq).2 g hv).1 (by have := ((h.all q hq).2 g hv).2.2; simp; omega)) hg.size, fun g hv => ⟨Nat.lt_of_lt_of_le ((h.all q hq).2 g hv).1 hg.size, ((h.all q hq).2 g hv).2⟩⟩⟩
theorem QsAt.below {X X' : World} {lo bp : Nat} {pv : Value} {qs : List Pd} (h : QsAt X lo bp pv qs) (hb : Below X.heap.size X X') : QsAt X' lo bp pv qs := h.kept (Nat.le_refl _) h.nb (grown_up (grown_none hb))
theorem QsAt.nil (X : World) (lo bp : Nat) : QsAt X lo bp (.slice none 0 0) [] := ⟨World.ownsRow_nil _ _ _ _, by simp [Value.ownBlock], by simp⟩
theorem QsAt.pds {X : World} {lo bp : Nat} {pv : Value} {qs : List Pd} (h : QsAt X lo bp pv qs) (hl : qs.length ≤ 1048576) : IsPds X pv qs := by
  by_cases hq : qs = []
  · subst hq
    obtain ⟨a, c, rfl⟩ := row_slice h.row
    exact .inl ⟨rfl, a, c, rfl⟩
  · rcases h.row.2 with ⟨_, h0⟩ | ⟨g, cap, cur, rfl, h1, h2, h3⟩
    · exact absurd (List.eq_nil_of_length_eq_zero h0) hq
    · refine .inr ⟨g, 0, cap, rfl, hq, by omega, (Array.getElem?_eq_some_iff.1 h2).1, fun i q hi => ?_⟩
      have key : ∀ (j : Nat) u, (cellsP qs)[j]? = some u → X.cell? ⟨g, j, none⟩ = some u := fun j u hj => by
        have := h.row.cells (g := g) rfl j u hj
        rwa [add_cell, Nat.zero_add] at this
      obtain ⟨e1, e2⟩ := cellsP_at hi
      exact ⟨by rw [Nat.zero_add]; exact key _ _ e1, by rw [Nat.zero_add]; exact key _ _ e2, (h.all q (List.mem_of_getElem? hi)).1⟩
theorem QsAt.cap {X : World} {lo bp : Nat} {pv : Value} {qs : List Pd} (h : QsAt X lo bp pv qs) : ∃ a n c, pv = .slice a n c ∧ n ≤ c := by
  rcases h.row.2 with ⟨rfl, _⟩ | ⟨g, cap, cur, rfl, h1, h2, h3, -⟩
  · exact ⟨_, _, _, rfl, Nat.le_refl _⟩
  · exact ⟨_, _, _, rfl, h3⟩
/-- One period more. -/
theorem per_app {W X : World} {lo bp : Nat} {v : Value} {qs : List Pd} (hr : QsAt X lo bp v qs) (hlo : lo ≤ X.heap.size) (hbp : bp < X.heap.size) (hb : Below W.heap.size W X) (hW : W.heap.size ≤ lo) (hl : qs.length ≤ 1000) (q : Pd) (h1 : q.v.oneCell' = true) (hq : IsCL X q.v q.l) (hqn : ∀ g, q.v.ownBlock = some g → g < X.heap.size ∧ v.ownBlock ≠ some g ∧ bp < g) {ops : Array Oper} {rest : List Oper} {o : Oper} {a : Act} {Q : Exit → Act → World → Prop} (hgd : o.guard = none) (s y : Operand)
    (ho : o.op = .call { callee := .builtin .append, args := #[s, y], argTypes := #[31, 31] }) (hs : a.eval s = v) {g : Nat} (hx : a.eval y = .slice (some ⟨g, 0, none⟩) 1 1) (hc : X.heap[g]? = some (.cells #[.int .u64 q.n, q.v] 71 (0, 0)))
    (k : ∀ qs' v' w', Hid (qs' = qs ++ [q]) → QsAt w' lo bp v' qs' → Below W.heap.size W w' → (∀ n, n < X.heap.size → v.ownBlock ≠ some n → w'.heap[n]? = X.heap[n]?) → X.heap.size ≤ w'.heap.size → (∀ n, n < X.heap.size → v.ownBlock ≠ some n → v'.ownBlock ≠ some n) → wpList Try.prog ops Q rest (a.put o.dst v') w') : wpList Try.prog ops Q (o :: rest) a X := by
  obtain ⟨i0, hi, hz0, hz1, hz2⟩ := info_parts period_info
  refine wpList_append_own_at X hgd s y 31 ho lo 71 i0 _ 2 32 Try.underlying31 hi hz0 hz1 hz2 rfl (by decide) v qs.length (cellsP qs) hs hr.row ⟨g, 0, none⟩ 1 1 [.int .u64 q.n, q.v] hx rfl (fun j u hj => by rw [add_cell, Nat.zero_add, (cells_of_block hc).1]; simpa using hj) (fun u hu => by simp at hu; rcases hu with rfl | rfl; rfl; exact h1) (by unfold maxLen; omega) (by omega) hlo ?_
  intro u' w' hown hg _ hat
  have kk : ∀ g, g < X.heap.size → v.ownBlock ≠ some g → w'.heap[g]? = X.heap[g]? := fun n hn hne => hg.block n hn (Ne.symm hne)
  have nn : ∀ g, g < X.heap.size → v.ownBlock ≠ some g → u'.ownBlock ≠ some g := fun n hn hne e => by
    rcases hat with h4 | h4
    · rw [h4] at e; exact hne e
    · rw [h4] at e; injection e with e; omega
  refine k (qs ++ [q]) u' w' rfl ⟨by rw [List.length_append, cellsP_app]; exact hown, nn bp hbp hr.nb, fun x hx => ?_⟩ (hb.grown hg hb.size (fun k hk => by have := (hr.row.lt k hk).1; omega)) kk hg.size nn
  rcases List.mem_append.1 hx with hx | hx
  · obtain ⟨q1, q2⟩ := hr.all x hx
    exact ⟨q1.keep (fun g hv => kk g (q2 g hv).1 (q2 g hv).2.1) hg.size, fun g hv => ⟨Nat.lt_of_lt_of_le (q2 g hv).1 hg.size, nn g (q2 g hv).1 (q2 g hv).2.1, (q2 g hv).2.2⟩⟩
  · rw [List.mem_singleton] at hx
    subst hx
    exact ⟨hq.keep (fun g hv => kk g (hqn g hv).1 (hqn g hv).2.1) hg.size, fun g hv => ⟨Nat.lt_of_lt_of_le (hqn g hv).1 hg.size, nn g (hqn g hv).1 (hqn g hv).2.1, (hqn g hv).2.2⟩⟩
end Go.Proofs.Ytjhjgncnadhbhaa

/- jointurelaw06.plans of kinds without periods. -/
namespace Go.Proofs.Ytjhjgncnadhbhaa
open Go.ChangeShapes Go.WideShapes Go.ChangeAt Go.RowKit

/-- A plan that was made: it may be. -/
def MadeOk (W w' : World) (e : Ending) : Prop := ∃ x : Pn, e = .returned (pnV x) ∧ PnAt w' x ∧ PnOk x ∧ rightB x = true ∧ (∃ a n c, x.pv = .slice a n c ∧ n ≤ c) ∧ Below W.heap.size W w'
theorem of6_gives {v : Value} {l : List Cn} (w : World) (h : IsCoins w v l) (hwf : ∀ x ∈ l, CnWf x) :
    Calls Try.prog 32 #[v] w fun e w' => ∃ a c, e = .returned (.slice a (mkL l).length c) ∧ IsCoins w' (.slice a (mkL l).length c) (mkL l) ∧ NewV w w' (.slice a (mkL l).length c) ∧ Below w.heap.size w w' := by
  refine (of6_any w h hwf).mono ?_
  rintro e w' ⟨u, rfl, h1, h2, h3⟩
  obtain ⟨a, c, rfl⟩ := h1.sl
  exact ⟨a, c, rfl, h1, h2, h3⟩
theorem pad_high {A B : World} {m : Nat} {g : Nat → Obj} {d e k : Nat} (hs : A.heap.size = B.heap.size) (hk : A.heap.size ≤ k) : (pad A m g d).heap[k]? = (pad B m g e).heap[k]? := by
  have h1 : ¬ k < A.heap.size := by omega
  have h2 : ¬ k < B.heap.size := by omega
  by_cases h : k < m <;> simp [pad, h, h1, h2]
section
variable {w : World} {k s n : Int} {a1 a2 : Option Addr} {n1 c1 n2 c2 : Nat} {l : List Cn} {ps : List Pa}
set_option maxRecDepth 20000 in
set_option maxHeartbeats 4000000 in
theorem plans_0 (h : MdIn w ⟨k, s, n, a1, n1, c1, a2, n2, c2, l, ps⟩) (hk : k % 6 = 0) (hf : n1 ≤ 20) (W : World) (hB : Below w.heap.size w W) :
    Calls Try.prog 8 #[.agg #[.int .u8 k, .int .u32 s, .int .u16 n, .slice a1 n1 c1, .slice a2 n2 c2]] W fun e w' => MadeOk W w' e := by
  have hpad := pads
  have hk0 := h.k
  have hs := h.s
  have hn := h.n
  have hcl := h.cl
  have hwf := h.wf
  have hlen := h.len
  simp only at hk0 hs hn hcl hwf hlen
  have hkm : k.tmod 6 = 0 := by rw [Int.tmod_eq_emod_of_nonneg hk0.1, hk]
  have hw1 : IntKind.u64.wrap s = s := by rw [IntKind.wrap_u64]; omega
  have hw2 : IntKind.u64.wrap n = n := by rw [IntKind.wrap_u64]; omega
  have hw3 : IntKind.u64.wrap (n + 1) = n + 1 := by rw [IntKind.wrap_u64]; omega
  have hw4 : IntKind.u64.wrap (s + (n + 1)) = s + (n + 1) := by rw [IntKind.wrap_u64]; omega
  clear h
  clear hcl hwf hlen
  go_enter Try.func8, Try.ntmps8
  go_upto_region 2 with fail
  go_region
  all_goals go_wp2
  all_goals refine bodyPost_ret (v := pnV pnZ) (by simp only [results, Try.results8]; go_simp; rfl) rfl ⟨pnZ, rfl, pnZ_at _, ⟨⟨by simp [pnZ], by simp [pnZ], by simp [pnZ], by simp [pnZ]⟩, by simp [pnZ]⟩, rfl, ⟨none, 0, 0, rfl, Nat.le_refl _⟩, ?_⟩
  all_goals (repeat (first | (with_reducible exact Below.refl _ _) | (with_reducible assumption) | (with_reducible apply bd) | (with_reducible apply ba) | (with_reducible refine bp ?_ (by first | omega | (simp [pad_size]; done) | (simp [pad_size]; omega)) _ _) | (with_reducible refine bs ?_ (by first | omega | (simp [pad_size]; done) | (simp [pad_size]; omega)) _) | (with_reducible refine bt ?_ (by assumption))))
set_option maxRecDepth 20000 in
set_option maxHeartbeats 4000000 in
theorem plans_1 (h : MdIn w ⟨k, s, n, a1, n1, c1, a2, n2, c2, l, ps⟩) (hk : k % 6 = 1) (hf : n1 ≤ 20) (W : World) (hB : Below w.heap.size w W) :
    Calls Try.prog 8 #[.agg #[.int .u8 k, .int .u32 s, .int .u16 n, .slice a1 n1 c1, .slice a2 n2 c2]] W fun e w' => MadeOk W w' e := by
  have hpad := pads
  have hk0 := h.k
  have hs := h.s
  have hn := h.n
  have hcl := h.cl
  have hwf := h.wf
  have hlen := h.len
  simp only at hk0 hs hn hcl hwf hlen
  have hkm : k.tmod 6 = 1 := by rw [Int.tmod_eq_emod_of_nonneg hk0.1, hk]
  have hw1 : IntKind.u64.wrap s = s := by rw [IntKind.wrap_u64]; omega
  have hw2 : IntKind.u64.wrap n = n := by rw [IntKind.wrap_u64]; omega
  have hw3 : IntKind.u64.wrap (n + 1) = n + 1 := by rw [IntKind.wrap_u64]; omega
  have hw4 : IntKind.u64.wrap (s + (n + 1)) = s + (n + 1) := by rw [IntKind.wrap_u64]; omega
  clear h
  have hO : Hid (∀ X, Below W.heap.size W X → Calls Try.prog 32 #[.slice a1 n1 c1] X fun e w' => ∃ a c, e = .returned (.slice a (mkL l).length c) ∧ IsCoins w' (.slice a (mkL l).length c) (mkL l) ∧ NewV X w' (.slice a (mkL l).length c) ∧ Below X.heap.size X w') := fun X hX => of6_gives X ((hcl.below (bt hB hX)).coins (by omega)) hwf
  have hmk := mkL_facts (l := l) (fun x hx => (hwf x hx).2)
  generalize mkL l = ml at *
  clear hcl hwf hlen
  go_enter Try.func8, Try.ntmps8
  go_upto_region 2 with fail
  obtain ⟨P1, hP1⟩ : ∃ P1 : World, Hid (P1 = W) := ⟨W, rfl⟩
  go_region
  all_goals go_wp2_with (go_at_call 32; refine (hO.out _ (by (repeat (first | (with_reducible exact Below.refl _ _) | (with_reducible assumption) | (with_reducible apply bd) | (with_reducible apply ba) | (with_reducible refine bp ?_ (by first | omega | (simp [pad_size]; done) | (simp [pad_size]; omega)) _ _) | (with_reducible refine bs ?_ (by first | omega | (simp [pad_size]; done) | (simp [pad_size]; omega)) _) | (with_reducible refine bt ?_ (by assumption)))))).mono ?_; rintro e w1 ⟨a, c, rfl, hI, hN, hb⟩; obtain ⟨m1, g1, d1, hm1, rfl⟩ := pad_of hb; replace hI : Hid (IsCoins _ (.slice a ml.length c) ml) := hI; replace hN : Hid (NewV _ _ (.slice a ml.length c)) := hN; clear hb; simp [pad_size] at hm1; have st1 := sz3 (n := W.heap.size) (m := m1) (by omega))
  all_goals refine bodyPost_ret (v := pnV ⟨1, s, s + (n + 1), .slice a ml.length c, .slice none 0 0, ml, []⟩) (by simp only [results, Try.results8]; go_simp; rfl) rfl ⟨⟨1, s, s + (n + 1), .slice a ml.length c, .slice none 0 0, ml, []⟩, rfl, ⟨IsCL.keep (IsCoins.cl hI.out) (fun g' hg => pad_high (by simp) (by have := (hN.out g' hg).1; simp at this ⊢; omega)) (by simp [pad_size]), .inl ⟨rfl, none, 0, rfl⟩⟩, ⟨⟨by simp, (by show 0 ≤ s ∧ s < 18446744073709551616; omega), (by show 0 ≤ s + (n + 1) ∧ s + (n + 1) < 18446744073709551616; omega), hmk.1⟩, by simp⟩, ?_, ⟨none, 0, 0, rfl, Nat.le_refl _⟩, by (repeat (first | (with_reducible exact Below.refl _ _) | (with_reducible assumption) | (with_reducible apply bd) | (with_reducible apply ba) | (with_reducible refine bp ?_ (by first | omega | (simp [pad_size]; done) | (simp [pad_size]; omega)) _ _) | (with_reducible refine bs ?_ (by first | omega | (simp [pad_size]; done) | (simp [pad_size]; omega)) _) | (with_reducible refine bt ?_ (by assumption))))⟩
  all_goals
    have h1 : someB ml = true := hmk.2.1
    have h2 : decide (s + (n + 1) ≤ 1099511627776) = true := decide_eq_true (by omega)
    simp [rightB, rightN, givesB, h1]
    try omega
set_option maxRecDepth 20000 in
set_option maxHeartbeats 4000000 in
theorem plans_2 (h : MdIn w ⟨k, s, n, a1, n1, c1, a2, n2, c2, l, ps⟩) (hk : k % 6 = 2) (hf : n1 ≤ 20) (W : World) (hB : Below w.heap.size w W) :
    Calls Try.prog 8 #[.agg #[.int .u8 k, .int .u32 s, .int .u16 n, .slice a1 n1 c1, .slice a2 n2 c2]] W fun e w' => MadeOk W w' e := by
  have hpad := pads
  have hk0 := h.k
  have hs := h.s
  have hn := h.n
  have hcl := h.cl
  have hwf := h.wf
  have hlen := h.len
  simp only at hk0 hs hn hcl hwf hlen
  have hkm : k.tmod 6 = 2 := by rw [Int.tmod_eq_emod_of_nonneg hk0.1, hk]
  have hw1 : IntKind.u64.wrap s = s := by rw [IntKind.wrap_u64]; omega
  have hw2 : IntKind.u64.wrap n = n := by rw [IntKind.wrap_u64]; omega
  have hw3 : IntKind.u64.wrap (n + 1) = n + 1 := by rw [IntKind.wrap_u64]; omega
  have hw4 : IntKind.u64.wrap (s + (n + 1)) = s + (n + 1) := by rw [IntKind.wrap_u64]; omega
  clear h
  have hO : Hid (∀ X, Below W.heap.size W X → Calls Try.prog 32 #[.slice a1 n1 c1] X fun e w' => ∃ a c, e = .returned (.slice a (mkL l).length c) ∧ IsCoins w' (.slice a (mkL l).length c) (mkL l) ∧ NewV X w' (.slice a (mkL l).length c) ∧ Below X.heap.size X w') := fun X hX => of6_gives X ((hcl.below (bt hB hX)).coins (by omega)) hwf
  have hmk := mkL_facts (l := l) (fun x hx => (hwf x hx).2)
  generalize mkL l = ml at *
  clear hcl hwf hlen
  go_enter Try.func8, Try.ntmps8
  go_upto_region 2 with fail
  obtain ⟨P1, hP1⟩ : ∃ P1 : World, Hid (P1 = W) := ⟨W, rfl⟩
  go_region
  all_goals go_wp2_with (go_at_call 32; refine (hO.out _ (by (repeat (first | (with_reducible exact Below.refl _ _) | (with_reducible assumption) | (with_reducible apply bd) | (with_reducible apply ba) | (with_reducible refine bp ?_ (by first | omega | (simp [pad_size]; done) | (simp [pad_size]; omega)) _ _) | (with_reducible refine bs ?_ (by first | omega | (simp [pad_size]; done) | (simp [pad_size]; omega)) _) | (with_reducible refine bt ?_ (by assumption)))))).mono ?_; rintro e w1 ⟨a, c, rfl, hI, hN, hb⟩; obtain ⟨m1, g1, d1, hm1, rfl⟩ := pad_of hb; replace hI : Hid (IsCoins _ (.slice a ml.length c) ml) := hI; replace hN : Hid (NewV _ _ (.slice a ml.length c)) := hN; clear hb; simp [pad_size] at hm1; have st1 := sz3 (n := W.heap.size) (m := m1) (by omega))
  all_goals refine bodyPost_ret (v := pnV ⟨2, 0, s, .slice a ml.length c, .slice none 0 0, ml, []⟩) (by simp only [results, Try.results8]; go_simp; rfl) rfl ⟨⟨2, 0, s, .slice a ml.length c, .slice none 0 0, ml, []⟩, rfl, ⟨IsCL.keep (IsCoins.cl hI.out) (fun g' hg => pad_high (by simp) (by have := (hN.out g' hg).1; simp at this ⊢; omega)) (by simp [pad_size]), .inl ⟨rfl, none, 0, rfl⟩⟩, ⟨⟨by simp, (by show 0 ≤ 0 ∧ 0 < 18446744073709551616; omega), (by show 0 ≤ s ∧ s < 18446744073709551616; omega), hmk.1⟩, by simp⟩, ?_, ⟨none, 0, 0, rfl, Nat.le_refl _⟩, by (repeat (first | (with_reducible exact Below.refl _ _) | (with_reducible assumption) | (with_reducible apply bd) | (with_reducible apply ba) | (with_reducible refine bp ?_ (by first | omega | (simp [pad_size]; done) | (simp [pad_size]; omega)) _ _) | (with_reducible refine bs ?_ (by first | omega | (simp [pad_size]; done) | (simp [pad_size]; omega)) _) | (with_reducible refine bt ?_ (by assumption))))⟩
  all_goals
    have h1 : someB ml = true := hmk.2.1
    have h2 : decide (s ≤ 1099511627776) = true := decide_eq_true (by omega)
    simp [rightB, rightN, givesB, h1]
    try omega
set_option maxRecDepth 20000 in
set_option maxHeartbeats 4000000 in
theorem plans_4 (h : MdIn w ⟨k, s, n, a1, n1, c1, a2, n2, c2, l, ps⟩) (hk : k % 6 = 4) (hf : n1 ≤ 20) (W : World) (hB : Below w.heap.size w W) :
    Calls Try.prog 8 #[.agg #[.int .u8 k, .int .u32 s, .int .u16 n, .slice a1 n1 c1, .slice a2 n2 c2]] W fun e w' => MadeOk W w' e := by
  have hpad := pads
  have hk0 := h.k
  have hs := h.s
  have hn := h.n
  have hcl := h.cl
  have hwf := h.wf
  have hlen := h.len
  simp only at hk0 hs hn hcl hwf hlen
  have hkm : k.tmod 6 = 4 := by rw [Int.tmod_eq_emod_of_nonneg hk0.1, hk]
  have hw1 : IntKind.u64.wrap s = s := by rw [IntKind.wrap_u64]; omega
  have hw2 : IntKind.u64.wrap n = n := by rw [IntKind.wrap_u64]; omega
  have hw3 : IntKind.u64.wrap (n + 1) = n + 1 := by rw [IntKind.wrap_u64]; omega
  have hw4 : IntKind.u64.wrap (s + (n + 1)) = s + (n + 1) := by rw [IntKind.wrap_u64]; omega
  clear h
  have hO : Hid (∀ X, Below W.heap.size W X → Calls Try.prog 32 #[.slice a1 n1 c1] X fun e w' => ∃ a c, e = .returned (.slice a (mkL l).length c) ∧ IsCoins w' (.slice a (mkL l).length c) (mkL l) ∧ NewV X w' (.slice a (mkL l).length c) ∧ Below X.heap.size X w') := fun X hX => of6_gives X ((hcl.below (bt hB hX)).coins (by omega)) hwf
  have hmk := mkL_facts (l := l) (fun x hx => (hwf x hx).2)
  generalize mkL l = ml at *
  clear hcl hwf hlen
  go_enter Try.func8, Try.ntmps8
  go_upto_region 2 with fail
  obtain ⟨P1, hP1⟩ : ∃ P1 : World, Hid (P1 = W) := ⟨W, rfl⟩
  go_region
  all_goals go_wp2_with (go_at_call 32; refine (hO.out _ (by (repeat (first | (with_reducible exact Below.refl _ _) | (with_reducible assumption) | (with_reducible apply bd) | (with_reducible apply ba) | (with_reducible refine bp ?_ (by first | omega | (simp [pad_size]; done) | (simp [pad_size]; omega)) _ _) | (with_reducible refine bs ?_ (by first | omega | (simp [pad_size]; done) | (simp [pad_size]; omega)) _) | (with_reducible refine bt ?_ (by assumption)))))).mono ?_; rintro e w1 ⟨a, c, rfl, hI, hN, hb⟩; obtain ⟨m1, g1, d1, hm1, rfl⟩ := pad_of hb; replace hI : Hid (IsCoins _ (.slice a ml.length c) ml) := hI; replace hN : Hid (NewV _ _ (.slice a ml.length c)) := hN; clear hb; simp [pad_size] at hm1; have st1 := sz3 (n := W.heap.size) (m := m1) (by omega))
  all_goals refine bodyPost_ret (v := pnV ⟨4, 0, 0, .slice a ml.length c, .slice none 0 0, ml, []⟩) (by simp only [results, Try.results8]; go_simp; rfl) rfl ⟨⟨4, 0, 0, .slice a ml.length c, .slice none 0 0, ml, []⟩, rfl, ⟨IsCL.keep (IsCoins.cl hI.out) (fun g' hg => pad_high (by simp) (by have := (hN.out g' hg).1; simp at this ⊢; omega)) (by simp [pad_size]), .inl ⟨rfl, none, 0, rfl⟩⟩, ⟨⟨by simp, (by show 0 ≤ 0 ∧ 0 < 18446744073709551616; omega), (by show 0 ≤ 0 ∧ 0 < 18446744073709551616; omega), hmk.1⟩, by simp⟩, ?_, ⟨none, 0, 0, rfl, Nat.le_refl _⟩, by (repeat (first | (with_reducible exact Below.refl _ _) | (with_reducible assumption) | (with_reducible apply bd) | (with_reducible apply ba) | (with_reducible refine bp ?_ (by first | omega | (simp [pad_size]; done) | (simp [pad_size]; omega)) _ _) | (with_reducible refine bs ?_ (by first | omega | (simp [pad_size]; done) | (simp [pad_size]; omega)) _) | (with_reducible refine bt ?_ (by assumption))))⟩
  all_goals
    have h1 : someB ml = true := hmk.2.1
    have h2 : decide (0 ≤ 1099511627776) = true := decide_eq_true (by omega)
    simp [rightB, rightN, givesB, h1]
    try omega
end
end Go.Proofs.Ytjhjgncnadhbhaa

/- jointurelaw06.plans of kinds with periods. -/
namespace Go.Proofs.Ytjhjgncnadhbhaa
open Go.ChangeShapes Go.WideShapes Go.ChangeAt Go.RowKit

/-- A period that was made. -/
structure PdM (q : Pd) : Prop where
  wf : PdWf q
  r : pdR q = true
  n : q.n ≤ 65536
  v : ∀ d : Nat, d < 8 → vl (amP q.l d) < 1809251394333065553493296640760748560207343510400633813116524750123642650624
theorem PdM.right {q : Pd} (h : PdM q) : rightFrom 0 q.l = true := by
  have := h.r; simp only [pdR, Bool.and_eq_true] at this; exact some_right this.2
theorem made_tot : ∀ {qs : List Pd} (_ : ∀ q ∈ qs, PdM q) {d : Nat} (_ : d < 8), 0 ≤ tot qs d ∧ tot qs d ≤ qs.length * 1809251394333065553493296640760748560207343510400633813116524750123642650624
  | [], _, _, _ => by simp [tot]
  | q :: qs, h, d, hd => by
    have h1 := made_tot (qs := qs) (fun x hx => h x (by simp [hx])) hd
    have h2 := (h q (by simp)).v d hd
    have h3 := vl_lo (amP_purse (h q (by simp)).wf.l) hd
    simp only [tot, List.length_cons]
    have e : ((qs.length + 1 : Nat) : Int) = (qs.length : Int) + 1 := by omega
    rw [e, Int.add_mul]
    omega
theorem made_fits {qs : List Pd} (h : ∀ q ∈ qs, PdM q) (hl : qs.length ≤ 17) : ∀ d, d < 8 → tot qs d < 115792089237316195423570985008687907853269984665640564039457584007913129639936 := fun d hd => by
  have h1 := made_tot h hd
  have h2 : (qs.length : Int) ≤ 17 := by omega
  omega
theorem made_len : ∀ {qs : List Pd} (_ : ∀ q ∈ qs, PdM q), 0 ≤ lenS qs ∧ lenS qs ≤ qs.length * 65536
  | [], _ => by simp [lenS]
  | q :: qs, h => by
    have h1 := made_len (qs := qs) (fun x hx => h x (by simp [hx]))
    have h2 := (h q (by simp)).n
    have h3 := (h q (by simp)).wf.n
    simp only [lenS, List.length_cons]
    omega
/-- Coins that are something have something of some denomination. -/
theorem some_pos {l : List Cn} (hwf : ∀ x ∈ l, CnWf x) (h : someB l = true) : ∃ d, d < 8 ∧ 0 < vl (amP l d) := by
  refine Classical.byContradiction fun hn => ?_
  have h0 : lst (amP l) 8 = [] := lst_nil (amP_purse hwf) fun d hd => by
    have h1 := (vl_lo (amP_purse hwf) hd).1
    have h2 : ¬ 0 < vl (amP l d) := fun e => hn ⟨d, hd, e⟩
    omega
  rw [amP_lst (some_right h)] at h0
  subst h0
  simp [someB] at h
theorem some_lst {z : Nat → Cn} (hz : Purse z) (h : ∃ d, d < 8 ∧ 0 < vl (z d)) : someB (lst z 8) = true := by
  have h1 := right_eq (lst_right hz 8 (Nat.le_refl _)) (lst_wf hz)
  unfold someB
  rw [h1]
  cases e : lst z 8 with
  | nil =>
    obtain ⟨d, hd, hp⟩ := h
    have := amt_full hz hd
    rw [e] at this
    rw [← this] at hp
    simp [amt, vl, val0] at hp
  | cons _ _ => rfl
theorem amP_list {z : Nat → Cn} (hz : Purse z) {d : Nat} (hd : d < 8) : vl (amP (lst z 8) d) = vl (z d) := by
  unfold amP; rw [amt_full hz hd]
/-- What the periods that were made come to is a plan that may be. -/
theorem made_right {k s e : Int} {av pv : Value} {qs : List Pd} (hk : k = 3 ∨ k = 5) (hq : ∀ q ∈ qs, PdM q) (h1 : 1 ≤ qs.length) (h2 : qs.length ≤ 16) (he : e = s + lenS qs) (hs : 0 ≤ s ∧ s ≤ 4294967295) : PnOk ⟨k, s, e, av, pv, lst (sumP qs) 8, qs⟩ ∧ rightB ⟨k, s, e, av, pv, lst (sumP qs) 8, qs⟩ = true := by
  have hf := made_fits hq (by omega)
  have hz := sumP_purse (fun q h => (hq q h).wf) hf
  have hl := made_len hq
  have hsm : someB (lst (sumP qs) 8) = true := by
    refine some_lst hz ?_
    match qs, h1 with
    | q :: qs, _ =>
      have hm := hq q (by simp)
      have := hm.r
      simp only [pdR, Bool.and_eq_true] at this
      obtain ⟨d, hd, hp⟩ := some_pos hm.wf.l this.2
      have ht := tot_lo (l := qs) (fun x hx => (hq x (by simp [hx])).wf) hd
      exact ⟨d, hd, by rw [sumP_vl]; simp only [tot]; omega⟩
  refine ⟨⟨⟨by show 0 ≤ k ∧ k ≤ 255; omega, by show 0 ≤ s ∧ s < _; omega, by show 0 ≤ e ∧ e < _; omega, lst_wf hz⟩, fun q h => (hq q h).wf⟩, ?_⟩
  have hg : givesB ⟨k, s, e, av, pv, lst (sumP qs) 8, qs⟩ = true := by
    unfold givesB
    rw [hsm, decide_eq_true (by omega : e ≤ 1099511627776)]; rfl
  have hst : stepsB ⟨k, s, e, av, pv, lst (sumP qs) 8, qs⟩ = true := steps_of ⟨h1, h2, fun q h => by
    have := (hq q h).r
    simp only [pdR, Bool.and_eq_true, decide_eq_true_eq] at this
    exact this, he.symm, fun d hd => by rw [amP_list hz hd, sumP_vl]⟩
  unfold rightB
  rw [if_pos (by exact hk), hg, hst]; rfl
theorem mk_pd {n : Int} {v : Value} {l : List Cn} (hn : 1 ≤ n ∧ n ≤ 65536) (hwf : ∀ x ∈ l, LimC x) : PdM ⟨n, v, mkL l⟩ := by
  obtain ⟨h1, h2, h3⟩ := mkL_facts hwf
  refine ⟨⟨by show 0 ≤ n ∧ n < _; omega, h1⟩, ?_, hn.2, h3⟩
  unfold pdR
  rw [h2, decide_eq_true hn.1]; rfl
end Go.Proofs.Ytjhjgncnadhbhaa

/- jointurelaw06.plans of kinds with periods: the state in its loop. -/
namespace Go.Proofs.Ytjhjgncnadhbhaa
open Go.ChangeShapes Go.WideShapes Go.ChangeAt Go.RowKit

theorem IsCoins.keepC {W W' : World} {v : Value} {l : List Cn} (h : IsCoins W v l) (e : ∀ g, v.ownBlock = some g → W'.heap[g]? = W.heap[g]?) (hs : W.heap.size ≤ W'.heap.size) : IsCoins W' v l := by
  rcases h with h | ⟨blk, off, cap, hv, hne, hlen, hlt, hall⟩
  · exact .inl h
  · exact ((IsCL.keep (.inr ⟨blk, off, cap, hv, hne, by omega, hlt, hall⟩) e hs : IsCL W' v l)).coins hlen
/-- What lies where in the loop: what the plan is made of, the answer's place, the plan, its periods. -/
structure PSt (W X : World) (md : Array Value) (K s e : Int) (aa : Option Addr) (na ca : Nat) (ap : Option Addr) (cp : Nat) (qs : List Pd) (L : List Cn) : Prop where
  m : X.heap[W.heap.size]? = some (.cells md 27 (0, 0))
  r : X.heap[W.heap.size + 1]? = some (.cells #[.int .u8 0, .int .u64 0, .int .u64 0, .slice none 0 0, .slice none 0 0] 33 (0, 0))
  p : X.heap[W.heap.size + 1 + 1]? = some (.cells #[.int .u8 K, .int .u64 s, .int .u64 e, .slice aa na ca, .slice ap qs.length cp] 33 (0, 0))
  q : QsAt X (W.heap.size + 1 + 1 + 1) (W.heap.size + 1 + 1) (.slice ap qs.length cp) qs
  a : IsCoins X (.slice aa na ca) L
  ab : ∀ g, (Value.slice aa na ca).ownBlock = some g → g < X.heap.size ∧ (Value.slice ap qs.length cp).ownBlock ≠ some g ∧ W.heap.size + 1 + 1 < g
  b : Below W.heap.size W X
  sz : W.heap.size + 1 + 1 < X.heap.size
section
variable {W X X' : World} {md : Array Value} {K s e : Int} {aa ap : Option Addr} {na ca cp : Nat} {qs : List Pd} {L : List Cn}
theorem PSt.below (h : PSt W X md K s e aa na ca ap cp qs L) (hb : Below X.heap.size X X') : PSt W X' md K s e aa na ca ap cp qs L :=
  ⟨(hb.block _ (by have := h.sz; omega)).trans h.m, (hb.block _ (by have := h.sz; omega)).trans h.r, (hb.block _ h.sz).trans h.p, h.q.below hb, h.a.below hb, fun g hg => ⟨Nat.lt_of_lt_of_le (h.ab g hg).1 hb.size, (h.ab g hg).2⟩, bt h.b hb, Nat.lt_of_lt_of_le h.sz hb.size⟩
theorem set_sz (X : World) (b o : Nat) (v : Value) : (X.setCell ⟨b, o, none⟩ v).heap.size = X.heap.size := by simp [World.setCell]
theorem set_blk {X : World} {b o j : Nat} {v : Value} (h : j ≠ b) : (X.setCell ⟨b, o, none⟩ v).heap[j]? = X.heap[j]? := by
  have : ¬ b = j := fun e => h e.symm
  simp [World.setCell, Array.getElem?_modify, this]
theorem PSt.setE (h : PSt W X md K s e aa na ca ap cp qs L) (e' : Int) : PSt W (X.setCell ⟨W.heap.size + 1 + 1, 2, none⟩ (.int .u64 e')) md K s e' aa na ca ap cp qs L := by
  have hg := grown_se (grown_ref X (some (W.heap.size + 1 + 1))) 2 (.int .u64 e')
  refine ⟨(set_blk (by omega)).trans h.m, (set_blk (by omega)).trans h.r, by rw [block_set _ h.p]; rfl, h.q.kept (Nat.le_refl _) h.q.nb hg, h.a.keepC (fun g hv => set_blk (by have := (h.ab g hv).2.2; omega)) (by rw [set_sz]; exact Nat.le_refl _), fun g hv => ?_, bs h.b (by show W.heap.size ≤ W.heap.size + 1 + 1; omega) _, by rw [set_sz]; exact h.sz⟩
  rw [set_sz]; exact h.ab g hv
theorem PSt.setA (h : PSt W X md K s e aa na ca ap cp qs L) {a' : Option Addr} {n' c' : Nat} {L' : List Cn} (hI : IsCoins X (.slice a' n' c') L') (hab : ∀ g, (Value.slice a' n' c').ownBlock = some g → g < X.heap.size ∧ (Value.slice ap qs.length cp).ownBlock ≠ some g ∧ W.heap.size + 1 + 1 < g) : PSt W (X.setCell ⟨W.heap.size + 1 + 1, 3, none⟩ (.slice a' n' c')) md K s e a' n' c' ap cp qs L' := by
  have hg := grown_se (grown_ref X (some (W.heap.size + 1 + 1))) 3 (.slice a' n' c')
  refine ⟨(set_blk (by omega)).trans h.m, (set_blk (by omega)).trans h.r, by rw [block_set _ h.p]; rfl, h.q.kept (Nat.le_refl _) h.q.nb hg, hI.keepC (fun g hv => set_blk (by have := (hab g hv).2.2; omega)) (by rw [set_sz]; exact Nat.le_refl _), fun g hv => ?_, bs h.b (by show W.heap.size ≤ W.heap.size + 1 + 1; omega) _, by rw [set_sz]; exact h.sz⟩
  rw [set_sz]; exact hab g hv
theorem PSt.notRow (h : PSt W X md K s e aa na ca ap cp qs L) {j : Nat} (hj : j ≤ W.heap.size + 1 + 1) : (Value.slice ap qs.length cp).ownBlock ≠ some j := fun e => by
  have := (h.q.row.lt j e).1; omega
/-- The row of periods has grown, and is laid into the plan anew. -/
theorem PSt.grow (h : PSt W X md K s e aa na ca ap cp qs L) {Y : World} {ap' : Option Addr} {cp' : Nat} {qs' : List Pd} (hQ : QsAt Y (W.heap.size + 1 + 1 + 1) (W.heap.size + 1 + 1) (.slice ap' qs'.length cp') qs')
    (hk : ∀ j, j < X.heap.size → (Value.slice ap qs.length cp).ownBlock ≠ some j → Y.heap[j]? = X.heap[j]?) (hs : X.heap.size ≤ Y.heap.size) (hb : Below W.heap.size W Y) (hn : ∀ j, j < X.heap.size → (Value.slice ap qs.length cp).ownBlock ≠ some j → (Value.slice ap' qs'.length cp').ownBlock ≠ some j) :
    PSt W (Y.setCell ⟨W.heap.size + 1 + 1, 4, none⟩ (.slice ap' qs'.length cp')) md K s e aa na ca ap' cp' qs' L := by
  have hz := h.sz
  have hp : Y.heap[W.heap.size + 1 + 1]? = _ := (hk _ h.sz (h.notRow (Nat.le_refl _))).trans h.p
  have hg := grown_se (grown_ref Y (some (W.heap.size + 1 + 1))) 4 (.slice ap' qs'.length cp')
  refine ⟨(set_blk (by omega)).trans ((hk _ (by omega) (h.notRow (by omega))).trans h.m), (set_blk (by omega)).trans ((hk _ (by omega) (h.notRow (by omega))).trans h.r), by rw [block_set _ hp]; rfl, hQ.kept (Nat.le_refl _) hQ.nb hg, h.a.keepC (fun g hv => (set_blk (by have := (h.ab g hv).2.2; omega)).trans (hk g (h.ab g hv).1 (h.ab g hv).2.1)) (by rw [set_sz]; exact hs), fun g hv => ?_, bs hb (by show W.heap.size ≤ W.heap.size + 1 + 1; omega) _, by rw [set_sz]; omega⟩
  rw [set_sz]
  exact ⟨Nat.lt_of_lt_of_le (h.ab g hv).1 hs, hn g (h.ab g hv).1 (h.ab g hv).2.1, (h.ab g hv).2.2⟩
theorem PSt.done (h : PSt W X md K s e aa na ca ap cp qs L) (hl : qs.length ≤ 1048576) (hg : X.grownBy X' (some (W.heap.size + 1))) : PnAt X' ⟨K, s, e, .slice aa na ca, .slice ap qs.length cp, L, qs⟩ :=
  ⟨(h.a.keepC (fun g hv => hg.block g (h.ab g hv).1 (by have := (h.ab g hv).2.2; simp; omega)) hg.size).cl, (h.q.kept (Nat.le_succ _) (h.notRow (by omega)) hg).pds hl⟩
theorem PSt.froz (h : PSt W X md K s e aa na ca ap cp qs L) : (∀ o, X.frozen? ⟨W.heap.size + 1 + 1, o, none⟩ = false) ∧ (∀ o, X.frozen? ⟨W.heap.size + 1, o, none⟩ = false) := ⟨fun o => (cells_of_block h.p).2 o, fun o => (cells_of_block h.r).2 o⟩
theorem PSt.cells (h : PSt W X md K s e aa na ca ap cp qs L) : (∀ o, X.cell? ⟨W.heap.size, o, none⟩ = md[o]?) ∧ (∀ o, X.cell? ⟨W.heap.size + 1, o, none⟩ = (#[.int .u8 0, .int .u64 0, .int .u64 0, .slice none 0 0, .slice none 0 0] : Array Value)[o]?) ∧ (∀ o, X.cell? ⟨W.heap.size + 1 + 1, o, none⟩ = (#[.int .u8 K, .int .u64 s, .int .u64 e, .slice aa na ca, .slice ap qs.length cp] : Array Value)[o]?) :=
  ⟨(cells_of_block h.m).1, (cells_of_block h.r).1, (cells_of_block h.p).1⟩
end
end Go.Proofs.Ytjhjgncnadhbhaa

/- r02.Add of what periods have and one more. -/
namespace Go.Proofs.Ytjhjgncnadhbhaa
open Go.ChangeShapes Go.WideShapes Go.ChangeAt Go.RowKit

theorem addRC_gives {va vb : Value} {qs : List Pd} {q : Pd} (hz : Purse (sumP qs)) (hm : PdM q) (hf : ∀ d, d < 8 → tot qs d + vl (amP q.l d) < 115792089237316195423570985008687907853269984665640564039457584007913129639936) (X : World) (hA : IsCoins X va (lst (sumP qs) 8)) (hB : IsCoins X vb (lst (amP q.l) 8)) :
    Calls Try.prog 33 #[va, vb] X fun e w' => ∃ a n c, e = .returned (.tuple #[.slice a n c, .bool true]) ∧ IsCoins w' (.slice a n c) (lst (sumP (qs ++ [q])) 8) ∧ NewV X w' (.slice a n c) ∧ Below X.heap.size X w' := by
  refine (addRC_new hz (amP_purse hm.wf.l) X hA hB).mono ?_
  rintro e w' (⟨-, u, rfl, h1, h2, h3⟩ | ⟨⟨d, hd, h1⟩, -⟩)
  · rw [sumP_snoc] at h1
    obtain ⟨a, c, rfl⟩ := h1.sl
    exact ⟨a, _, c, rfl, h1, h2, h3⟩
  · have := hf d hd
    rw [sumP_vl] at h1
    omega
end Go.Proofs.Ytjhjgncnadhbhaa

/- jointurelaw06.plans of kinds with periods: the walk. -/
namespace Go.Proofs.Ytjhjgncnadhbhaa
open Go.ChangeShapes Go.WideShapes Go.ChangeAt Go.RowKit
section
variable {w : World} {k s n : Int} {a1 a2 : Option Addr} {n1 c1 n2 c2 : Nat} {l : List Cn} {ps : List Pa}
set_option maxRecDepth 20000 in
set_option maxHeartbeats 16000000 in
theorem plans_3 (h : MdIn w ⟨k, s, n, a1, n1, c1, a2, n2, c2, l, ps⟩) (hk : k % 6 = 3) (hfm : fewM ⟨k, s, n, a1, n1, c1, a2, n2, c2, l, ps⟩ = true) (W : World) (hB : Below w.heap.size w W) :
    Calls Try.prog 8 #[.agg #[.int .u8 k, .int .u32 s, .int .u16 n, .slice a1 n1 c1, .slice a2 n2 c2]] W fun e w' => MadeOk W w' e := by
  have hpad := pads
  have hk0 := h.k
  have hs := h.s
  have hn := h.n
  have hnum : Hid _ := h.num
  have hpc : Hid (∀ X, Below w.heap.size w X → ∀ i (hi : i < ps.length), ∃ blk off, a2 = some ⟨blk, off, none⟩ ∧ blk < w.heap.size ∧ X.cell? ⟨blk, off + i * 2, none⟩ = some (.int .u16 ps[i].n) ∧ X.cell? ⟨blk, off + i * 2 + 1, none⟩ = some (.slice ps[i].a ps[i].m ps[i].cap)) := fun X hX i hi => pc_at h hX hi
  have hfm1 : n2 ≤ 20 ∧ ∀ q ∈ ps, q.m ≤ 20 := by
    simp only [fewM, Bool.and_eq_true, decide_eq_true_eq, List.all_eq_true] at hfm
    exact ⟨hfm.1.2, hfm.2⟩
  have hok : Hid (∀ i (hi : i < ps.length), (0 ≤ ps[i].n ∧ ps[i].n ≤ 65535) ∧ (∀ x ∈ ps[i].l, LimC x)) := fun i hi => ⟨(h.ok _ (List.getElem_mem hi)).n, fun x hx => ((h.ok _ (List.getElem_mem hi)).wf x hx).2⟩
  have hO : Hid (∀ X, Below w.heap.size w X → ∀ i (hi : i < ps.length), Calls Try.prog 32 #[.slice ps[i].a ps[i].m ps[i].cap] X fun e w' => ∃ a c, e = .returned (.slice a (mkL ps[i].l).length c) ∧ IsCoins w' (.slice a (mkL ps[i].l).length c) (mkL ps[i].l) ∧ NewV X w' (.slice a (mkL ps[i].l).length c) ∧ Below X.heap.size X w') := fun X hX i hi => of6_gives X (((h.ok _ (List.getElem_mem hi)).cl.below hX).coins (by have h1 := (h.ok _ (List.getElem_mem hi)).len; have h2 := hfm1.2 _ (List.getElem_mem hi); omega)) (h.ok _ (List.getElem_mem hi)).wf
  have hO0 : Hid (∀ X, Calls Try.prog 32 #[.slice none 0 0] X fun e w' => ∃ a c, e = .returned (.slice a (mkL []).length c) ∧ IsCoins w' (.slice a (mkL []).length c) (mkL []) ∧ NewV X w' (.slice a (mkL []).length c) ∧ Below X.heap.size X w') := fun X => of6_gives X (.inl ⟨rfl, _, _, rfl⟩) (by simp)
  have hmk0 : Hid (∀ v, PdM ⟨n + 1, v, mkL []⟩) := fun v => mk_pd (by simp only at hn; omega) (by simp)
  generalize mkL [] = L0 at hO0 hmk0
  simp only at hk0 hs hn hnum
  have hn20 := hfm1.1
  have hkm : k.tmod 6 = 3 := by rw [Int.tmod_eq_emod_of_nonneg hk0.1, hk]
  have hw1 : IntKind.u64.wrap s = s := by rw [IntKind.wrap_u64]; omega
  have hw2 : IntKind.u64.wrap n = n := by rw [IntKind.wrap_u64]; omega
  have hw3 : IntKind.u64.wrap (n + 1) = n + 1 := by rw [IntKind.wrap_u64]; omega
  clear h hfm hfm1
  go_enter Try.func8, Try.ntmps8
  go_upto_region 2 with fail
  go_cut [4, 5] from 12 to 18 (fun s4 s5 wx => s4 = .int .u64 s ∧ s5 = .int .u64 (n + 1) ∧ wx.heap[W.heap.size]? = some (.cells #[.int .u8 k, .int .u32 s, .int .u16 n, .slice a1 n1 c1, .slice a2 n2 c2] 27 (0, 0)) ∧ wx.heap[W.heap.size + 1]? = some (.cells #[.int .u8 0, .int .u64 0, .int .u64 0, .slice none 0 0, .slice none 0 0] 33 (0, 0)) ∧ wx.heap[W.heap.size + 1 + 1]? = some (.cells #[.int .u8 3, .int .u64 0, .int .u64 0, .slice none 0 0, .slice none 0 0] 33 (0, 0)) ∧ W.heap.size + 1 + 1 < wx.heap.size ∧ Below W.heap.size W wx)
  case first =>
    go_region
    all_goals (go_wp2_with fail; go_meet)
    all_goals exact ⟨rfl, rfl, by (repeat (first | (with_reducible exact al_at (by simp [pad_size])) | (with_reducible refine Eq.trans (dr_blk _ _) ?_) | (with_reducible refine Eq.trans (al_old (by first | omega | (simp [pad_size]; done) | (simp [pad_size]; omega))) ?_) | (with_reducible refine Eq.trans (pad_block (by first | omega | (simp [pad_size]; done) | (simp [pad_size]; omega)) (by first | omega | (simp [pad_size]; done) | (simp [pad_size]; omega))) ?_) | (with_reducible assumption))), by (repeat (first | (with_reducible exact al_at (by simp [pad_size])) | (with_reducible refine Eq.trans (dr_blk _ _) ?_) | (with_reducible refine Eq.trans (al_old (by first | omega | (simp [pad_size]; done) | (simp [pad_size]; omega))) ?_) | (with_reducible refine Eq.trans (pad_block (by first | omega | (simp [pad_size]; done) | (simp [pad_size]; omega)) (by first | omega | (simp [pad_size]; done) | (simp [pad_size]; omega))) ?_) | (with_reducible assumption))), by (repeat (first | (with_reducible exact al_at (by simp [pad_size])) | (with_reducible refine Eq.trans (dr_blk _ _) ?_) | (with_reducible refine Eq.trans (al_old (by first | omega | (simp [pad_size]; done) | (simp [pad_size]; omega))) ?_) | (with_reducible refine Eq.trans (pad_block (by first | omega | (simp [pad_size]; done) | (simp [pad_size]; omega)) (by first | omega | (simp [pad_size]; done) | (simp [pad_size]; omega))) ?_) | (with_reducible assumption))), by simp, by (repeat (first | (with_reducible exact Below.refl _ _) | (with_reducible assumption) | (with_reducible apply bd) | (with_reducible apply ba) | (with_reducible refine bp ?_ (by first | omega | (simp [pad_size]; done) | (simp [pad_size]; omega)) _ _) | (with_reducible refine bs ?_ (by first | omega | (simp [pad_size]; done) | (simp [pad_size]; omega)) _) | (with_reducible refine bt ?_ (by assumption))))⟩
  case rest =>
    obtain ⟨rfl, rfl, hm0, hr0, hp0, hz0, hb0⟩ := hcut
    obtain ⟨cp0, fp0⟩ := cells_of_block hp0
    go_wp2
    go_loopw [6] (fun iv X => ∃ (i : Nat) (qs : List Pd) (e : Int) (aa : Option Addr) (na ca : Nat) (ap : Option Addr) (cp : Nat), i ≤ 16 ∧ (i ≤ n2 ∨ i ≤ 1) ∧ iv = .int .i64 (i : Int) ∧ qs.length = i ∧ Hid (e = s + lenS qs) ∧ (0 ≤ e ∧ e ≤ 4296081407) ∧ Hid (∀ q ∈ qs, PdM q) ∧ Hid (PSt W X #[.int .u8 k, .int .u32 s, .int .u16 n, .slice a1 n1 c1, .slice a2 n2 c2] 3 s e aa na ca ap cp qs (lst (sumP qs) 8))) (fun iv _ => 17 - (intOf iv).toNat)
    case atStart =>
      refine ⟨0, [], s, none, 0, 0, none, 0, by omega, by omega, rfl, rfl, by unfold Hid; simp [lenS], by omega, by unfold Hid; simp, ?_⟩
      exact ⟨(set_blk (by omega)).trans ((set_blk (by omega)).trans hm0), (set_blk (by omega)).trans ((set_blk (by omega)).trans hr0), by rw [block_set _ (block_set _ hp0)]; rfl, QsAt.nil _ _ _, by rw [sumP_nil]; exact .inl ⟨rfl, none, 0, rfl⟩, by simp [Value.ownBlock], bs (bs hb0 (by show W.heap.size ≤ W.heap.size + 1 + 1; omega) _) (by show W.heap.size ≤ W.heap.size + 1 + 1; omega) _, by rw [set_sz, set_sz]; exact hz0⟩
    case round =>
      clear hm0 hr0 hp0 hz0 hb0 cp0 fp0
      obtain ⟨i, qs, e, aa, na, ca, ap, cp, hi16, hin, rfl, hql, hee, he, hq, hP⟩ := hrel
      have hqh : Hid (qs.length = i) := hql
      have hl16 : qs.length ≤ 16 := by omega
      have hl1 : 1 ≤ i → 1 ≤ qs.length := fun _ => by omega
      clear hql
      obtain ⟨cM, cR, cP⟩ := hP.out.cells
      obtain ⟨fP, fR⟩ := hP.out.froz
      have hgo : (i < 16 ∧ i < n2) ∨ (i = 0 ∧ n2 = 0) ∨ (1 ≤ i ∧ (n2 ≤ i ∨ i = 16)) := by omega
      by_cases hx : 1 ≤ i ∧ (n2 ≤ i ∨ i = 16)
      · obtain ⟨hx1, hx2⟩ := hx
        have hne : ((i : Int) == 0) = false := beq_eq_false_iff_ne.2 (by omega)
        have hne2 : ¬ (i : Int) = 0 := by omega
        have hmade := made_right (av := .slice aa na ca) (pv := .slice ap qs.length cp) (k := 3) (by omega) hq.out (hl1 hx1) hl16 hee.out hs
        have hlq : qs.length ≤ 1048576 := by omega
        have hXb := hP.out.b
        clear hpc hok hO hO0 hgo
        by_cases hni : n2 ≤ i
        · have hni' : ¬ (i : Int) < (n2 : Int) := by omega
          go_wp2
          refine bodyPost_ret (v := pnV ⟨3, s, e, .slice aa na ca, .slice ap qs.length cp, lst (sumP qs) 8, qs⟩) (by simp only [results, Try.results8]; go_simp; rfl) rfl ⟨_, rfl, hP.out.done hlq (by repeat (first | exact grown_ref _ _ | refine grown_se ?_ _ _ | refine grown_dr ?_)), hmade.1, hmade.2, hP.out.q.cap, by (repeat (first | (with_reducible exact Below.refl _ _) | (with_reducible assumption) | (with_reducible apply bd) | (with_reducible apply ba) | (with_reducible refine bp ?_ (by first | omega | (simp [pad_size]; done) | (simp [pad_size]; omega)) _ _) | (with_reducible refine bs ?_ (by first | omega | (simp [pad_size]; done) | (simp [pad_size]; omega)) _) | (with_reducible refine bt ?_ (by assumption))))⟩
        · have hni' : (i : Int) < (n2 : Int) := by omega
          have h16 : ¬ (i : Int) < 16 := by omega
          go_wp2
          refine bodyPost_ret (v := pnV ⟨3, s, e, .slice aa na ca, .slice ap qs.length cp, lst (sumP qs) 8, qs⟩) (by simp only [results, Try.results8]; go_simp; rfl) rfl ⟨_, rfl, hP.out.done hlq (by repeat (first | exact grown_ref _ _ | refine grown_se ?_ _ _ | refine grown_dr ?_)), hmade.1, hmade.2, hP.out.q.cap, by (repeat (first | (with_reducible exact Below.refl _ _) | (with_reducible assumption) | (with_reducible apply bd) | (with_reducible apply ba) | (with_reducible refine bp ?_ (by first | omega | (simp [pad_size]; done) | (simp [pad_size]; omega)) _ _) | (with_reducible refine bs ?_ (by first | omega | (simp [pad_size]; done) | (simp [pad_size]; omega)) _) | (with_reducible refine bt ?_ (by assumption))))⟩
      · have hAB : (i < 16 ∧ i < n2) ∨ (i = 0 ∧ n2 = 0) := by omega
        clear hgo hx
        rcases hAB with ⟨h16, hi2⟩ | ⟨rfl, rfl⟩
        · have h16' : (i : Int) < 16 := by omega
          have hi2' : (i : Int) < (n2 : Int) := by omega
          go_upto_region 16 with fail
          go_cut [7] from 58 to 60 (fun s7 wx => ∃ (Bx : Nat) (a : Option Addr) (c : Nat), s7 = .pointer (some ⟨Bx, 0, none⟩) ∧ wx.heap[Bx]? = some (.cells #[.int .u64 (n + 1), .slice a L0.length c] 71 (0, 0)) ∧ Hid (IsCoins wx (.slice a L0.length c) L0) ∧ Hid (∀ g, (Value.slice a L0.length c).ownBlock = some g → wr.heap.size ≤ g ∧ g < Bx) ∧ wr.heap.size ≤ Bx ∧ Bx < wx.heap.size ∧ Below wr.heap.size wr wx)
          case first =>
            go_wp2_with (go_at_call 32; refine (hO0.out _).mono ?_; rintro e w1 ⟨a, c, rfl, hI, hN, hb⟩; replace hI : Hid (IsCoins w1 (.slice a L0.length c) L0) := hI; replace hN : Hid (NewV wr w1 (.slice a L0.length c)) := hN)
            go_meet
            exact ⟨_, a, c, rfl, by (repeat (first | (with_reducible exact al_at (by simp [pad_size])) | (with_reducible refine Eq.trans (dr_blk _ _) ?_) | (with_reducible refine Eq.trans (al_old (by first | omega | (simp [pad_size]; done) | (simp [pad_size]; omega))) ?_) | (with_reducible refine Eq.trans (pad_block (by first | omega | (simp [pad_size]; done) | (simp [pad_size]; omega)) (by first | omega | (simp [pad_size]; done) | (simp [pad_size]; omega))) ?_) | (with_reducible assumption))), IsCoins.below hI.out (ba (Below.refl _ _) _), fun g hg => hN.out g hg, hb.size, by simp, ba hb _⟩
          case rest =>
            obtain ⟨Bx, av, cv, rfl, hBx, hIv, hNv, hBl, hBz, hb1⟩ := hcut
            have hP1 : Hid _ := PSt.below hP.out hb1
            obtain ⟨cM1, cR1, cP1⟩ := hP1.out.cells
            have hip : i < ps.length := by have := hnum.out; omega
            obtain ⟨pblk, poff, rfl, hpl, p0, p1⟩ := hpc.out wc (bt hB (bt hP.out.b hb1)) i hip
            obtain ⟨⟨hq0, hq1⟩, hql'⟩ := hok.out i hip
            have hOi : Hid (∀ X, Below wr.heap.size wr X → _) := fun X hX => hO.out X (bt hB (bt hP.out.b hX)) i hip
            have hw5 : IntKind.u64.wrap ps[i].n = ps[i].n := by rw [IntKind.wrap_u64]; omega
            have hw6 : IntKind.u64.wrap (ps[i].n + 1) = ps[i].n + 1 := by rw [IntKind.wrap_u64]; omega
            have hpm : Hid (∀ v, PdM ⟨ps[i].n + 1, v, mkL ps[i].l⟩) := fun v => mk_pd (by omega) hql'
            have hWz := hP.out.sz
            have hpw : pblk < wr.heap.size := Nat.lt_of_lt_of_le hpl (Nat.le_trans hB.size hP.out.b.size)
            have hkp : Hid (∀ X, Below wr.heap.size wr X → X.cell? ⟨W.heap.size, 4, none⟩ = some (.slice (some ⟨pblk, poff, none⟩) n2 c2) ∧ X.cell? ⟨pblk, poff + i * 2, none⟩ = some (.int .u16 ps[i].n) ∧ X.cell? ⟨pblk, poff + i * 2 + 1, none⟩ = some (.slice ps[i].a ps[i].m ps[i].cap)) := fun X hX =>
              ⟨((PSt.below hP.out hX).cells.1 4), ((hpc.out X (bt hB (bt hP.out.b hX)) i hip).elim fun b h => h.elim fun o h => by obtain ⟨e1, _, e2, _⟩ := h; simp at e1; obtain ⟨rfl, rfl⟩ := e1; exact e2), ((hpc.out X (bt hB (bt hP.out.b hX)) i hip).elim fun b h => h.elim fun o h => by obtain ⟨e1, _, _, e2⟩ := h; simp at e1; obtain ⟨rfl, rfl⟩ := e1; exact e2)⟩
            obtain ⟨cBx, fBx⟩ := cells_of_block hBx
            clear hpc hok hO hql'
            generalize mkL ps[i].l = ml at *
            generalize ps[i] = pc at *
            go_upto_region 18 with fail
            go_cut [7] from 66 to 81 (fun s7 wx => ∃ (m' : Int) (a' : Option Addr) (c' : Nat) (l' : List Cn), s7 = .pointer (some ⟨Bx, 0, none⟩) ∧ wx.heap[Bx]? = some (.cells #[.int .u64 m', .slice a' l'.length c'] 71 (0, 0)) ∧ Hid (IsCoins wx (.slice a' l'.length c') l') ∧ Hid (PdM ⟨m', .slice a' l'.length c', l'⟩) ∧ Hid (∀ g, (Value.slice a' l'.length c').ownBlock = some g → wr.heap.size ≤ g ∧ g < wx.heap.size ∧ g ≠ Bx) ∧ Bx < wx.heap.size ∧ Below wr.heap.size wr wx)
            case first =>
              go_region_held2 (fun X => X.cell? ⟨W.heap.size, 4, none⟩ = some (.slice (some ⟨pblk, poff, none⟩) n2 c2) ∧ X.cell? ⟨pblk, poff + i * 2, none⟩ = some (.int .u16 pc.n) ∧ X.cell? ⟨pblk, poff + i * 2 + 1, none⟩ = some (.slice pc.a pc.m pc.cap)) (exact hkp.out _ (by (repeat (first | (with_reducible exact Below.refl _ _) | (with_reducible assumption) | (with_reducible apply bd) | (with_reducible apply ba) | (with_reducible refine bp ?_ (by first | omega | (simp [pad_size]; done) | (simp [pad_size]; omega)) _ _) | (with_reducible refine bs ?_ (by first | omega | (simp [pad_size]; done) | (simp [pad_size]; omega)) _) | (with_reducible refine bt ?_ (by assumption)))))) (first | (go_at_call 32; refine (hOi.out _ (by (repeat (first | (with_reducible exact Below.refl _ _) | (with_reducible assumption) | (with_reducible apply bd) | (with_reducible apply ba) | (with_reducible refine bp ?_ (by first | omega | (simp [pad_size]; done) | (simp [pad_size]; omega)) _ _) | (with_reducible refine bs ?_ (by first | omega | (simp [pad_size]; done) | (simp [pad_size]; omega)) _) | (with_reducible refine bt ?_ (by assumption)))))).mono ?_; rintro e w1 ⟨a, c, rfl, hI, hN, hb⟩; obtain ⟨m1, g1, d1, hm1, rfl⟩ := pad_of hb; replace hI : Hid (IsCoins _ (.slice a ml.length c) ml) := hI; replace hN : Hid (NewV _ _ (.slice a ml.length c)) := hN; clear hb; simp [pad_size] at hm1; have hBm : Bx < m1 := by omega))
              all_goals (go_wp2_with fail; go_meet)
              all_goals
                have hNg : Hid (∀ g, (Value.slice a ml.length c).ownBlock = some g → wc.heap.size ≤ g ∧ g < m1) := fun g hg => by
                  have := hN.out g hg
                  simp [pad_size] at this
                  omega
                have hwm : wr.heap.size ≤ wc.heap.size := hb1.size
                exact ⟨pc.n + 1, a, c, ml, rfl, (pad_block (by rw [set_sz, set_sz]; exact hBz) hBm).trans (by rw [block_set _ (block_set _ hBx)]; rfl), IsCoins.keepC hI.out (fun g hg => pad_high (by simp [set_sz]) (by rw [set_sz, set_sz]; exact (hNg.out g hg).1)) (by simp [pad_size]), hpm.out _, fun g hg => by have := hNg.out g hg; simp only [pad_size]; omega, by simp only [pad_size]; exact hBm, by (repeat (first | (with_reducible exact Below.refl _ _) | (with_reducible assumption) | (with_reducible apply bd) | (with_reducible apply ba) | (with_reducible refine bp ?_ (by first | omega | (simp [pad_size]; done) | (simp [pad_size]; omega)) _ _) | (with_reducible refine bs ?_ (by first | omega | (simp [pad_size]; done) | (simp [pad_size]; omega)) _) | (with_reducible refine bt ?_ (by assumption))))⟩
            case rest =>
              obtain ⟨m', a', c', l', rfl, hBx2, hI2, hM2, hN2, hBs, hb2⟩ := hcut
              clear hBx hIv hNv hb1 hP1 cM1 cR1 cP1
              have hP2 : Hid (PSt W wc #[.int .u8 k, .int .u32 s, .int .u16 n, .slice a1 n1 c1, .slice (some ⟨pblk, poff, none⟩) n2 c2] 3 s e aa na ca ap cp qs (lst (sumP qs) 8)) := PSt.below hP.out hb2
              have hPz := hP.out.sz
              have hPr : Hid (∀ g, (Value.slice ap qs.length cp).ownBlock = some g → g < wr.heap.size) := fun g hg => (hP.out.q.row.lt g hg).2
              obtain ⟨cM2, cR2, cP2⟩ := hP2.out.cells
              obtain ⟨cB, fB⟩ := cells_of_block hBx2
              go_upto_region 19 with fail
              have hBr : (Value.slice ap qs.length cp).ownBlock ≠ some Bx := fun e => by have := hPr.out Bx e; omega
              have hOwn : Hid (∀ g, (Value.slice a' l'.length c').ownBlock = some g → g < wc.heap.size + 1 ∧ (Value.slice ap qs.length cp).ownBlock ≠ some g ∧ W.heap.size + 1 + 1 < g) := fun g hg => by
                have h1 := hN2.out g hg
                exact ⟨by omega, fun e => by have := hPr.out g e; omega, by omega⟩
              have hwz := hP2.out.sz
              go_cut [7] from 82 to 87 (fun s7 wx => ∃ (ap' : Option Addr) (cp' : Nat) (qs' : List Pd), s7 = .pointer (some ⟨Bx, 0, none⟩) ∧ Hid (qs' = qs ++ [⟨m', .slice a' l'.length c', l'⟩]) ∧ Hid (PSt W wx #[.int .u8 k, .int .u32 s, .int .u16 n, .slice a1 n1 c1, .slice (some ⟨pblk, poff, none⟩) n2 c2] 3 s e aa na ca ap' cp' qs' (lst (sumP qs) 8)) ∧ wx.heap[Bx]? = some (.cells #[.int .u64 m', .slice a' l'.length c'] 71 (0, 0)) ∧ Bx < wx.heap.size)
              case first =>
                go_wp2_with (at_builtin; go_loud (refine per_app (W := W) (lo := W.heap.size + 1 + 1 + 1) (bp := W.heap.size + 1 + 1) (hP2.out.q.below (ba (Below.refl _ _) _)) (by simp; omega) (by simp; omega) (bt hP2.out.b (ba (Below.refl _ _) _)) (by omega) (by omega) ⟨m', .slice a' l'.length c', l'⟩ rfl (IsCL.below (IsCoins.cl hI2.out) (ba (Below.refl _ _) _)) (fun g hg => ⟨by have := (hOwn.out g hg).1; simp; omega, (hOwn.out g hg).2⟩) rfl _ _ rfl rfl rfl (by (repeat (first | (with_reducible exact al_at (by simp [pad_size])) | (with_reducible refine Eq.trans (dr_blk _ _) ?_) | (with_reducible refine Eq.trans (al_old (by first | omega | (simp [pad_size]; done) | (simp [pad_size]; omega))) ?_) | (with_reducible refine Eq.trans (pad_block (by first | omega | (simp [pad_size]; done) | (simp [pad_size]; omega)) (by first | omega | (simp [pad_size]; done) | (simp [pad_size]; omega))) ?_) | (with_reducible assumption)))) ?_; intro qs4 v4 w4 hO4 hQ4 hb4 hk4 hs4 hn4; obtain ⟨a4, c4, rfl⟩ := row_slice hQ4.row; have hp4 := (hk4 _ (by simp; omega) (hP2.out.notRow (Nat.le_refl _))).trans ((al_old hP2.out.sz).trans hP2.out.p); obtain ⟨cP4, fP4⟩ := cells_of_block hp4; replace hn4 : Hid _ := hn4; replace hk4 : Hid _ := hk4; replace hQ4 : Hid _ := hQ4; clear hp4))
                go_meet
                exact ⟨a4, c4, qs4, rfl, hO4, PSt.grow (PSt.below hP2.out (ba (Below.refl _ _) _)) hQ4.out hk4.out hs4 hb4 hn4.out, (set_blk (by omega)).trans ((hk4.out Bx (by simp; omega) hBr).trans ((al_old hBs).trans hBx2)), by rw [set_sz]; simp at hs4; omega⟩
              case rest =>
                obtain ⟨ap', cp', qs', rfl, hq', hP3, hBx3, hz3⟩ := hcut
                clear cM2 cR2 cP2 cB fB hP2 hOwn hBr hI2 hN2 hBx2
                have hqm : Hid (∀ q ∈ qs', PdM q) := fun q hq2 => by
                  rw [hq'.out] at hq2
                  rcases List.mem_append.1 hq2 with h | h
                  · exact hq.out q h
                  · rw [List.mem_singleton] at h; subst h; exact hM2.out
                have hql2 : Hid (qs'.length = i + 1) := by unfold Hid; rw [hq'.out]; simp; exact hqh.out
                have hl17 : qs'.length ≤ 17 := by have := hql2.out; omega
                have hee2 : Hid (e + m' = s + lenS qs') := by unfold Hid; rw [hq'.out, lenS_snoc, ← Int.add_assoc, ← hee.out]
                have hm1 : 1 ≤ m' ∧ m' ≤ 65536 := by
                  have h1 := hM2.out.r
                  have h2 := hM2.out.n
                  simp only [pdR, Bool.and_eq_true, decide_eq_true_eq] at h1
                  exact ⟨h1.1, h2⟩
                have hlb : lenS qs' ≤ 17 * 65536 := by have := (made_len hqm.out).2; omega
                have hw7 : IntKind.u64.wrap (e + m') = e + m' := by rw [IntKind.wrap_u64]; omega
                have hP4 : Hid (PSt W (wc.setCell ⟨W.heap.size + 1 + 1, 2, none⟩ (.int .u64 (e + m'))) #[.int .u8 k, .int .u32 s, .int .u16 n, .slice a1 n1 c1, .slice (some ⟨pblk, poff, none⟩) n2 c2] 3 s (e + m') aa na ca ap' cp' qs' (lst (sumP qs) 8)) := PSt.setE hP3.out (e + m')
                have hfit := made_fits hqm.out (by omega)
                have hz := sumP_purse (fun q h => (hq.out q h).wf) (made_fits hq.out (by omega))
                have hC := addRC_gives (qs := qs) hz hM2.out (fun d hd => by have := hfit d hd; rw [hq'.out, tot_snoc] at this; exact this) _ hP4.out.a ((hP4.out.q.all _ (by rw [hq'.out]; simp)).1.lst hM2.out.right)
                rw [← hq'.out] at hC
                replace hC : Hid (True → _) := fun _ => hC
                obtain ⟨cM3, cR3, cP3⟩ := hP3.out.cells
                obtain ⟨fP3, fR3⟩ := hP3.out.froz
                obtain ⟨cB3, fB3⟩ := cells_of_block hBx3
                have hBp : ¬ Bx = W.heap.size + 1 + 1 := by omega
                have hBp' : ¬ W.heap.size + 1 + 1 = Bx := by omega
                clear hee hfit hz
                go_wp2_with (go_at_call 33; refine (hC.out trivial).mono ?_; rintro e6 w6 ⟨a6, n6, c6, rfl, hI6, hN6, hb6⟩; have hP6 : Hid _ := PSt.below hP4.out hb6; obtain ⟨cM6, cR6, cP6⟩ := hP6.out.cells; obtain ⟨fP6, fR6⟩ := hP6.out.froz; replace hI6 : Hid (IsCoins w6 (.slice a6 n6 c6) (lst (sumP qs') 8)) := hI6; replace hN6 : Hid (NewV _ w6 (.slice a6 n6 c6)) := hN6)
                all_goals go_roundw
                case rel =>
                  refine ⟨i + 1, qs', e + m', a6, n6, c6, ap', cp', by omega, by omega, by go_num, hql2.out, hee2, ?_, hqm, PSt.setA hP6.out hI6.out (fun g hg => ?_)⟩
                  · have := hee2.out; omega
                  · have h1 := hN6.out g hg
                    rw [set_sz] at h1
                    have h2 := hP3.out.sz
                    exact ⟨h1.2, fun e8 => by have := (hP3.out.q.row.lt g e8).2; omega, by omega⟩
                case measure => (simp [intOf] <;> omega)
        · skip
          go_upto_region 16 with fail
          go_cut [7] from 58 to 60 (fun s7 wx => ∃ (Bx : Nat) (a : Option Addr) (c : Nat), s7 = .pointer (some ⟨Bx, 0, none⟩) ∧ wx.heap[Bx]? = some (.cells #[.int .u64 (n + 1), .slice a L0.length c] 71 (0, 0)) ∧ Hid (IsCoins wx (.slice a L0.length c) L0) ∧ Hid (∀ g, (Value.slice a L0.length c).ownBlock = some g → wr.heap.size ≤ g ∧ g < Bx) ∧ wr.heap.size ≤ Bx ∧ Bx < wx.heap.size ∧ Below wr.heap.size wr wx)
          case first =>
            go_wp2_with (go_at_call 32; refine (hO0.out _).mono ?_; rintro e w1 ⟨a, c, rfl, hI, hN, hb⟩; replace hI : Hid (IsCoins w1 (.slice a L0.length c) L0) := hI; replace hN : Hid (NewV wr w1 (.slice a L0.length c)) := hN)
            go_meet
            exact ⟨_, a, c, rfl, by (repeat (first | (with_reducible exact al_at (by simp [pad_size])) | (with_reducible refine Eq.trans (dr_blk _ _) ?_) | (with_reducible refine Eq.trans (al_old (by first | omega | (simp [pad_size]; done) | (simp [pad_size]; omega))) ?_) | (with_reducible refine Eq.trans (pad_block (by first | omega | (simp [pad_size]; done) | (simp [pad_size]; omega)) (by first | omega | (simp [pad_size]; done) | (simp [pad_size]; omega))) ?_) | (with_reducible assumption))), IsCoins.below hI.out (ba (Below.refl _ _) _), fun g hg => hN.out g hg, hb.size, by simp, ba hb _⟩
          case rest =>
            obtain ⟨Bx, av, cv, rfl, hBx, hIv, hNv, hBl, hBz, hb1⟩ := hcut
            have hP1 : Hid _ := PSt.below hP.out hb1
            obtain ⟨cM1, cR1, cP1⟩ := hP1.out.cells
            go_upto_region 19 with fail
            have hXX : ∃ (m' : Int) (a' : Option Addr) (c' : Nat) (l' : List Cn), wc.heap[Bx]? = some (.cells #[.int .u64 m', .slice a' l'.length c'] 71 (0, 0)) ∧ Hid (IsCoins wc (.slice a' l'.length c') l') ∧ Hid (PdM ⟨m', .slice a' l'.length c', l'⟩) ∧ Hid (∀ g, (Value.slice a' l'.length c').ownBlock = some g → wr.heap.size ≤ g ∧ g < wc.heap.size ∧ g ≠ Bx) ∧ Bx < wc.heap.size ∧ Below wr.heap.size wr wc := ⟨n + 1, av, cv, L0, hBx, hIv, hmk0.out _, fun g hg => by have := hNv.out g hg; omega, hBz, hb1⟩
            clear hBx hIv hNv hb1 hP1 cM1 cR1 cP1
            obtain ⟨m', a', c', l', hBx2, hI2, hM2, hN2, hBs, hb2⟩ := hXX
            have hP2 : Hid (PSt W wc #[.int .u8 k, .int .u32 s, .int .u16 n, .slice a1 n1 c1, .slice a2 0 c2] 3 s e aa na ca ap cp qs (lst (sumP qs) 8)) := PSt.below hP.out hb2
            have hPz := hP.out.sz
            have hPr : Hid (∀ g, (Value.slice ap qs.length cp).ownBlock = some g → g < wr.heap.size) := fun g hg => (hP.out.q.row.lt g hg).2
            obtain ⟨cM2, cR2, cP2⟩ := hP2.out.cells
            obtain ⟨cB, fB⟩ := cells_of_block hBx2
            go_upto_region 19 with fail
            have hBr : (Value.slice ap qs.length cp).ownBlock ≠ some Bx := fun e => by have := hPr.out Bx e; omega
            have hOwn : Hid (∀ g, (Value.slice a' l'.length c').ownBlock = some g → g < wc.heap.size + 1 ∧ (Value.slice ap qs.length cp).ownBlock ≠ some g ∧ W.heap.size + 1 + 1 < g) := fun g hg => by
              have h1 := hN2.out g hg
              exact ⟨by omega, fun e => by have := hPr.out g e; omega, by omega⟩
            have hwz := hP2.out.sz
            go_cut [7] from 82 to 87 (fun s7 wx => ∃ (ap' : Option Addr) (cp' : Nat) (qs' : List Pd), s7 = .pointer (some ⟨Bx, 0, none⟩) ∧ Hid (qs' = qs ++ [⟨m', .slice a' l'.length c', l'⟩]) ∧ Hid (PSt W wx #[.int .u8 k, .int .u32 s, .int .u16 n, .slice a1 n1 c1, .slice a2 0 c2] 3 s e aa na ca ap' cp' qs' (lst (sumP qs) 8)) ∧ wx.heap[Bx]? = some (.cells #[.int .u64 m', .slice a' l'.length c'] 71 (0, 0)) ∧ Bx < wx.heap.size)
            case first =>
              go_wp2_with (at_builtin; go_loud (refine per_app (W := W) (lo := W.heap.size + 1 + 1 + 1) (bp := W.heap.size + 1 + 1) (hP2.out.q.below (ba (Below.refl _ _) _)) (by simp; omega) (by simp; omega) (bt hP2.out.b (ba (Below.refl _ _) _)) (by omega) (by omega) ⟨m', .slice a' l'.length c', l'⟩ rfl (IsCL.below (IsCoins.cl hI2.out) (ba (Below.refl _ _) _)) (fun g hg => ⟨by have := (hOwn.out g hg).1; simp; omega, (hOwn.out g hg).2⟩) rfl _ _ rfl rfl rfl (by (repeat (first | (with_reducible exact al_at (by simp [pad_size])) | (with_reducible refine Eq.trans (dr_blk _ _) ?_) | (with_reducible refine Eq.trans (al_old (by first | omega | (simp [pad_size]; done) | (simp [pad_size]; omega))) ?_) | (with_reducible refine Eq.trans (pad_block (by first | omega | (simp [pad_size]; done) | (simp [pad_size]; omega)) (by first | omega | (simp [pad_size]; done) | (simp [pad_size]; omega))) ?_) | (with_reducible assumption)))) ?_; intro qs4 v4 w4 hO4 hQ4 hb4 hk4 hs4 hn4; obtain ⟨a4, c4, rfl⟩ := row_slice hQ4.row; have hp4 := (hk4 _ (by simp; omega) (hP2.out.notRow (Nat.le_refl _))).trans ((al_old hP2.out.sz).trans hP2.out.p); obtain ⟨cP4, fP4⟩ := cells_of_block hp4; replace hn4 : Hid _ := hn4; replace hk4 : Hid _ := hk4; replace hQ4 : Hid _ := hQ4; clear hp4))
              go_meet
              exact ⟨a4, c4, qs4, rfl, hO4, PSt.grow (PSt.below hP2.out (ba (Below.refl _ _) _)) hQ4.out hk4.out hs4 hb4 hn4.out, (set_blk (by omega)).trans ((hk4.out Bx (by simp; omega) hBr).trans ((al_old hBs).trans hBx2)), by rw [set_sz]; simp at hs4; omega⟩
            case rest =>
              obtain ⟨ap', cp', qs', rfl, hq', hP3, hBx3, hz3⟩ := hcut
              clear cM2 cR2 cP2 cB fB hP2 hOwn hBr hI2 hN2 hBx2
              have hqm : Hid (∀ q ∈ qs', PdM q) := fun q hq2 => by
                rw [hq'.out] at hq2
                rcases List.mem_append.1 hq2 with h | h
                · exact hq.out q h
                · rw [List.mem_singleton] at h; subst h; exact hM2.out
              have hql2 : Hid (qs'.length = 0 + 1) := by unfold Hid; rw [hq'.out]; simp; exact List.eq_nil_of_length_eq_zero hqh.out
              have hl17 : qs'.length ≤ 17 := by have := hql2.out; omega
              have hee2 : Hid (e + m' = s + lenS qs') := by unfold Hid; rw [hq'.out, lenS_snoc, ← Int.add_assoc, ← hee.out]
              have hm1 : 1 ≤ m' ∧ m' ≤ 65536 := by
                have h1 := hM2.out.r
                have h2 := hM2.out.n
                simp only [pdR, Bool.and_eq_true, decide_eq_true_eq] at h1
                exact ⟨h1.1, h2⟩
              have hlb : lenS qs' ≤ 17 * 65536 := by have := (made_len hqm.out).2; omega
              have hw7 : IntKind.u64.wrap (e + m') = e + m' := by rw [IntKind.wrap_u64]; omega
              have hP4 : Hid (PSt W (wc.setCell ⟨W.heap.size + 1 + 1, 2, none⟩ (.int .u64 (e + m'))) #[.int .u8 k, .int .u32 s, .int .u16 n, .slice a1 n1 c1, .slice a2 0 c2] 3 s (e + m') aa na ca ap' cp' qs' (lst (sumP qs) 8)) := PSt.setE hP3.out (e + m')
              have hfit := made_fits hqm.out (by omega)
              have hz := sumP_purse (fun q h => (hq.out q h).wf) (made_fits hq.out (by omega))
              have hC := addRC_gives (qs := qs) hz hM2.out (fun d hd => by have := hfit d hd; rw [hq'.out, tot_snoc] at this; exact this) _ hP4.out.a ((hP4.out.q.all _ (by rw [hq'.out]; simp)).1.lst hM2.out.right)
              rw [← hq'.out] at hC
              replace hC : Hid (True → _) := fun _ => hC
              obtain ⟨cM3, cR3, cP3⟩ := hP3.out.cells
              obtain ⟨fP3, fR3⟩ := hP3.out.froz
              obtain ⟨cB3, fB3⟩ := cells_of_block hBx3
              have hBp : ¬ Bx = W.heap.size + 1 + 1 := by omega
              have hBp' : ¬ W.heap.size + 1 + 1 = Bx := by omega
              clear hee hfit hz
              go_wp2_with (go_at_call 33; refine (hC.out trivial).mono ?_; rintro e6 w6 ⟨a6, n6, c6, rfl, hI6, hN6, hb6⟩; have hP6 : Hid _ := PSt.below hP4.out hb6; obtain ⟨cM6, cR6, cP6⟩ := hP6.out.cells; obtain ⟨fP6, fR6⟩ := hP6.out.froz; replace hI6 : Hid (IsCoins w6 (.slice a6 n6 c6) (lst (sumP qs') 8)) := hI6; replace hN6 : Hid (NewV _ w6 (.slice a6 n6 c6)) := hN6)
              all_goals go_roundw
              case rel =>
                refine ⟨0 + 1, qs', e + m', a6, n6, c6, ap', cp', by omega, by omega, by go_num, hql2.out, hee2, ?_, hqm, PSt.setA hP6.out hI6.out (fun g hg => ?_)⟩
                · have := hee2.out; omega
                · have h1 := hN6.out g hg
                  rw [set_sz] at h1
                  have h2 := hP3.out.sz
                  exact ⟨h1.2, fun e8 => by have := (hP3.out.q.row.lt g e8).2; omega, by omega⟩
              case measure => (simp [intOf] <;> omega)
end
end Go.Proofs.Ytjhjgncnadhbhaa

/- jointurelaw06.plans of kinds with periods: the walk. -/
namespace Go.Proofs.Ytjhjgncnadhbhaa
open Go.ChangeShapes Go.WideShapes Go.ChangeAt Go.RowKit
section
variable {w : World} {k s n : Int} {a1 a2 : Option Addr} {n1 c1 n2 c2 : Nat} {l : List Cn} {ps : List Pa}
set_option maxRecDepth 20000 in
set_option maxHeartbeats 16000000 in
theorem plans_5 (h : MdIn w ⟨k, s, n, a1, n1, c1, a2, n2, c2, l, ps⟩) (hk : k % 6 = 5) (hfm : fewM ⟨k, s, n, a1, n1, c1, a2, n2, c2, l, ps⟩ = true) (W : World) (hB : Below w.heap.size w W) :
    Calls Try.prog 8 #[.agg #[.int .u8 k, .int .u32 s, .int .u16 n, .slice a1 n1 c1, .slice a2 n2 c2]] W fun e w' => MadeOk W w' e := by
  have hpad := pads
  have hk0 := h.k
  have hs := h.s
  have hn := h.n
  have hnum : Hid _ := h.num
  have hpc : Hid (∀ X, Below w.heap.size w X → ∀ i (hi : i < ps.length), ∃ blk off, a2 = some ⟨blk, off, none⟩ ∧ blk < w.heap.size ∧ X.cell? ⟨blk, off + i * 2, none⟩ = some (.int .u16 ps[i].n) ∧ X.cell? ⟨blk, off + i * 2 + 1, none⟩ = some (.slice ps[i].a ps[i].m ps[i].cap)) := fun X hX i hi => pc_at h hX hi
  have hfm1 : n2 ≤ 20 ∧ ∀ q ∈ ps, q.m ≤ 20 := by
    simp only [fewM, Bool.and_eq_true, decide_eq_true_eq, List.all_eq_true] at hfm
    exact ⟨hfm.1.2, hfm.2⟩
  have hok : Hid (∀ i (hi : i < ps.length), (0 ≤ ps[i].n ∧ ps[i].n ≤ 65535) ∧ (∀ x ∈ ps[i].l, LimC x)) := fun i hi => ⟨(h.ok _ (List.getElem_mem hi)).n, fun x hx => ((h.ok _ (List.getElem_mem hi)).wf x hx).2⟩
  have hO : Hid (∀ X, Below w.heap.size w X → ∀ i (hi : i < ps.length), Calls Try.prog 32 #[.slice ps[i].a ps[i].m ps[i].cap] X fun e w' => ∃ a c, e = .returned (.slice a (mkL ps[i].l).length c) ∧ IsCoins w' (.slice a (mkL ps[i].l).length c) (mkL ps[i].l) ∧ NewV X w' (.slice a (mkL ps[i].l).length c) ∧ Below X.heap.size X w') := fun X hX i hi => of6_gives X (((h.ok _ (List.getElem_mem hi)).cl.below hX).coins (by have h1 := (h.ok _ (List.getElem_mem hi)).len; have h2 := hfm1.2 _ (List.getElem_mem hi); omega)) (h.ok _ (List.getElem_mem hi)).wf
  have hO0 : Hid (∀ X, Calls Try.prog 32 #[.slice none 0 0] X fun e w' => ∃ a c, e = .returned (.slice a (mkL []).length c) ∧ IsCoins w' (.slice a (mkL []).length c) (mkL []) ∧ NewV X w' (.slice a (mkL []).length c) ∧ Below X.heap.size X w') := fun X => of6_gives X (.inl ⟨rfl, _, _, rfl⟩) (by simp)
  have hmk0 : Hid (∀ v, PdM ⟨n + 1, v, mkL []⟩) := fun v => mk_pd (by simp only at hn; omega) (by simp)
  generalize mkL [] = L0 at hO0 hmk0
  simp only at hk0 hs hn hnum
  have hn20 := hfm1.1
  have hkm : k.tmod 6 = 5 := by rw [Int.tmod_eq_emod_of_nonneg hk0.1, hk]
  have hw1 : IntKind.u64.wrap s = s := by rw [IntKind.wrap_u64]; omega
  have hw2 : IntKind.u64.wrap n = n := by rw [IntKind.wrap_u64]; omega
  have hw3 : IntKind.u64.wrap (n + 1) = n + 1 := by rw [IntKind.wrap_u64]; omega
  clear h hfm hfm1
  go_enter Try.func8, Try.ntmps8
  go_upto_region 2 with fail
  go_cut [4, 5] from 12 to 18 (fun s4 s5 wx => s4 = .int .u64 s ∧ s5 = .int .u64 (n + 1) ∧ wx.heap[W.heap.size]? = some (.cells #[.int .u8 k, .int .u32 s, .int .u16 n, .slice a1 n1 c1, .slice a2 n2 c2] 27 (0, 0)) ∧ wx.heap[W.heap.size + 1]? = some (.cells #[.int .u8 0, .int .u64 0, .int .u64 0, .slice none 0 0, .slice none 0 0] 33 (0, 0)) ∧ wx.heap[W.heap.size + 1 + 1]? = some (.cells #[.int .u8 5, .int .u64 0, .int .u64 0, .slice none 0 0, .slice none 0 0] 33 (0, 0)) ∧ W.heap.size + 1 + 1 < wx.heap.size ∧ Below W.heap.size W wx)
  case first =>
    go_region
    all_goals (go_wp2_with fail; go_meet)
    all_goals exact ⟨rfl, rfl, by (repeat (first | (with_reducible exact al_at (by simp [pad_size])) | (with_reducible refine Eq.trans (dr_blk _ _) ?_) | (with_reducible refine Eq.trans (al_old (by first | omega | (simp [pad_size]; done) | (simp [pad_size]; omega))) ?_) | (with_reducible refine Eq.trans (pad_block (by first | omega | (simp [pad_size]; done) | (simp [pad_size]; omega)) (by first | omega | (simp [pad_size]; done) | (simp [pad_size]; omega))) ?_) | (with_reducible assumption))), by (repeat (first | (with_reducible exact al_at (by simp [pad_size])) | (with_reducible refine Eq.trans (dr_blk _ _) ?_) | (with_reducible refine Eq.trans (al_old (by first | omega | (simp [pad_size]; done) | (simp [pad_size]; omega))) ?_) | (with_reducible refine Eq.trans (pad_block (by first | omega | (simp [pad_size]; done) | (simp [pad_size]; omega)) (by first | omega | (simp [pad_size]; done) | (simp [pad_size]; omega))) ?_) | (with_reducible assumption))), by (repeat (first | (with_reducible exact al_at (by simp [pad_size])) | (with_reducible refine Eq.trans (dr_blk _ _) ?_) | (with_reducible refine Eq.trans (al_old (by first | omega | (simp [pad_size]; done) | (simp [pad_size]; omega))) ?_) | (with_reducible refine Eq.trans (pad_block (by first | omega | (simp [pad_size]; done) | (simp [pad_size]; omega)) (by first | omega | (simp [pad_size]; done) | (simp [pad_size]; omega))) ?_) | (with_reducible assumption))), by simp, by (repeat (first | (with_reducible exact Below.refl _ _) | (with_reducible assumption) | (with_reducible apply bd) | (with_reducible apply ba) | (with_reducible refine bp ?_ (by first | omega | (simp [pad_size]; done) | (simp [pad_size]; omega)) _ _) | (with_reducible refine bs ?_ (by first | omega | (simp [pad_size]; done) | (simp [pad_size]; omega)) _) | (with_reducible refine bt ?_ (by assumption))))⟩
  case rest =>
    obtain ⟨rfl, rfl, hm0, hr0, hp0, hz0, hb0⟩ := hcut
    obtain ⟨cp0, fp0⟩ := cells_of_block hp0
    go_wp2
    go_loopw [6] (fun iv X => ∃ (i : Nat) (qs : List Pd) (e : Int) (aa : Option Addr) (na ca : Nat) (ap : Option Addr) (cp : Nat), i ≤ 16 ∧ (i ≤ n2 ∨ i ≤ 1) ∧ iv = .int .i64 (i : Int) ∧ qs.length = i ∧ Hid (e = s + lenS qs) ∧ (0 ≤ e ∧ e ≤ 4296081407) ∧ Hid (∀ q ∈ qs, PdM q) ∧ Hid (PSt W X #[.int .u8 k, .int .u32 s, .int .u16 n, .slice a1 n1 c1, .slice a2 n2 c2] 5 s e aa na ca ap cp qs (lst (sumP qs) 8))) (fun iv _ => 17 - (intOf iv).toNat)
    case atStart =>
      refine ⟨0, [], s, none, 0, 0, none, 0, by omega, by omega, rfl, rfl, by unfold Hid; simp [lenS], by omega, by unfold Hid; simp, ?_⟩
      exact ⟨(set_blk (by omega)).trans ((set_blk (by omega)).trans hm0), (set_blk (by omega)).trans ((set_blk (by omega)).trans hr0), by rw [block_set _ (block_set _ hp0)]; rfl, QsAt.nil _ _ _, by rw [sumP_nil]; exact .inl ⟨rfl, none, 0, rfl⟩, by simp [Value.ownBlock], bs (bs hb0 (by show W.heap.size ≤ W.heap.size + 1 + 1; omega) _) (by show W.heap.size ≤ W.heap.size + 1 + 1; omega) _, by rw [set_sz, set_sz]; exact hz0⟩
    case round =>
      clear hm0 hr0 hp0 hz0 hb0 cp0 fp0
      obtain ⟨i, qs, e, aa, na, ca, ap, cp, hi16, hin, rfl, hql, hee, he, hq, hP⟩ := hrel
      have hqh : Hid (qs.length = i) := hql
      have hl16 : qs.length ≤ 16 := by omega
      have hl1 : 1 ≤ i → 1 ≤ qs.length := fun _ => by omega
      clear hql
      obtain ⟨cM, cR, cP⟩ := hP.out.cells
      obtain ⟨fP, fR⟩ := hP.out.froz
      have hgo : (i < 16 ∧ i < n2) ∨ (i = 0 ∧ n2 = 0) ∨ (1 ≤ i ∧ (n2 ≤ i ∨ i = 16)) := by omega
      by_cases hx : 1 ≤ i ∧ (n2 ≤ i ∨ i = 16)
      · obtain ⟨hx1, hx2⟩ := hx
        have hne : ((i : Int) == 0) = false := beq_eq_false_iff_ne.2 (by omega)
        have hne2 : ¬ (i : Int) = 0 := by omega
        have hmade := made_right (av := .slice aa na ca) (pv := .slice ap qs.length cp) (k := 5) (by omega) hq.out (hl1 hx1) hl16 hee.out hs
        have hlq : qs.length ≤ 1048576 := by omega
        have hXb := hP.out.b
        clear hpc hok hO hO0 hgo
        by_cases hni : n2 ≤ i
        · have hni' : ¬ (i : Int) < (n2 : Int) := by omega
          go_wp2
          refine bodyPost_ret (v := pnV ⟨5, s, e, .slice aa na ca, .slice ap qs.length cp, lst (sumP qs) 8, qs⟩) (by simp only [results, Try.results8]; go_simp; rfl) rfl ⟨_, rfl, hP.out.done hlq (by repeat (first | exact grown_ref _ _ | refine grown_se ?_ _ _ | refine grown_dr ?_)), hmade.1, hmade.2, hP.out.q.cap, by (repeat (first | (with_reducible exact Below.refl _ _) | (with_reducible assumption) | (with_reducible apply bd) | (with_reducible apply ba) | (with_reducible refine bp ?_ (by first | omega | (simp [pad_size]; done) | (simp [pad_size]; omega)) _ _) | (with_reducible refine bs ?_ (by first | omega | (simp [pad_size]; done) | (simp [pad_size]; omega)) _) | (with_reducible refine bt ?_ (by assumption))))⟩
        · have hni' : (i : Int) < (n2 : Int) := by omega
          have h16 : ¬ (i : Int) < 16 := by omega
          go_wp2
          refine bodyPost_ret (v := pnV ⟨5, s, e, .slice aa na ca, .slice ap qs.length cp, lst (sumP qs) 8, qs⟩) (by simp only [results, Try.results8]; go_simp; rfl) rfl ⟨_, rfl, hP.out.done hlq (by repeat (first | exact grown_ref _ _ | refine grown_se ?_ _ _ | refine grown_dr ?_)), hmade.1, hmade.2, hP.out.q.cap, by (repeat (first | (with_reducible exact Below.refl _ _) | (with_reducible assumption) | (with_reducible apply bd) | (with_reducible apply ba) | (with_reducible refine bp ?_ (by first | omega | (simp [pad_size]; done) | (simp [pad_size]; omega)) _ _) | (with_reducible refine bs ?_ (by first | omega | (simp [pad_size]; done) | (simp [pad_size]; omega)) _) | (with_reducible refine bt ?_ (by assumption))))⟩
      · have hAB : (i < 16 ∧ i < n2) ∨ (i = 0 ∧ n2 = 0) := by omega
        clear hgo hx
        rcases hAB with ⟨h16, hi2⟩ | ⟨rfl, rfl⟩
        · have h16' : (i : Int) < 16 := by omega
          have hi2' : (i : Int) < (n2 : Int) := by omega
          go_upto_region 16 with fail
          go_cut [7] from 58 to 60 (fun s7 wx => ∃ (Bx : Nat) (a : Option Addr) (c : Nat), s7 = .pointer (some ⟨Bx, 0, none⟩) ∧ wx.heap[Bx]? = some (.cells #[.int .u64 (n + 1), .slice a L0.length c] 71 (0, 0)) ∧ Hid (IsCoins wx (.slice a L0.length c) L0) ∧ Hid (∀ g, (Value.slice a L0.length c).ownBlock = some g → wr.heap.size ≤ g ∧ g < Bx) ∧ wr.heap.size ≤ Bx ∧ Bx < wx.heap.size ∧ Below wr.heap.size wr wx)
          case first =>
            go_wp2_with (go_at_call 32; refine (hO0.out _).mono ?_; rintro e w1 ⟨a, c, rfl, hI, hN, hb⟩; replace hI : Hid (IsCoins w1 (.slice a L0.length c) L0) := hI; replace hN : Hid (NewV wr w1 (.slice a L0.length c)) := hN)
            go_meet
            exact ⟨_, a, c, rfl, by (repeat (first | (with_reducible exact al_at (by simp [pad_size])) | (with_reducible refine Eq.trans (dr_blk _ _) ?_) | (with_reducible refine Eq.trans (al_old (by first | omega | (simp [pad_size]; done) | (simp [pad_size]; omega))) ?_) | (with_reducible refine Eq.trans (pad_block (by first | omega | (simp [pad_size]; done) | (simp [pad_size]; omega)) (by first | omega | (simp [pad_size]; done) | (simp [pad_size]; omega))) ?_) | (with_reducible assumption))), IsCoins.below hI.out (ba (Below.refl _ _) _), fun g hg => hN.out g hg, hb.size, by simp, ba hb _⟩
          case rest =>
            obtain ⟨Bx, av, cv, rfl, hBx, hIv, hNv, hBl, hBz, hb1⟩ := hcut
            have hP1 : Hid _ := PSt.below hP.out hb1
            obtain ⟨cM1, cR1, cP1⟩ := hP1.out.cells
            have hip : i < ps.length := by have := hnum.out; omega
            obtain ⟨pblk, poff, rfl, hpl, p0, p1⟩ := hpc.out wc (bt hB (bt hP.out.b hb1)) i hip
            obtain ⟨⟨hq0, hq1⟩, hql'⟩ := hok.out i hip
            have hOi : Hid (∀ X, Below wr.heap.size wr X → _) := fun X hX => hO.out X (bt hB (bt hP.out.b hX)) i hip
            have hw5 : IntKind.u64.wrap ps[i].n = ps[i].n := by rw [IntKind.wrap_u64]; omega
            have hw6 : IntKind.u64.wrap (ps[i].n + 1) = ps[i].n + 1 := by rw [IntKind.wrap_u64]; omega
            have hpm : Hid (∀ v, PdM ⟨ps[i].n + 1, v, mkL ps[i].l⟩) := fun v => mk_pd (by omega) hql'
            have hWz := hP.out.sz
            have hpw : pblk < wr.heap.size := Nat.lt_of_lt_of_le hpl (Nat.le_trans hB.size hP.out.b.size)
            have hkp : Hid (∀ X, Below wr.heap.size wr X → X.cell? ⟨W.heap.size, 4, none⟩ = some (.slice (some ⟨pblk, poff, none⟩) n2 c2) ∧ X.cell? ⟨pblk, poff + i * 2, none⟩ = some (.int .u16 ps[i].n) ∧ X.cell? ⟨pblk, poff + i * 2 + 1, none⟩ = some (.slice ps[i].a ps[i].m ps[i].cap)) := fun X hX =>
              ⟨((PSt.below hP.out hX).cells.1 4), ((hpc.out X (bt hB (bt hP.out.b hX)) i hip).elim fun b h => h.elim fun o h => by obtain ⟨e1, _, e2, _⟩ := h; simp at e1; obtain ⟨rfl, rfl⟩ := e1; exact e2), ((hpc.out X (bt hB (bt hP.out.b hX)) i hip).elim fun b h => h.elim fun o h => by obtain ⟨e1, _, _, e2⟩ := h; simp at e1; obtain ⟨rfl, rfl⟩ := e1; exact e2)⟩
            obtain ⟨cBx, fBx⟩ := cells_of_block hBx
            clear hpc hok hO hql'
            generalize mkL ps[i].l = ml at *
            generalize ps[i] = pc at *
            go_upto_region 18 with fail
            go_cut [7] from 66 to 81 (fun s7 wx => ∃ (m' : Int) (a' : Option Addr) (c' : Nat) (l' : List Cn), s7 = .pointer (some ⟨Bx, 0, none⟩) ∧ wx.heap[Bx]? = some (.cells #[.int .u64 m', .slice a' l'.length c'] 71 (0, 0)) ∧ Hid (IsCoins wx (.slice a' l'.length c') l') ∧ Hid (PdM ⟨m', .slice a' l'.length c', l'⟩) ∧ Hid (∀ g, (Value.slice a' l'.length c').ownBlock = some g → wr.heap.size ≤ g ∧ g < wx.heap.size ∧ g ≠ Bx) ∧ Bx < wx.heap.size ∧ Below wr.heap.size wr wx)
            case first =>
              go_region_held2 (fun X => X.cell? ⟨W.heap.size, 4, none⟩ = some (.slice (some ⟨pblk, poff, none⟩) n2 c2) ∧ X.cell? ⟨pblk, poff + i * 2, none⟩ = some (.int .u16 pc.n) ∧ X.cell? ⟨pblk, poff + i * 2 + 1, none⟩ = some (.slice pc.a pc.m pc.cap)) (exact hkp.out _ (by (repeat (first | (with_reducible exact Below.refl _ _) | (with_reducible assumption) | (with_reducible apply bd) | (with_reducible apply ba) | (with_reducible refine bp ?_ (by first | omega | (simp [pad_size]; done) | (simp [pad_size]; omega)) _ _) | (with_reducible refine bs ?_ (by first | omega | (simp [pad_size]; done) | (simp [pad_size]; omega)) _) | (with_reducible refine bt ?_ (by assumption)))))) (first | (go_at_call 32; refine (hOi.out _ (by (repeat (first | (with_reducible exact Below.refl _ _) | (with_reducible assumption) | (with_reducible apply bd) | (with_reducible apply ba) | (with_reducible refine bp ?_ (by first | omega | (simp [pad_size]; done) | (simp [pad_size]; omega)) _ _) | (with_reducible refine bs ?_ (by first | omega | (simp [pad_size]; done) | (simp [pad_size]; omega)) _) | (with_reducible refine bt ?_ (by assumption)))))).mono ?_; rintro e w1 ⟨a, c, rfl, hI, hN, hb⟩; obtain ⟨m1, g1, d1, hm1, rfl⟩ := pad_of hb; replace hI : Hid (IsCoins _ (.slice a ml.length c) ml) := hI; replace hN : Hid (NewV _ _ (.slice a ml.length c)) := hN; clear hb; simp [pad_size] at hm1; have hBm : Bx < m1 := by omega))
              all_goals (go_wp2_with fail; go_meet)
              all_goals
                have hNg : Hid (∀ g, (Value.slice a ml.length c).ownBlock = some g → wc.heap.size ≤ g ∧ g < m1) := fun g hg => by
                  have := hN.out g hg
                  simp [pad_size] at this
                  omega
                have hwm : wr.heap.size ≤ wc.heap.size := hb1.size
                exact ⟨pc.n + 1, a, c, ml, rfl, (pad_block (by rw [set_sz, set_sz]; exact hBz) hBm).trans (by rw [block_set _ (block_set _ hBx)]; rfl), IsCoins.keepC hI.out (fun g hg => pad_high (by simp [set_sz]) (by rw [set_sz, set_sz]; exact (hNg.out g hg).1)) (by simp [pad_size]), hpm.out _, fun g hg => by have := hNg.out g hg; simp only [pad_size]; omega, by simp only [pad_size]; exact hBm, by (repeat (first | (with_reducible exact Below.refl _ _) | (with_reducible assumption) | (with_reducible apply bd) | (with_reducible apply ba) | (with_reducible refine bp ?_ (by first | omega | (simp [pad_size]; done) | (simp [pad_size]; omega)) _ _) | (with_reducible refine bs ?_ (by first | omega | (simp [pad_size]; done) | (simp [pad_size]; omega)) _) | (with_reducible refine bt ?_ (by assumption))))⟩
            case rest =>
              obtain ⟨m', a', c', l', rfl, hBx2, hI2, hM2, hN2, hBs, hb2⟩ := hcut
              clear hBx hIv hNv hb1 hP1 cM1 cR1 cP1
              have hP2 : Hid (PSt W wc #[.int .u8 k, .int .u32 s, .int .u16 n, .slice a1 n1 c1, .slice (some ⟨pblk, poff, none⟩) n2 c2] 5 s e aa na ca ap cp qs (lst (sumP qs) 8)) := PSt.below hP.out hb2
              have hPz := hP.out.sz
              have hPr : Hid (∀ g, (Value.slice ap qs.length cp).ownBlock = some g → g < wr.heap.size) := fun g hg => (hP.out.q.row.lt g hg).2
              obtain ⟨cM2, cR2, cP2⟩ := hP2.out.cells
              obtain ⟨cB, fB⟩ := cells_of_block hBx2
              go_upto_region 19 with fail
              have hBr : (Value.slice ap qs.length cp).ownBlock ≠ some Bx := fun e => by have := hPr.out Bx e; omega
              have hOwn : Hid (∀ g, (Value.slice a' l'.length c').ownBlock = some g → g < wc.heap.size + 1 ∧ (Value.slice ap qs.length cp).ownBlock ≠ some g ∧ W.heap.size + 1 + 1 < g) := fun g hg => by
                have h1 := hN2.out g hg
                exact ⟨by omega, fun e => by have := hPr.out g e; omega, by omega⟩
              have hwz := hP2.out.sz
              go_cut [7] from 82 to 87 (fun s7 wx => ∃ (ap' : Option Addr) (cp' : Nat) (qs' : List Pd), s7 = .pointer (some ⟨Bx, 0, none⟩) ∧ Hid (qs' = qs ++ [⟨m', .slice a' l'.length c', l'⟩]) ∧ Hid (PSt W wx #[.int .u8 k, .int .u32 s, .int .u16 n, .slice a1 n1 c1, .slice (some ⟨pblk, poff, none⟩) n2 c2] 5 s e aa na ca ap' cp' qs' (lst (sumP qs) 8)) ∧ wx.heap[Bx]? = some (.cells #[.int .u64 m', .slice a' l'.length c'] 71 (0, 0)) ∧ Bx < wx.heap.size)
              case first =>
                go_wp2_with (at_builtin; go_loud (refine per_app (W := W) (lo := W.heap.size + 1 + 1 + 1) (bp := W.heap.size + 1 + 1) (hP2.out.q.below (ba (Below.refl _ _) _)) (by simp; omega) (by simp; omega) (bt hP2.out.b (ba (Below.refl _ _) _)) (by omega) (by omega) ⟨m', .slice a' l'.length c', l'⟩ rfl (IsCL.below (IsCoins.cl hI2.out) (ba (Below.refl _ _) _)) (fun g hg => ⟨by have := (hOwn.out g hg).1; simp; omega, (hOwn.out g hg).2⟩) rfl _ _ rfl rfl rfl (by (repeat (first | (with_reducible exact al_at (by simp [pad_size])) | (with_reducible refine Eq.trans (dr_blk _ _) ?_) | (with_reducible refine Eq.trans (al_old (by first | omega | (simp [pad_size]; done) | (simp [pad_size]; omega))) ?_) | (with_reducible refine Eq.trans (pad_block (by first | omega | (simp [pad_size]; done) | (simp [pad_size]; omega)) (by first | omega | (simp [pad_size]; done) | (simp [pad_size]; omega))) ?_) | (with_reducible assumption)))) ?_; intro qs4 v4 w4 hO4 hQ4 hb4 hk4 hs4 hn4; obtain ⟨a4, c4, rfl⟩ := row_slice hQ4.row; have hp4 := (hk4 _ (by simp; omega) (hP2.out.notRow (Nat.le_refl _))).trans ((al_old hP2.out.sz).trans hP2.out.p); obtain ⟨cP4, fP4⟩ := cells_of_block hp4; replace hn4 : Hid _ := hn4; replace hk4 : Hid _ := hk4; replace hQ4 : Hid _ := hQ4; clear hp4))
                go_meet
                exact ⟨a4, c4, qs4, rfl, hO4, PSt.grow (PSt.below hP2.out (ba (Below.refl _ _) _)) hQ4.out hk4.out hs4 hb4 hn4.out, (set_blk (by omega)).trans ((hk4.out Bx (by simp; omega) hBr).trans ((al_old hBs).trans hBx2)), by rw [set_sz]; simp at hs4; omega⟩
              case rest =>
                obtain ⟨ap', cp', qs', rfl, hq', hP3, hBx3, hz3⟩ := hcut
                clear cM2 cR2 cP2 cB fB hP2 hOwn hBr hI2 hN2 hBx2
                have hqm : Hid (∀ q ∈ qs', PdM q) := fun q hq2 => by
                  rw [hq'.out] at hq2
                  rcases List.mem_append.1 hq2 with h | h
                  · exact hq.out q h
                  · rw [List.mem_singleton] at h; subst h; exact hM2.out
                have hql2 : Hid (qs'.length = i + 1) := by unfold Hid; rw [hq'.out]; simp; exact hqh.out
                have hl17 : qs'.length ≤ 17 := by have := hql2.out; omega
                have hee2 : Hid (e + m' = s + lenS qs') := by unfold Hid; rw [hq'.out, lenS_snoc, ← Int.add_assoc, ← hee.out]
                have hm1 : 1 ≤ m' ∧ m' ≤ 65536 := by
                  have h1 := hM2.out.r
                  have h2 := hM2.out.n
                  simp only [pdR, Bool.and_eq_true, decide_eq_true_eq] at h1
                  exact ⟨h1.1, h2⟩
                have hlb : lenS qs' ≤ 17 * 65536 := by have := (made_len hqm.out).2; omega
                have hw7 : IntKind.u64.wrap (e + m') = e + m' := by rw [IntKind.wrap_u64]; omega
                have hP4 : Hid (PSt W (wc.setCell ⟨W.heap.size + 1 + 1, 2, none⟩ (.int .u64 (e + m'))) #[.int .u8 k, .int .u32 s, .int .u16 n, .slice a1 n1 c1, .slice (some ⟨pblk, poff, none⟩) n2 c2] 5 s (e + m') aa na ca ap' cp' qs' (lst (sumP qs) 8)) := PSt.setE hP3.out (e + m')
                have hfit := made_fits hqm.out (by omega)
                have hz := sumP_purse (fun q h => (hq.out q h).wf) (made_fits hq.out (by omega))
                have hC := addRC_gives (qs := qs) hz hM2.out (fun d hd => by have := hfit d hd; rw [hq'.out, tot_snoc] at this; exact this) _ hP4.out.a ((hP4.out.q.all _ (by rw [hq'.out]; simp)).1.lst hM2.out.right)
                rw [← hq'.out] at hC
                replace hC : Hid (True → _) := fun _ => hC
                obtain ⟨cM3, cR3, cP3⟩ := hP3.out.cells
                obtain ⟨fP3, fR3⟩ := hP3.out.froz
                obtain ⟨cB3, fB3⟩ := cells_of_block hBx3
                have hBp : ¬ Bx = W.heap.size + 1 + 1 := by omega
                have hBp' : ¬ W.heap.size + 1 + 1 = Bx := by omega
                clear hee hfit hz
                go_wp2_with (go_at_call 33; refine (hC.out trivial).mono ?_; rintro e6 w6 ⟨a6, n6, c6, rfl, hI6, hN6, hb6⟩; have hP6 : Hid _ := PSt.below hP4.out hb6; obtain ⟨cM6, cR6, cP6⟩ := hP6.out.cells; obtain ⟨fP6, fR6⟩ := hP6.out.froz; replace hI6 : Hid (IsCoins w6 (.slice a6 n6 c6) (lst (sumP qs') 8)) := hI6; replace hN6 : Hid (NewV _ w6 (.slice a6 n6 c6)) := hN6)
                all_goals go_roundw
                case rel =>
                  refine ⟨i + 1, qs', e + m', a6, n6, c6, ap', cp', by omega, by omega, by go_num, hql2.out, hee2, ?_, hqm, PSt.setA hP6.out hI6.out (fun g hg => ?_)⟩
                  · have := hee2.out; omega
                  · have h1 := hN6.out g hg
                    rw [set_sz] at h1
                    have h2 := hP3.out.sz
                    exact ⟨h1.2, fun e8 => by have := (hP3.out.q.row.lt g e8).2; omega, by omega⟩
                case measure => (simp [intOf] <;> omega)
        · skip
          go_upto_region 16 with fail
          go_cut [7] from 58 to 60 (fun s7 wx => ∃ (Bx : Nat) (a : Option Addr) (c : Nat), s7 = .pointer (some ⟨Bx, 0, none⟩) ∧ wx.heap[Bx]? = some (.cells #[.int .u64 (n + 1), .slice a L0.length c] 71 (0, 0)) ∧ Hid (IsCoins wx (.slice a L0.length c) L0) ∧ Hid (∀ g, (Value.slice a L0.length c).ownBlock = some g → wr.heap.size ≤ g ∧ g < Bx) ∧ wr.heap.size ≤ Bx ∧ Bx < wx.heap.size ∧ Below wr.heap.size wr wx)
          case first =>
            go_wp2_with (go_at_call 32; refine (hO0.out _).mono ?_; rintro e w1 ⟨a, c, rfl, hI, hN, hb⟩; replace hI : Hid (IsCoins w1 (.slice a L0.length c) L0) := hI; replace hN : Hid (NewV wr w1 (.slice a L0.length c)) := hN)
            go_meet
            exact ⟨_, a, c, rfl, by (repeat (first | (with_reducible exact al_at (by simp [pad_size])) | (with_reducible refine Eq.trans (dr_blk _ _) ?_) | (with_reducible refine Eq.trans (al_old (by first | omega | (simp [pad_size]; done) | (simp [pad_size]; omega))) ?_) | (with_reducible refine Eq.trans (pad_block (by first | omega | (simp [pad_size]; done) | (simp [pad_size]; omega)) (by first | omega | (simp [pad_size]; done) | (simp [pad_size]; omega))) ?_) | (with_reducible assumption))), IsCoins.below hI.out (ba (Below.refl _ _) _), fun g hg => hN.out g hg, hb.size, by simp, ba hb _⟩
          case rest =>
            obtain ⟨Bx, av, cv, rfl, hBx, hIv, hNv, hBl, hBz, hb1⟩ := hcut
            have hP1 : Hid _ := PSt.below hP.out hb1
            obtain ⟨cM1, cR1, cP1⟩ := hP1.out.cells
            go_upto_region 19 with fail
            have hXX : ∃ (m' : Int) (a' : Option Addr) (c' : Nat) (l' : List Cn), wc.heap[Bx]? = some (.cells #[.int .u64 m', .slice a' l'.length c'] 71 (0, 0)) ∧ Hid (IsCoins wc (.slice a' l'.length c') l') ∧ Hid (PdM ⟨m', .slice a' l'.length c', l'⟩) ∧ Hid (∀ g, (Value.slice a' l'.length c').ownBlock = some g → wr.heap.size ≤ g ∧ g < wc.heap.size ∧ g ≠ Bx) ∧ Bx < wc.heap.size ∧ Below wr.heap.size wr wc := ⟨n + 1, av, cv, L0, hBx, hIv, hmk0.out _, fun g hg => by have := hNv.out g hg; omega, hBz, hb1⟩
            clear hBx hIv hNv hb1 hP1 cM1 cR1 cP1
            obtain ⟨m', a', c', l', hBx2, hI2, hM2, hN2, hBs, hb2⟩ := hXX
            have hP2 : Hid (PSt W wc #[.int .u8 k, .int .u32 s, .int .u16 n, .slice a1 n1 c1, .slice a2 0 c2] 5 s e aa na ca ap cp qs (lst (sumP qs) 8)) := PSt.below hP.out hb2
            have hPz := hP.out.sz
            have hPr : Hid (∀ g, (Value.slice ap qs.length cp).ownBlock = some g → g < wr.heap.size) := fun g hg => (hP.out.q.row.lt g hg).2
            obtain ⟨cM2, cR2, cP2⟩ := hP2.out.cells
            obtain ⟨cB, fB⟩ := cells_of_block hBx2
            go_upto_region 19 with fail
            have hBr : (Value.slice ap qs.length cp).ownBlock ≠ some Bx := fun e => by have := hPr.out Bx e; omega
            have hOwn : Hid (∀ g, (Value.slice a' l'.length c').ownBlock = some g → g < wc.heap.size + 1 ∧ (Value.slice ap qs.length cp).ownBlock ≠ some g ∧ W.heap.size + 1 + 1 < g) := fun g hg => by
              have h1 := hN2.out g hg
              exact ⟨by omega, fun e => by have := hPr.out g e; omega, by omega⟩
            have hwz := hP2.out.sz
            go_cut [7] from 82 to 87 (fun s7 wx => ∃ (ap' : Option Addr) (cp' : Nat) (qs' : List Pd), s7 = .pointer (some ⟨Bx, 0, none⟩) ∧ Hid (qs' = qs ++ [⟨m', .slice a' l'.length c', l'⟩]) ∧ Hid (PSt W wx #[.int .u8 k, .int .u32 s, .int .u16 n, .slice a1 n1 c1, .slice a2 0 c2] 5 s e aa na ca ap' cp' qs' (lst (sumP qs) 8)) ∧ wx.heap[Bx]? = some (.cells #[.int .u64 m', .slice a' l'.length c'] 71 (0, 0)) ∧ Bx < wx.heap.size)
            case first =>
              go_wp2_with (at_builtin; go_loud (refine per_app (W := W) (lo := W.heap.size + 1 + 1 + 1) (bp := W.heap.size + 1 + 1) (hP2.out.q.below (ba (Below.refl _ _) _)) (by simp; omega) (by simp; omega) (bt hP2.out.b (ba (Below.refl _ _) _)) (by omega) (by omega) ⟨m', .slice a' l'.length c', l'⟩ rfl (IsCL.below (IsCoins.cl hI2.out) (ba (Below.refl _ _) _)) (fun g hg => ⟨by have := (hOwn.out g hg).1; simp; omega, (hOwn.out g hg).2⟩) rfl _ _ rfl rfl rfl (by (repeat (first | (with_reducible exact al_at (by simp [pad_size])) | (with_reducible refine Eq.trans (dr_blk _ _) ?_) | (with_reducible refine Eq.trans (al_old (by first | omega | (simp [pad_size]; done) | (simp [pad_size]; omega))) ?_) | (with_reducible refine Eq.trans (pad_block (by first | omega | (simp [pad_size]; done) | (simp [pad_size]; omega)) (by first | omega | (simp [pad_size]; done) | (simp [pad_size]; omega))) ?_) | (with_reducible assumption)))) ?_; intro qs4 v4 w4 hO4 hQ4 hb4 hk4 hs4 hn4; obtain ⟨a4, c4, rfl⟩ := row_slice hQ4.row; have hp4 := (hk4 _ (by simp; omega) (hP2.out.notRow (Nat.le_refl _))).trans ((al_old hP2.out.sz).trans hP2.out.p); obtain ⟨cP4, fP4⟩ := cells_of_block hp4; replace hn4 : Hid _ := hn4; replace hk4 : Hid _ := hk4; replace hQ4 : Hid _ := hQ4; clear hp4))
              go_meet
              exact ⟨a4, c4, qs4, rfl, hO4, PSt.grow (PSt.below hP2.out (ba (Below.refl _ _) _)) hQ4.out hk4.out hs4 hb4 hn4.out, (set_blk (by omega)).trans ((hk4.out Bx (by simp; omega) hBr).trans ((al_old hBs).trans hBx2)), by rw [set_sz]; simp at hs4; omega⟩
            case rest =>
              obtain ⟨ap', cp', qs', rfl, hq', hP3, hBx3, hz3⟩ := hcut
              clear cM2 cR2 cP2 cB fB hP2 hOwn hBr hI2 hN2 hBx2
              have hqm : Hid (∀ q ∈ qs', PdM q) := fun q hq2 => by
                rw [hq'.out] at hq2
                rcases List.mem_append.1 hq2 with h | h
                · exact hq.out q h
                · rw [List.mem_singleton] at h; subst h; exact hM2.out
              have hql2 : Hid (qs'.length = 0 + 1) := by unfold Hid; rw [hq'.out]; simp; exact List.eq_nil_of_length_eq_zero hqh.out
              have hl17 : qs'.length ≤ 17 := by have := hql2.out; omega
              have hee2 : Hid (e + m' = s + lenS qs') := by unfold Hid; rw [hq'.out, lenS_snoc, ← Int.add_assoc, ← hee.out]
              have hm1 : 1 ≤ m' ∧ m' ≤ 65536 := by
                have h1 := hM2.out.r
                have h2 := hM2.out.n
                simp only [pdR, Bool.and_eq_true, decide_eq_true_eq] at h1
                exact ⟨h1.1, h2⟩
              have hlb : lenS qs' ≤ 17 * 65536 := by have := (made_len hqm.out).2; omega
              have hw7 : IntKind.u64.wrap (e + m') = e + m' := by rw [IntKind.wrap_u64]; omega
              have hP4 : Hid (PSt W (wc.setCell ⟨W.heap.size + 1 + 1, 2, none⟩ (.int .u64 (e + m'))) #[.int .u8 k, .int .u32 s, .int .u16 n, .slice a1 n1 c1, .slice a2 0 c2] 5 s (e + m') aa na ca ap' cp' qs' (lst (sumP qs) 8)) := PSt.setE hP3.out (e + m')
              have hfit := made_fits hqm.out (by omega)
              have hz := sumP_purse (fun q h => (hq.out q h).wf) (made_fits hq.out (by omega))
              have hC := addRC_gives (qs := qs) hz hM2.out (fun d hd => by have := hfit d hd; rw [hq'.out, tot_snoc] at this; exact this) _ hP4.out.a ((hP4.out.q.all _ (by rw [hq'.out]; simp)).1.lst hM2.out.right)
              rw [← hq'.out] at hC
              replace hC : Hid (True → _) := fun _ => hC
              obtain ⟨cM3, cR3, cP3⟩ := hP3.out.cells
              obtain ⟨fP3, fR3⟩ := hP3.out.froz
              obtain ⟨cB3, fB3⟩ := cells_of_block hBx3
              have hBp : ¬ Bx = W.heap.size + 1 + 1 := by omega
              have hBp' : ¬ W.heap.size + 1 + 1 = Bx := by omega
              clear hee hfit hz
              go_wp2_with (go_at_call 33; refine (hC.out trivial).mono ?_; rintro e6 w6 ⟨a6, n6, c6, rfl, hI6, hN6, hb6⟩; have hP6 : Hid _ := PSt.below hP4.out hb6; obtain ⟨cM6, cR6, cP6⟩ := hP6.out.cells; obtain ⟨fP6, fR6⟩ := hP6.out.froz; replace hI6 : Hid (IsCoins w6 (.slice a6 n6 c6) (lst (sumP qs') 8)) := hI6; replace hN6 : Hid (NewV _ w6 (.slice a6 n6 c6)) := hN6)
              all_goals go_roundw
              case rel =>
                refine ⟨0 + 1, qs', e + m', a6, n6, c6, ap', cp', by omega, by omega, by go_num, hql2.out, hee2, ?_, hqm, PSt.setA hP6.out hI6.out (fun g hg => ?_)⟩
                · have := hee2.out; omega
                · have h1 := hN6.out g hg
                  rw [set_sz] at h1
                  have h2 := hP3.out.sz
                  exact ⟨h1.2, fun e8 => by have := (hP3.out.q.row.lt g e8).2; omega, by omega⟩
              case measure => (simp [intOf] <;> omega)
end
end Go.Proofs.Ytjhjgncnadhbhaa

/- plan.Locked. -/
namespace Go.Proofs.Ytjhjgncnadhbhaa
open Go.RowKit
theorem vested_hid {x : Pn} {t : Int} (w : World) (h : PnAt w x) (ho : PnOk x) (hr : PnR x) (ht : 0 ≤ t ∧ t < 18446744073709551616) (hc : ∃ a n c, x.pv = .slice a n c ∧ n ≤ c) :
    Hid (∀ X, Below w.heap.size w X → Calls Try.prog 14 #[pnV x, .int .u64 t] X fun e w' => ∃ a n c, e = .returned (.slice a n c) ∧ IsCoins w' (.slice a n c) (lst (vestP x t) 8) ∧ Below X.heap.size X w') := fun X hX => vested_any X (h.below hX) ho hr ht hc
theorem restC_gives {va vb : Value} {z y : Nat → Cn} (hz : Purse z) (hy : Purse y) (w : World) (hA : IsCoins w va (lst z 8)) (hB : IsCoins w vb (lst y 8)) :
    Calls Try.prog 42 #[va, vb] w fun e w' => ∃ a n c, e = .returned (.slice a n c) ∧ IsCoins w' (.slice a n c) (lst (opP restI z y) 8) ∧ Below w.heap.size w w' := by
  refine (restC_any hz hy w hA hB).mono ?_
  rintro e w' ⟨u, rfl, h1, h2⟩
  obtain ⟨a, c, rfl⟩ := h1.sl
  exact ⟨a, _, c, rfl, h1, h2⟩
theorem restK {va vb : Value} {z y : Nat → Cn} {w : World} {Q : Ending → World → Prop} (hz : Purse z) (hy : Purse y) (hA : IsCoins w va (lst z 8)) (hB : IsCoins w vb (lst y 8))
    (hQ : ∀ e w', (∃ a n c, e = .returned (.slice a n c) ∧ IsCoins w' (.slice a n c) (lst (opP restI z y) 8) ∧ Below w.heap.size w w') → Q e w') : Calls Try.prog 42 #[va, vb] w Q :=
  (restC_gives hz hy w hA hB).mono hQ
set_option maxRecDepth 20000 in
set_option maxHeartbeats 8000000 in
theorem locked_any {x : Pn} {t : Int} (w : World) (h : PnAt w x) (ho : PnOk x) (hr : PnR x) (ht : 0 ≤ t ∧ t < 18446744073709551616) (hc : ∃ a n c, x.pv = .slice a n c ∧ n ≤ c) :
    GivesI 15 #[pnV x, .int .u64 t] w (lst (lockP x t) 8) := by
  have hpad := pads
  unfold GivesI
  have hV := vested_hid w h ho hr ht hc
  have hA : Hid (∀ X, Below w.heap.size w X → IsCoins X x.av (lst (amP x.al) 8)) := fun X hX => al_coins (h.below hX) hr
  have hz : Hid (Purse (amP x.al)) := amP_purse ho.w.al
  have hy : Hid (Purse (vestP x t)) := vest_purse ho hr t
  have hlk : Hid (opP restI (amP x.al) (vestP x t) = lockP x t) := rfl
  generalize lockP x t = LK at *
  generalize vestP x t = VP at *
  obtain ⟨k, s, u, av, pv, al, pl⟩ := x
  obtain ⟨h1, h2⟩ := h
  simp only at h1 h2 hV hA hz hy hlk
  obtain ⟨a1, c1, rfl⟩ := h1.slice
  obtain ⟨a2, c2, rfl⟩ := h2.slice
  clear ho hr hc h1 h2
  show Calls Try.prog 15 #[.agg #[.int .u8 k, .int .u64 s, .int .u64 u, .slice a1 al.length c1, .slice a2 pl.length c2], .int .u64 t] w _
  have hV : Hid (∀ X, Below w.heap.size w X → Calls Try.prog 14 #[.agg #[.int .u8 k, .int .u64 s, .int .u64 u, .slice a1 al.length c1, .slice a2 pl.length c2], .int .u64 t] X fun e w' => ∃ a n c, e = .returned (.slice a n c) ∧ IsCoins w' (.slice a n c) (lst VP 8) ∧ Below X.heap.size X w') := hV
  have hb : Below w.heap.size w (w.alloc (.cells #[.int .u8 k, .int .u64 s, .int .u64 u, .slice a1 al.length c1, .slice a2 pl.length c2] 33)) := ba (Below.refl _ _) _
  have hkeep : Hid (∀ X, Below (w.alloc (.cells #[.int .u8 k, .int .u64 s, .int .u64 u, .slice a1 al.length c1, .slice a2 pl.length c2] 33)).heap.size (w.alloc (.cells #[.int .u8 k, .int .u64 s, .int .u64 u, .slice a1 al.length c1, .slice a2 pl.length c2] 33)) X → X.cell? ⟨w.heap.size, 0, none⟩ = some (.int .u8 k) ∧ X.cell? ⟨w.heap.size, 1, none⟩ = some (.int .u64 s) ∧ X.cell? ⟨w.heap.size, 2, none⟩ = some (.int .u64 u) ∧ X.cell? ⟨w.heap.size, 3, none⟩ = some (.slice a1 al.length c1) ∧ X.cell? ⟨w.heap.size, 4, none⟩ = some (.slice a2 pl.length c2)) := fun X hX => by
    have q1 := (hX.block w.heap.size (by simp)).trans (al_at rfl)
    exact ⟨(cells_of_block q1).1 0, (cells_of_block q1).1 1, (cells_of_block q1).1 2, (cells_of_block q1).1 3, (cells_of_block q1).1 4⟩
  go_enter Try.func15, Try.ntmps15
  go_upto_region 1 with fail
  generalize w.alloc (.cells #[.int .u8 k, .int .u64 s, .int .u64 u, .slice a1 al.length c1, .slice a2 pl.length c2] 33) = U at *
  have hbb : Hid (∀ X, Below U.heap.size U X → Below w.heap.size w X) := fun X hX => bt hb hX
  go_region_held2 (fun X => X.cell? ⟨w.heap.size, 0, none⟩ = some (.int .u8 k) ∧ X.cell? ⟨w.heap.size, 1, none⟩ = some (.int .u64 s) ∧ X.cell? ⟨w.heap.size, 2, none⟩ = some (.int .u64 u) ∧ X.cell? ⟨w.heap.size, 3, none⟩ = some (.slice a1 al.length c1) ∧ X.cell? ⟨w.heap.size, 4, none⟩ = some (.slice a2 pl.length c2)) (exact hkeep.out _ (by (repeat (first | (with_reducible exact Below.refl _ _) | (with_reducible assumption) | (with_reducible apply bd) | (with_reducible apply ba) | (with_reducible refine bp ?_ (by first | omega | (simp [pad_size]; done) | (simp [pad_size]; omega)) _ _) | (with_reducible refine bs ?_ (by first | omega | (simp [pad_size]; done) | (simp [pad_size]; omega)) _) | (with_reducible refine bt ?_ (by assumption)))))) (first
    | (go_at_call 14; refine (hV.out _ (hbb.out _ (by (repeat (first | (with_reducible exact Below.refl _ _) | (with_reducible assumption) | (with_reducible apply bd) | (with_reducible apply ba) | (with_reducible refine bp ?_ (by first | omega | (simp [pad_size]; done) | (simp [pad_size]; omega)) _ _) | (with_reducible refine bs ?_ (by first | omega | (simp [pad_size]; done) | (simp [pad_size]; omega)) _) | (with_reducible refine bt ?_ (by assumption))))))).mono ?_; rintro e w1 ⟨a, n, c, rfl, hI, hb⟩; obtain ⟨m1, g1, d1, hm1, rfl⟩ := pad_of hb; (try rw [hpad.2.2.2.2.2] at hI); have hI : Hid (IsCoins _ (.slice a n c) (lst VP 8)) := hI; clear hb; simp [pad_size] at hm1)
    | (go_at_call 42; refine restK hz.out hy.out ?_ ?_ ?_; exact hA.out _ (hbb.out _ (by (repeat (first | (with_reducible exact Below.refl _ _) | (with_reducible assumption) | (with_reducible apply bd) | (with_reducible apply ba) | (with_reducible refine bp ?_ (by first | omega | (simp [pad_size]; done) | (simp [pad_size]; omega)) _ _) | (with_reducible refine bs ?_ (by first | omega | (simp [pad_size]; done) | (simp [pad_size]; omega)) _) | (with_reducible refine bt ?_ (by assumption)))))); exact IsCoins.below hI.out (by (repeat (first | (with_reducible exact Below.refl _ _) | (with_reducible assumption) | (with_reducible apply bd) | (with_reducible apply ba) | (with_reducible refine bp ?_ (by first | omega | (simp [pad_size]; done) | (simp [pad_size]; omega)) _ _) | (with_reducible refine bs ?_ (by first | omega | (simp [pad_size]; done) | (simp [pad_size]; omega)) _) | (with_reducible refine bt ?_ (by assumption))))); rintro e w1 ⟨a', n', c', rfl, hJ, hb⟩; obtain ⟨m2, g2, d2, hm2, rfl⟩ := pad_of hb; rw [hlk.out] at hJ; (try rw [hpad.2.2.2.2.2] at hJ); have hJ : Hid (IsCoins _ (.slice a' n' c') (lst LK 8)) := hJ; clear hb; simp [pad_size] at hm2))
  all_goals go_wp2_with fail
  all_goals go_ret
  all_goals exact ⟨_, _, _, rfl, IsCoins.below hJ.out (by (repeat (first | (with_reducible exact Below.refl _ _) | (with_reducible assumption) | (with_reducible apply bd) | (with_reducible apply ba) | (with_reducible refine bp ?_ (by first | omega | (simp [pad_size]; done) | (simp [pad_size]; omega)) _ _) | (with_reducible refine bs ?_ (by first | omega | (simp [pad_size]; done) | (simp [pad_size]; omega)) _) | (with_reducible refine bt ?_ (by assumption))))), hbb.out _ (by (repeat (first | (with_reducible exact Below.refl _ _) | (with_reducible assumption) | (with_reducible apply bd) | (with_reducible apply ba) | (with_reducible refine bp ?_ (by first | omega | (simp [pad_size]; done) | (simp [pad_size]; omega)) _ _) | (with_reducible refine bs ?_ (by first | omega | (simp [pad_size]; done) | (simp [pad_size]; omega)) _) | (with_reducible refine bt ?_ (by assumption)))))⟩
end Go.Proofs.Ytjhjgncnadhbhaa

/- Several texts, one behind the other: PL8, PL10, MA8, PL14, PO1, PO2, PO3, PO4, PY1. -/
/- plan.stepsRight. -/
namespace Go.Proofs.Ytjhjgncnadhbhaa
open Go.RowKit

theorem all8_le {f g : Nat → Int} {m : Int} (h : ∃ d, d < 8 ∧ m ≤ f d) (hg : ∀ d, d < 8 → g d < m) : all8 f g = false := by
  rw [Bool.eq_false_iff]
  intro e
  obtain ⟨d, hd, h1⟩ := h
  have := all8_true.1 e d hd
  have := hg d hd
  omega
theorem bool_ext {a b : Bool} (h : a = true ↔ b = true) : a = b := by
  cases a <;> cases b <;> simp_all
set_option maxRecDepth 20000 in
set_option maxHeartbeats 8000000 in
theorem steps_any {x : Pn} (w : World) (h : PnAt w x) (ho : PnOk x) (hal : rightFrom 0 x.al = true) :
    Calls Try.prog 39 #[pnV x] w fun e w' => e = .returned (.bool (stepsB x)) ∧ Below w.heap.size w w' := by
  have hsb : Hid (stepsB x = (decide (1 ≤ x.pl.length) && decide (x.pl.length ≤ 16) && x.pl.all pdR && (decide ((ovN x.pl x.s x.e).1 = x.pl.length) && decide ((ovN x.pl x.s x.e).2 = x.e)) && all8 (tot x.pl) (fun d => vl (amP x.al d)))) := by
    unfold Hid stepsB; rw [ovN_full ho.p]
  have hO : Hid (∀ X, Below w.heap.size w X → Calls Try.prog 34 #[pnV x, .int .u64 x.e] X fun e w' => e = .returned (.tuple #[.int .i64 ((ovN x.pl x.s x.e).1 : Int), .int .u64 (ovN x.pl x.s x.e).2]) ∧ Below X.heap.size X w') := fun X hX => over_any X (h.below hX) ho ho.w.e
  have hT : Hid (∀ X, Below w.heap.size w X → (∀ q ∈ x.pl, rightFrom 0 q.l = true) → Calls Try.prog 41 #[x.pv] X _) := fun X hX hr => together_any X (h.2.below hX) ho.p hr
  have hA : Hid (∀ X, Below w.heap.size w X → IsCoins X x.av (lst (amP x.al) 8)) := fun X hX => (h.1.below hX).lst hal
  have hyA := amP_purse ho.w.al
  have hvA : Hid (∀ d, d < 8 → vl (amP x.al d) < 115792089237316195423570985008687907853269984665640564039457584007913129639936) := fun d hd => (vl_lo hyA hd).2
  have hwf := ho.p
  obtain ⟨k, s, u, av, pv, al, pl⟩ := x
  obtain ⟨h1, h2⟩ := h
  simp only at h1 h2 hsb hO hT hA hyA hvA hwf ⊢
  obtain ⟨a1, c1, rfl⟩ := h1.slice
  obtain ⟨a2, c2, rfl⟩ := h2.slice
  generalize hK : stepsB ⟨k, s, u, .slice a1 al.length c1, .slice a2 pl.length c2, al, pl⟩ = K at *
  clear hK
  show Calls Try.prog 39 #[.agg #[.int .u8 k, .int .u64 s, .int .u64 u, .slice a1 al.length c1, .slice a2 pl.length c2]] w _
  have hO' : Hid (∀ X, Below w.heap.size w X → Calls Try.prog 34 #[.agg #[.int .u8 k, .int .u64 s, .int .u64 u, .slice a1 al.length c1, .slice a2 pl.length c2], .int .u64 u] X fun e w' => e = .returned (.tuple #[.int .i64 ((ovN pl s u).1 : Int), .int .u64 (ovN pl s u).2]) ∧ Below X.heap.size X w') := hO
  clear hO
  have hb0 : Below w.heap.size w (w.alloc (.cells #[.int .u8 k, .int .u64 s, .int .u64 u, .slice a1 al.length c1, .slice a2 pl.length c2] 33)) := ba (Below.refl _ _) _
  have hP0 : (w.alloc (.cells #[.int .u8 k, .int .u64 s, .int .u64 u, .slice a1 al.length c1, .slice a2 pl.length c2] 33)).heap.size = w.heap.size + 1 := by simp
  have hkeep : Hid (∀ X, Below (w.alloc (.cells #[.int .u8 k, .int .u64 s, .int .u64 u, .slice a1 al.length c1, .slice a2 pl.length c2] 33)).heap.size (w.alloc (.cells #[.int .u8 k, .int .u64 s, .int .u64 u, .slice a1 al.length c1, .slice a2 pl.length c2] 33)) X → X.cell? ⟨w.heap.size, 0, none⟩ = some (.int .u8 k) ∧ X.cell? ⟨w.heap.size, 1, none⟩ = some (.int .u64 s) ∧ X.cell? ⟨w.heap.size, 2, none⟩ = some (.int .u64 u) ∧ X.cell? ⟨w.heap.size, 3, none⟩ = some (.slice a1 al.length c1) ∧ X.cell? ⟨w.heap.size, 4, none⟩ = some (.slice a2 pl.length c2)) := fun X hX => by
    have q1 := (hX.block w.heap.size (by simp)).trans (al_at rfl)
    exact ⟨(cells_of_block q1).1 0, (cells_of_block q1).1 1, (cells_of_block q1).1 2, (cells_of_block q1).1 3, (cells_of_block q1).1 4⟩
  have hlen := h2.len
  have hlen' : (pl.length : Int) ≤ 9223372036854775807 := by omega
  have hP : Hid _ := pds_at h2
  clear h1 h2
  by_cases hlo : pl.length < 1
  · have hlo' : (pl.length : Int) < 1 := by omega
    have hr : Hid (K = false) := by unfold Hid; rw [hsb.out, decide_eq_false (by omega)]; simp
    clear hsb hO' hT hA hkeep
    go_enter Try.func39, Try.ntmps39
    go_wp2
    go_ret
    rw [hr.out]
    exact ⟨rfl, hb0⟩
  by_cases hhi : 16 < pl.length
  · have hhi' : (16 : Int) < (pl.length : Int) := by omega
    have hlo' : ¬ (pl.length : Int) < 1 := by omega
    have hr : Hid (K = false) := by unfold Hid; rw [hsb.out, decide_eq_false (by omega : ¬ pl.length ≤ 16)]; simp
    clear hsb hO' hT hA hkeep
    go_enter Try.func39, Try.ntmps39
    go_wp2
    go_ret
    rw [hr.out]
    exact ⟨rfl, hb0⟩
  have hlo' : ¬ (pl.length : Int) < 1 := by omega
  have hhi' : ¬ (16 : Int) < (pl.length : Int) := by omega
  rw [decide_eq_true (by omega : 1 ≤ pl.length), decide_eq_true (by omega : pl.length ≤ 16)] at hsb
  go_enter Try.func39, Try.ntmps39
  go_wp2
  generalize w.alloc (.cells #[.int .u8 k, .int .u64 s, .int .u64 u, .slice a1 al.length c1, .slice a2 pl.length c2] 33) = P at *
  go_loopw [22] (fun iv X => ∃ (i : Nat), i ≤ pl.length ∧ iv = .int .i64 (i : Int) ∧ Hid (∀ q ∈ pl.take i, pdR q = true) ∧ Below P.heap.size P X) (fun iv _ => pl.length - (intOf iv).toNat)
  case atStart => exact ⟨0, by omega, rfl, by unfold Hid; simp, Below.refl _ _⟩
  case round =>
    obtain ⟨i, hi, rfl, hc, hX⟩ := hrel
    have hXw : Below w.heap.size w wr := hb0.trans (hX.mono (by omega))
    by_cases hlt : i < pl.length
    · have hlt' : (i : Int) < (pl.length : Int) := by omega
      obtain ⟨blk, off, rfl, hbl, hA1⟩ := hP.out i pl[i] (List.getElem?_eq_getElem hlt)
      obtain ⟨d0, d1, hxc⟩ := hA1.below hbl hXw
      obtain ⟨a3, c3, ev1⟩ := hxc.slice
      have hq := hwf pl[i] (List.getElem_mem hlt)
      rw [ev1] at d1 hxc
      have hbx : Below wr.heap.size wr (wr.alloc (.cells #[.int .u64 pl[i].n, .slice a3 pl[i].l.length c3] 71)) := ba (Below.refl _ _) _
      have hS := some_any _ (hxc.below hbx) hq.l
      have hpd : Hid (pdR pl[i] = (decide (1 ≤ pl[i].n) && someB pl[i].l)) := rfl
      have hbad : Hid (pdR pl[i] = false → K = false) := by
        intro e
        rw [hsb.out]
        have : pl.all pdR = false := by
          rw [Bool.eq_false_iff]; intro e2
          have := List.all_eq_true.1 e2 pl[i] (List.getElem_mem hlt)
          rw [e] at this; cases this
        rw [this]; simp
      by_cases hn : pl[i].n < 1
      · have hr : Hid (K = false) := hbad.out (by rw [hpd.out, decide_eq_false (by omega)]; rfl)
        clear hsb hO' hT hA hkeep hS hpd hbad
        go_wp2
        go_ret
        rw [hr.out]
        exact ⟨rfl, ba hXw _⟩
      · cases hsm : someB pl[i].l
        · have hr : Hid (K = false) := hbad.out (by rw [hpd.out, hsm]; simp)
          rw [hsm] at hS
          clear hsb hO' hT hA hkeep hpd hbad hsm
          go_wp2_with (go_at_call 62; refine hS.mono ?_; rintro e w1 ⟨rfl, hb1⟩)
          go_ret
          rw [hr.out]
          exact ⟨rfl, bt (ba hXw _) hb1⟩
        · rw [hsm] at hS
          have hc2 : Hid (∀ q ∈ pl.take (i + 1), pdR q = true) := by
            intro q hq'
            rw [List.take_succ_eq_append_getElem hlt] at hq'
            rcases List.mem_append.1 hq' with h | h
            · exact hc.out q h
            · rw [List.mem_singleton] at h
              subst h
              rw [hpd.out, hsm, decide_eq_true (by omega : 1 ≤ pl[i].n)]; rfl
          clear hsb hO' hT hA hkeep hpd hbad hsm hc
          go_wp2_with (go_at_call 62; refine hS.mono ?_; rintro e w1 ⟨rfl, hb1⟩)
          all_goals go_roundw
          case rel => exact ⟨i + 1, by omega, by go_num, hc2, bt (ba hX _) hb1⟩
          case measure => (simp [intOf]; omega)
    · obtain rfl : i = pl.length := by omega
      rw [List.take_length] at hc
      have hall : pl.all pdR = true := List.all_eq_true.2 hc.out
      have hrt : Hid (∀ q ∈ pl, rightFrom 0 q.l = true) := fun q hq => by
        have := hc.out q hq
        simp only [pdR, Bool.and_eq_true] at this
        exact some_right this.2
      rw [hall] at hsb
      have hpur := sumP_purse hwf
      obtain ⟨k0, k1, k2, k3, k4⟩ := hkeep.out _ hX
      have hT' : Hid (∀ X, Below w.heap.size w X → Calls Try.prog 41 #[.slice a2 pl.length c2] X _) := fun X hX => hT.out X hX hrt.out
      have hle := ovN_le pl s u
      generalize ovN pl s u = o at *
      obtain ⟨o1, o2⟩ := o
      simp only at hsb hO' hle
      clear hall hT hrt hc hP
      by_cases hm : o1 = pl.length
      · subst hm
        by_cases he : o2 = u
        · subst he
          rw [decide_eq_true rfl, decide_eq_true rfl] at hsb
          by_cases hf : ∀ d, d < 8 → tot pl d < 115792089237316195423570985008687907853269984665640564039457584007913129639936
          · have hr : Hid (K = allB eqB (lst (sumP pl) 8) (lst (amP al) 8) 8) := by
              unfold Hid
              rw [hsb.out, allB_eq (hpur hf) hyA]
              simp [sumP_vl]
            have hz := hpur hf
            clear hsb hpur
            go_wp2_with (first
              | (go_at_call 34; refine (hO'.out _ hXw).mono ?_; rintro e w1 ⟨rfl, hb1⟩; have hX1 := bt hXw hb1; obtain ⟨m0, m1, m2, m3, m4⟩ := hkeep.out _ (bt hX hb1))
              | (go_at_call 41; refine (hT'.out _ hX1).mono ?_; rintro e w2 (⟨_, u, rfl, hu, hb2⟩ | ⟨hex, rfl, hb2⟩); rotate_left; obtain ⟨d, hd, e⟩ := hex; have := hf d hd; omega; obtain ⟨au, cu, rfl⟩ := hu.sl; have hu : Hid _ := hu; obtain ⟨n0, n1, n2, n3, n4⟩ := hkeep.out _ (bt (bt hX hb1) hb2))
              | (go_at_call 63; refine (sameP_raw hz hyA _ hu.out (hA.out _ (bt hX1 hb2))).mono ?_; rintro e w3 ⟨rfl, hb3⟩))
            go_ret
            rw [hr.out]
            exact ⟨by simp, bt (bt hX1 hb2) hb3⟩
          · have hr : Hid (K = false) := by
              unfold Hid
              have hex : ∃ d, d < 8 ∧ 115792089237316195423570985008687907853269984665640564039457584007913129639936 ≤ tot pl d := Classical.byContradiction fun hn => hf fun d hd => Int.not_le.1 fun e => hn ⟨d, hd, e⟩
              rw [hsb.out, all8_le hex hvA.out]
              simp
            go_wp2_with (first
              | (go_at_call 34; refine (hO'.out _ hXw).mono ?_; rintro e w1 ⟨rfl, hb1⟩; have hX1 := bt hXw hb1; obtain ⟨m0, m1, m2, m3, m4⟩ := hkeep.out _ (bt hX hb1))
              | (go_at_call 41; refine (hT'.out _ hX1).mono ?_; rintro e w2 (⟨_, u, rfl, hu, hb2⟩ | ⟨hex, rfl, hb2⟩); exact absurd ‹_› hf; obtain ⟨n0, n1, n2, n3, n4⟩ := hkeep.out _ (bt (bt hX hb1) hb2)))
            go_ret
            rw [hr.out]
            exact ⟨by simp, bt hX1 hb2⟩
        · have hr : Hid (K = false) := by unfold Hid; rw [hsb.out, decide_eq_false he]; simp
          have hd2 : (o2 == u) = false := by simpa using he
          go_wp2_with (first
            | (go_at_call 34; refine (hO'.out _ hXw).mono ?_; rintro e w1 ⟨rfl, hb1⟩; have hX1 := bt hXw hb1; obtain ⟨m0, m1, m2, m3, m4⟩ := hkeep.out _ (bt hX hb1))
            | (go_at_call 41; refine (hT'.out _ hX1).mono ?_; rintro e w2 (⟨_, u2, rfl, hu, hb2⟩ | ⟨_, rfl, hb2⟩); obtain ⟨n0, n1, n2, n3, n4⟩ := hkeep.out _ (bt (bt hX hb1) hb2); obtain ⟨au, cu, rfl⟩ := hu.sl; rotate_left; obtain ⟨n0, n1, n2, n3, n4⟩ := hkeep.out _ (bt (bt hX hb1) hb2)))
          all_goals go_wp2
          all_goals go_ret
          all_goals rw [hr.out]
          all_goals exact ⟨by simp, bt hX1 hb2⟩
      · have hr : Hid (K = false) := by unfold Hid; rw [hsb.out, decide_eq_false hm]; simp
        have hd2 : ((o1 : Int) == (pl.length : Int)) = false := by simp; omega
        have hd3 : ¬ (o1 : Int) = (pl.length : Int) := by omega
        go_wp2_with (first
          | (go_at_call 34; refine (hO'.out _ hXw).mono ?_; rintro e w1 ⟨rfl, hb1⟩; have hX1 := bt hXw hb1; obtain ⟨m0, m1, m2, m3, m4⟩ := hkeep.out _ (bt hX hb1))
          | (go_at_call 41; refine (hT'.out _ hX1).mono ?_; rintro e w2 (⟨_, u2, rfl, hu, hb2⟩ | ⟨_, rfl, hb2⟩); obtain ⟨n0, n1, n2, n3, n4⟩ := hkeep.out _ (bt (bt hX hb1) hb2); obtain ⟨au, cu, rfl⟩ := hu.sl; rotate_left; obtain ⟨n0, n1, n2, n3, n4⟩ := hkeep.out _ (bt (bt hX hb1) hb2)))
        all_goals go_wp2
        all_goals go_ret
        all_goals rw [hr.out]
        all_goals exact ⟨by simp, bt hX1 hb2⟩
end Go.Proofs.Ytjhjgncnadhbhaa

/- plan.Right. -/
namespace Go.Proofs.Ytjhjgncnadhbhaa
open Go.RowKit
section
variable {s t : Int} {a1 a2 : Option Addr} {c1 c2 : Nat} {al : List Cn} {pl : List Pd}
set_option maxHeartbeats 4000000 in
theorem planRight_2 (w : World) (h : PnAt w ⟨2, s, t, .slice a1 al.length c1, .slice a2 pl.length c2, al, pl⟩) (hw : PnWf ⟨2, s, t, .slice a1 al.length c1, .slice a2 pl.length c2, al, pl⟩) :
    Calls Try.prog 12 #[.agg #[.int .u8 2, .int .u64 s, .int .u64 t, .slice a1 al.length c1, .slice a2 pl.length c2]] w fun e w' => e = .returned (.bool (s == 0 && givesB ⟨2, s, t, .slice a1 al.length c1, .slice a2 pl.length c2, al, pl⟩ && pl.isEmpty)) ∧ Below w.heap.size w w' := by
  have hb : Below w.heap.size w (w.alloc (.cells #[.int .u8 2, .int .u64 s, .int .u64 t, .slice a1 al.length c1, .slice a2 pl.length c2] 33)) := ba (Below.refl _ _) _
  have hG := gives_any _ (h.below hb) hw
  have hG' : Calls Try.prog 38 #[.agg #[.int .u8 2, .int .u64 s, .int .u64 t, .slice a1 al.length c1, .slice a2 pl.length c2]] _ _ := hG
  have hkeep : Hid (∀ X, Below (w.alloc (.cells #[.int .u8 2, .int .u64 s, .int .u64 t, .slice a1 al.length c1, .slice a2 pl.length c2] 33)).heap.size (w.alloc (.cells #[.int .u8 2, .int .u64 s, .int .u64 t, .slice a1 al.length c1, .slice a2 pl.length c2] 33)) X → X.cell? ⟨w.heap.size, 4, none⟩ = some (.slice a2 pl.length c2)) := fun X hX => by
    have q1 := (hX.block w.heap.size (by simp)).trans (al_at rfl)
    exact (cells_of_block q1).1 4
  have hpn := h.2.len
  clear hG
  by_cases hs : s = 0
  · subst hs
    cases hg : givesB ⟨2, 0, t, .slice a1 al.length c1, .slice a2 pl.length c2, al, pl⟩
    · rw [hg] at hG'
      go_enter Try.func12, Try.ntmps12
      go_wp2_with (go_at_call 38; refine hG'.mono ?_; rintro e w1 ⟨rfl, hb1⟩)
      go_ret
      exact ⟨by simp, bt hb hb1⟩
    · rw [hg] at hG'
      go_enter Try.func12, Try.ntmps12
      go_wp2_with (go_at_call 38; refine hG'.mono ?_; rintro e w1 ⟨rfl, hb1⟩; have q := hkeep.out _ hb1)
      go_ret
      refine ⟨?_, bt hb hb1⟩
      cases pl with
      | nil => simp
      | cons y pl => simp; omega
  · skip
    have hd : (s == 0) = false := by simpa using hs
    clear hG' hkeep
    go_enter Try.func12, Try.ntmps12
    go_wp2
    go_ret
    exact ⟨by simp [hd], hb⟩
set_option maxHeartbeats 4000000 in
theorem planRight_4 (w : World) (h : PnAt w ⟨4, s, t, .slice a1 al.length c1, .slice a2 pl.length c2, al, pl⟩) (hw : PnWf ⟨4, s, t, .slice a1 al.length c1, .slice a2 pl.length c2, al, pl⟩) :
    Calls Try.prog 12 #[.agg #[.int .u8 4, .int .u64 s, .int .u64 t, .slice a1 al.length c1, .slice a2 pl.length c2]] w fun e w' => e = .returned (.bool (s == 0 && t == 0 && givesB ⟨4, s, t, .slice a1 al.length c1, .slice a2 pl.length c2, al, pl⟩ && pl.isEmpty)) ∧ Below w.heap.size w w' := by
  have hb : Below w.heap.size w (w.alloc (.cells #[.int .u8 4, .int .u64 s, .int .u64 t, .slice a1 al.length c1, .slice a2 pl.length c2] 33)) := ba (Below.refl _ _) _
  have hG := gives_any _ (h.below hb) hw
  have hG' : Calls Try.prog 38 #[.agg #[.int .u8 4, .int .u64 s, .int .u64 t, .slice a1 al.length c1, .slice a2 pl.length c2]] _ _ := hG
  have hkeep : Hid (∀ X, Below (w.alloc (.cells #[.int .u8 4, .int .u64 s, .int .u64 t, .slice a1 al.length c1, .slice a2 pl.length c2] 33)).heap.size (w.alloc (.cells #[.int .u8 4, .int .u64 s, .int .u64 t, .slice a1 al.length c1, .slice a2 pl.length c2] 33)) X → X.cell? ⟨w.heap.size, 4, none⟩ = some (.slice a2 pl.length c2)) := fun X hX => by
    have q1 := (hX.block w.heap.size (by simp)).trans (al_at rfl)
    exact (cells_of_block q1).1 4
  have hpn := h.2.len
  clear hG
  by_cases hs : s = 0
  · subst hs
    by_cases ht : t = 0
    · subst ht
      cases hg : givesB ⟨4, 0, 0, .slice a1 al.length c1, .slice a2 pl.length c2, al, pl⟩
      · rw [hg] at hG'
        go_enter Try.func12, Try.ntmps12
        go_wp2_with (go_at_call 38; refine hG'.mono ?_; rintro e w1 ⟨rfl, hb1⟩)
        go_ret
        exact ⟨by simp, bt hb hb1⟩
      · rw [hg] at hG'
        go_enter Try.func12, Try.ntmps12
        go_wp2_with (go_at_call 38; refine hG'.mono ?_; rintro e w1 ⟨rfl, hb1⟩; have q := hkeep.out _ hb1)
        go_ret
        refine ⟨?_, bt hb hb1⟩
        cases pl with
        | nil => simp
        | cons y pl => simp; omega
    · skip
      have hd : (t == 0) = false := by simpa using ht
      clear hG' hkeep
      go_enter Try.func12, Try.ntmps12
      go_wp2
      go_ret
      exact ⟨by simp [hd], hb⟩
  · skip
    have hd : (s == 0) = false := by simpa using hs
    clear hG' hkeep
    go_enter Try.func12, Try.ntmps12
    go_wp2
    go_ret
    exact ⟨by simp [hd], hb⟩
set_option maxHeartbeats 4000000 in
theorem planRight_3 (w : World) (h : PnAt w ⟨3, s, t, .slice a1 al.length c1, .slice a2 pl.length c2, al, pl⟩) (ho : PnOk ⟨3, s, t, .slice a1 al.length c1, .slice a2 pl.length c2, al, pl⟩) :
    Calls Try.prog 12 #[.agg #[.int .u8 3, .int .u64 s, .int .u64 t, .slice a1 al.length c1, .slice a2 pl.length c2]] w fun e w' => e = .returned (.bool (givesB ⟨3, s, t, .slice a1 al.length c1, .slice a2 pl.length c2, al, pl⟩ && stepsB ⟨3, s, t, .slice a1 al.length c1, .slice a2 pl.length c2, al, pl⟩)) ∧ Below w.heap.size w w' := by
  have hb : Below w.heap.size w (w.alloc (.cells #[.int .u8 3, .int .u64 s, .int .u64 t, .slice a1 al.length c1, .slice a2 pl.length c2] 33)) := ba (Below.refl _ _) _
  have hG := gives_any _ (h.below hb) ho.w
  have hG' : Calls Try.prog 38 #[.agg #[.int .u8 3, .int .u64 s, .int .u64 t, .slice a1 al.length c1, .slice a2 pl.length c2]] _ _ := hG
  have hkeep : Hid (∀ X, Below (w.alloc (.cells #[.int .u8 3, .int .u64 s, .int .u64 t, .slice a1 al.length c1, .slice a2 pl.length c2] 33)).heap.size (w.alloc (.cells #[.int .u8 3, .int .u64 s, .int .u64 t, .slice a1 al.length c1, .slice a2 pl.length c2] 33)) X → X.cell? ⟨w.heap.size, 0, none⟩ = some (.int .u8 3) ∧ X.cell? ⟨w.heap.size, 1, none⟩ = some (.int .u64 s) ∧ X.cell? ⟨w.heap.size, 2, none⟩ = some (.int .u64 t) ∧ X.cell? ⟨w.heap.size, 3, none⟩ = some (.slice a1 al.length c1) ∧ X.cell? ⟨w.heap.size, 4, none⟩ = some (.slice a2 pl.length c2)) := fun X hX => by
    have q1 := (hX.block w.heap.size (by simp)).trans (al_at rfl)
    exact ⟨(cells_of_block q1).1 0, (cells_of_block q1).1 1, (cells_of_block q1).1 2, (cells_of_block q1).1 3, (cells_of_block q1).1 4⟩
  clear hG
  cases hg : givesB ⟨3, s, t, .slice a1 al.length c1, .slice a2 pl.length c2, al, pl⟩
  · rw [hg] at hG'
    clear hkeep
    go_enter Try.func12, Try.ntmps12
    go_wp2_with (go_at_call 38; refine hG'.mono ?_; rintro e w1 ⟨rfl, hb1⟩)
    go_ret
    exact ⟨by simp, bt hb hb1⟩
  · have hS : Hid (∀ X, Below w.heap.size w X → Calls Try.prog 39 #[.agg #[.int .u8 3, .int .u64 s, .int .u64 t, .slice a1 al.length c1, .slice a2 pl.length c2]] X fun e w' => e = .returned (.bool (stepsB ⟨3, s, t, .slice a1 al.length c1, .slice a2 pl.length c2, al, pl⟩)) ∧ Below X.heap.size X w') := fun X hX => steps_any X (h.below hX) ho (gives_right hg)
    rw [hg] at hG'
    generalize stepsB ⟨3, s, t, .slice a1 al.length c1, .slice a2 pl.length c2, al, pl⟩ = K at *
    go_enter Try.func12, Try.ntmps12
    go_wp2_with (first
      | (go_at_call 38; refine hG'.mono ?_; rintro e w1 ⟨rfl, hb1⟩; obtain ⟨q0, q1, q2, q3, q4⟩ := hkeep.out _ hb1)
      | (go_at_call 39; refine (hS.out _ (bt hb hb1)).mono ?_; rintro e w2 ⟨rfl, hb2⟩))
    go_ret
    exact ⟨by simp, bt (bt hb hb1) hb2⟩
set_option maxHeartbeats 4000000 in
theorem planRight_5 (w : World) (h : PnAt w ⟨5, s, t, .slice a1 al.length c1, .slice a2 pl.length c2, al, pl⟩) (ho : PnOk ⟨5, s, t, .slice a1 al.length c1, .slice a2 pl.length c2, al, pl⟩) :
    Calls Try.prog 12 #[.agg #[.int .u8 5, .int .u64 s, .int .u64 t, .slice a1 al.length c1, .slice a2 pl.length c2]] w fun e w' => e = .returned (.bool (givesB ⟨5, s, t, .slice a1 al.length c1, .slice a2 pl.length c2, al, pl⟩ && stepsB ⟨5, s, t, .slice a1 al.length c1, .slice a2 pl.length c2, al, pl⟩)) ∧ Below w.heap.size w w' := by
  have hb : Below w.heap.size w (w.alloc (.cells #[.int .u8 5, .int .u64 s, .int .u64 t, .slice a1 al.length c1, .slice a2 pl.length c2] 33)) := ba (Below.refl _ _) _
  have hG := gives_any _ (h.below hb) ho.w
  have hG' : Calls Try.prog 38 #[.agg #[.int .u8 5, .int .u64 s, .int .u64 t, .slice a1 al.length c1, .slice a2 pl.length c2]] _ _ := hG
  have hkeep : Hid (∀ X, Below (w.alloc (.cells #[.int .u8 5, .int .u64 s, .int .u64 t, .slice a1 al.length c1, .slice a2 pl.length c2] 33)).heap.size (w.alloc (.cells #[.int .u8 5, .int .u64 s, .int .u64 t, .slice a1 al.length c1, .slice a2 pl.length c2] 33)) X → X.cell? ⟨w.heap.size, 0, none⟩ = some (.int .u8 5) ∧ X.cell? ⟨w.heap.size, 1, none⟩ = some (.int .u64 s) ∧ X.cell? ⟨w.heap.size, 2, none⟩ = some (.int .u64 t) ∧ X.cell? ⟨w.heap.size, 3, none⟩ = some (.slice a1 al.length c1) ∧ X.cell? ⟨w.heap.size, 4, none⟩ = some (.slice a2 pl.length c2)) := fun X hX => by
    have q1 := (hX.block w.heap.size (by simp)).trans (al_at rfl)
    exact ⟨(cells_of_block q1).1 0, (cells_of_block q1).1 1, (cells_of_block q1).1 2, (cells_of_block q1).1 3, (cells_of_block q1).1 4⟩
  clear hG
  cases hg : givesB ⟨5, s, t, .slice a1 al.length c1, .slice a2 pl.length c2, al, pl⟩
  · rw [hg] at hG'
    clear hkeep
    go_enter Try.func12, Try.ntmps12
    go_wp2_with (go_at_call 38; refine hG'.mono ?_; rintro e w1 ⟨rfl, hb1⟩)
    go_ret
    exact ⟨by simp, bt hb hb1⟩
  · have hS : Hid (∀ X, Below w.heap.size w X → Calls Try.prog 39 #[.agg #[.int .u8 5, .int .u64 s, .int .u64 t, .slice a1 al.length c1, .slice a2 pl.length c2]] X fun e w' => e = .returned (.bool (stepsB ⟨5, s, t, .slice a1 al.length c1, .slice a2 pl.length c2, al, pl⟩)) ∧ Below X.heap.size X w') := fun X hX => steps_any X (h.below hX) ho (gives_right hg)
    rw [hg] at hG'
    generalize stepsB ⟨5, s, t, .slice a1 al.length c1, .slice a2 pl.length c2, al, pl⟩ = K at *
    go_enter Try.func12, Try.ntmps12
    go_wp2_with (first
      | (go_at_call 38; refine hG'.mono ?_; rintro e w1 ⟨rfl, hb1⟩; obtain ⟨q0, q1, q2, q3, q4⟩ := hkeep.out _ hb1)
      | (go_at_call 39; refine (hS.out _ (bt hb hb1)).mono ?_; rintro e w2 ⟨rfl, hb2⟩))
    go_ret
    exact ⟨by simp, bt (bt hb hb1) hb2⟩
end
theorem planRight_any {x : Pn} (w : World) (h : PnAt w x) (ho : PnOk x) :
    Calls Try.prog 12 #[pnV x] w fun e w' => e = .returned (.bool (rightB x)) ∧ Below w.heap.size w w' := by
  obtain ⟨k, s, t, av, pv, al, pl⟩ := x
  obtain ⟨a1, c1, e1⟩ := h.1.slice
  obtain ⟨a2, c2, e2⟩ := h.2.slice
  simp only at e1 e2
  subst e1 e2
  have hk := ho.w.k
  simp only at hk
  by_cases h0 : k = 0
  · subst h0
    exact planRight_0 w h
  by_cases h1 : k = 1
  · subst h1
    exact planRight_1 w h ho.w
  by_cases h2 : k = 2
  · subst h2
    exact planRight_2 w h ho.w
  by_cases h3 : k = 3
  · subst h3
    exact planRight_3 w h ho
  by_cases h4 : k = 4
  · subst h4
    exact planRight_4 w h ho.w
  by_cases h5 : k = 5
  · subst h5
    exact planRight_5 w h ho
  have e : rightB ⟨k, s, t, .slice a1 al.length c1, .slice a2 pl.length c2, al, pl⟩ = false := by
    unfold rightB rightN
    simp only
    rw [if_neg (by omega), if_neg h0, if_neg h1, if_neg h2, if_neg h4]
  rw [e]
  exact planRight_6 k (by omega) hk.2 w _ _
end Go.Proofs.Ytjhjgncnadhbhaa

/- jointurelaw06.plans of any kind; what a plan that was made answers. -/
namespace Go.Proofs.Ytjhjgncnadhbhaa
open Go.ChangeShapes Go.WideShapes Go.ChangeAt Go.RowKit

theorem plans6_any {w : World} {y : Md} (h : MdIn w y) (hf : fewM y = true) (W : World) (hB : Below w.heap.size w W) :
    Calls Try.prog 8 #[mdV y] W fun e w' => MadeOk W w' e := by
  obtain ⟨k, s, n, a1, n1, c1, a2, n2, c2, l, ps⟩ := y
  have hk := h.k
  have hn1 : n1 ≤ 20 := by
    simp only [fewM, Bool.and_eq_true, decide_eq_true_eq] at hf
    exact hf.1.1
  simp only at hk
  have h6 : k % 6 = 0 ∨ k % 6 = 1 ∨ k % 6 = 2 ∨ k % 6 = 3 ∨ k % 6 = 4 ∨ k % 6 = 5 := by omega
  rcases h6 with h6 | h6 | h6 | h6 | h6 | h6
  · exact plans_0 h h6 hn1 W hB
  · exact plans_1 h h6 hn1 W hB
  · exact plans_2 h h6 hn1 W hB
  · exact plans_3 h h6 hf W hB
  · exact plans_4 h h6 hn1 W hB
  · exact plans_5 h h6 hf W hB
/-- What holds of a plan that was made, where it is. -/
structure MF (X : World) (x : Pn) : Prop where
  at' : PnAt X x
  ok : PnOk x
  rb : rightB x = true
  cap : ∃ a n c, x.pv = .slice a n c ∧ n ≤ c
theorem MF.below {X Y : World} {x : Pn} (h : MF X x) (hb : Below X.heap.size X Y) : MF Y x := ⟨h.at'.below hb, h.ok, h.rb, h.cap⟩
theorem plansS_any {w : World} {y : Md} (h : MdIn w y) (hf : fewM y = true) (W : World) (hB : Below w.heap.size w W) :
    Calls Try.prog 8 #[mdV y] W fun e w' => ∃ (k s u : Int) (a1 : Option Addr) (n1 c1 : Nat) (a2 : Option Addr) (n2 c2 : Nat) (x : Pn), e = .returned (.agg #[.int .u8 k, .int .u64 s, .int .u64 u, .slice a1 n1 c1, .slice a2 n2 c2]) ∧ Hid (x = ⟨k, s, u, .slice a1 n1 c1, .slice a2 n2 c2, x.al, x.pl⟩) ∧ Hid (MF w' x) ∧ Below W.heap.size W w' := by
  refine (plans6_any h hf W hB).mono ?_
  rintro e w' ⟨⟨k, s, u, av, pv, al, pl⟩, rfl, h1, h2, h3, h4, h5⟩
  have h1' := h1
  obtain ⟨i1, i2⟩ := h1
  simp only at i1 i2
  obtain ⟨a1, c1, rfl⟩ := i1.slice
  obtain ⟨a2, c2, rfl⟩ := i2.slice
  exact ⟨k, s, u, a1, _, c1, a2, _, c2, ⟨k, s, u, .slice a1 al.length c1, .slice a2 pl.length c2, al, pl⟩, rfl, rfl, ⟨h1', h2, h3, h4⟩, h5⟩
theorem coins_len {W : World} {a : Option Addr} {n c : Nat} {l : List Cn} (h : IsCoins W (.slice a n c) l) : n = l.length := by
  obtain ⟨_, _, e⟩ := h.sl
  injection e with _ e2 _
theorem addK {va vb : Value} {z y : Nat → Cn} {w : World} {Q : Ending → World → Prop} (hz : Purse z) (hy : Purse y) (hf : ∀ d, d < 8 → vl (z d) + vl (y d) < 115792089237316195423570985008687907853269984665640564039457584007913129639936) (hA : IsCoins w va (lst z 8)) (hB : IsCoins w vb (lst y 8))
    (hQ : ∀ e w', (∃ a n c, e = .returned (.tuple #[.slice a n c, .bool true]) ∧ IsCoins w' (.slice a n c) (lst (opP (· + ·) z y) 8) ∧ Below w.heap.size w w') → Q e w') : Calls Try.prog 33 #[va, vb] w Q :=
  (addRC_fit hz hy hf w hA hB).mono fun e w' ⟨u, h1, h2, h3⟩ => hQ e w' (by obtain ⟨a, c, rfl⟩ := h2.sl; exact ⟨a, _, c, h1, h2, h3⟩)
theorem rightK {v : Value} {l : List Cn} {w : World} {Q : Ending → World → Prop} (h : IsCL w v l) (hwf : ∀ x ∈ l, CnWf x) (hr : rightFrom 0 l = true) (hQ : ∀ e w', (e = .returned (.bool true) ∧ Below w.heap.size w w') → Q e w') : Calls Try.prog 78 #[v] w Q := by
  have := rightRCL_any w h hwf
  rw [hr] at this
  exact this.mono hQ
theorem hidI {W : World} {v : Value} {l : List Cn} (h : IsCoins W v l) : Hid (IsCoins W v l) := h
theorem sameK {va vb : Value} {p q : List Cn} {w : World} {Q : Ending → World → Prop} (hA : IsCL w va p) (hB : IsCL w vb q)
    (hQ : ∀ e w', (e = .returned (.bool (clB p q)) ∧ Below w.heap.size w w') → Q e w') : Calls Try.prog 13 #[va, vb] w Q :=
  (sameCL_any w hA hB).mono hQ
/-- What of a plan that was made is free, and locked. -/
theorem mf_vested {x : Pn} {t : Int} {X : World} (h : MF X x) (ht : 0 ≤ t ∧ t < 18446744073709551616) : Hid (∀ Y, Below X.heap.size X Y → Calls Try.prog 14 #[pnV x, .int .u64 t] Y fun e w' => ∃ a c, e = .returned (.slice a (lst (vestP x t) 8).length c) ∧ IsCoins w' (.slice a (lst (vestP x t) 8).length c) (lst (vestP x t) 8) ∧ Below Y.heap.size Y w') := fun Y hY => by
  refine Calls.mono (vested_any Y (h.at'.below hY) h.ok (right_facts h.rb) ht h.cap) ?_
  rintro e w' ⟨a, n, c, rfl, h1, h2⟩
  obtain rfl := coins_len h1
  exact ⟨a, c, rfl, h1, h2⟩
theorem mf_locked {x : Pn} {t : Int} {X : World} (h : MF X x) (ht : 0 ≤ t ∧ t < 18446744073709551616) : Hid (∀ Y, Below X.heap.size X Y → Calls Try.prog 15 #[pnV x, .int .u64 t] Y fun e w' => ∃ a c, e = .returned (.slice a (lst (lockP x t) 8).length c) ∧ IsCoins w' (.slice a (lst (lockP x t) 8).length c) (lst (lockP x t) 8) ∧ Below Y.heap.size Y w') := fun Y hY => by
  refine Calls.mono (locked_any Y (h.at'.below hY) h.ok (right_facts h.rb) ht h.cap) ?_
  rintro e w' ⟨a, n, c, rfl, h1, h2⟩
  obtain rfl := coins_len h1
  exact ⟨a, c, rfl, h1, h2⟩
theorem mf_right {x : Pn} {X : World} (h : MF X x) : Hid (∀ Y, Below X.heap.size X Y → Calls Try.prog 12 #[pnV x] Y fun e w' => e = .returned (.bool true) ∧ Below Y.heap.size Y w') := fun Y hY => by
  have := planRight_any Y (h.at'.below hY) h.ok
  rwa [h.rb] at this
theorem mf_coins {x : Pn} {X : World} (h : MF X x) : Hid (∀ Y, Below X.heap.size X Y → IsCoins Y x.av (lst (amP x.al) 8)) := fun Y hY => al_coins (h.at'.below hY) (right_facts h.rb)
section
variable {H : Type} {enc : TypeId × Value → H} {w : World} {base : Nat} {spare : Nat → Bool} {held : Bool} {fuel : Nat} {cs : List Value} {x : DataW H × List MemPlace}
theorem u64_in {n : Int} (h : DataW.trod enc Try.prog w base spare held fuel 28 [.int .u64 n] = some x) : 0 ≤ n ∧ n < 18446744073709551616 := by
  obtain ⟨d, ed, -, wd⟩ := DataW.trod_int Try.underlying28 h
  simp at ed
  subst ed
  have := bounds_u64 wd
  omega
end
end Go.Proofs.Ytjhjgncnadhbhaa

/- The reference's Same of plans. -/
namespace Go.Proofs.Ytjhjgncnadhbhaa
open Go.RowKit

set_option maxRecDepth 20000 in
set_option maxHeartbeats 16000000 in
theorem sameR6_any {W : World} {x y : Pn} (hx : PnAt W x) (hy : PnAt W y) :
    Calls Try.prog 10 #[pnV x, pnV y] W fun e w' => e = .returned (.bool (pnB x y)) ∧ Below W.heap.size W w' := by
  have hpad := pads
  obtain ⟨k, s, t, av, pv, al, pl⟩ := x
  obtain ⟨k', s', t', av', pv', al', pl'⟩ := y
  obtain ⟨hx1, hx2⟩ := hx
  obtain ⟨hy1, hy2⟩ := hy
  simp only at hx1 hx2 hy1 hy2
  obtain ⟨a1, c1, rfl⟩ := hx1.slice
  obtain ⟨a2, c2, rfl⟩ := hx2.slice
  obtain ⟨a3, c3, rfl⟩ := hy1.slice
  obtain ⟨a4, c4, rfl⟩ := hy2.slice
  show Calls Try.prog 10 #[.agg #[.int .u8 k, .int .u64 s, .int .u64 t, .slice a1 al.length c1, .slice a2 pl.length c2], .agg #[.int .u8 k', .int .u64 s', .int .u64 t', .slice a3 al'.length c3, .slice a4 pl'.length c4]] W _
  have hb : Below W.heap.size W ((W.alloc (.cells #[.int .u8 k, .int .u64 s, .int .u64 t, .slice a1 al.length c1, .slice a2 pl.length c2] 33)).alloc (.cells #[.int .u8 k', .int .u64 s', .int .u64 t', .slice a3 al'.length c3, .slice a4 pl'.length c4] 33)) := ba (ba (Below.refl _ _) _) _
  have hE := sameCL_any _ (hx1.below hb) (hy1.below hb)
  have hkeep : Hid (∀ X, Below ((W.alloc (.cells #[.int .u8 k, .int .u64 s, .int .u64 t, .slice a1 al.length c1, .slice a2 pl.length c2] 33)).alloc (.cells #[.int .u8 k', .int .u64 s', .int .u64 t', .slice a3 al'.length c3, .slice a4 pl'.length c4] 33)).heap.size ((W.alloc (.cells #[.int .u8 k, .int .u64 s, .int .u64 t, .slice a1 al.length c1, .slice a2 pl.length c2] 33)).alloc (.cells #[.int .u8 k', .int .u64 s', .int .u64 t', .slice a3 al'.length c3, .slice a4 pl'.length c4] 33)) X → X.cell? ⟨W.heap.size, 4, none⟩ = some (.slice a2 pl.length c2) ∧ X.cell? ⟨W.heap.size + 1, 4, none⟩ = some (.slice a4 pl'.length c4)) := fun X hX => by
    have q1 := (hX.block W.heap.size (by simp; omega)).trans (al_old (by simp))
    have q2 := (hX.block (W.heap.size + 1) (by simp)).trans (al_at (by simp))
    rw [al_at rfl] at q1
    exact ⟨(cells_of_block q1).1 4, (cells_of_block q2).1 4⟩
  have hlx := hx2.len
  have hly := hy2.len
  have hlx' : (pl.length : Int) ≤ 9223372036854775807 := by omega
  have hP1 : Hid _ := pds_at hx2
  have hP2 : Hid _ := pds_at hy2
  have hres : Hid (pnB ⟨k, s, t, .slice a1 al.length c1, .slice a2 pl.length c2, al, pl⟩ ⟨k', s', t', .slice a3 al'.length c3, .slice a4 pl'.length c4, al', pl'⟩ = (k == k' && s == s' && t == t' && clB al al' && plB pl pl')) := rfl
  generalize hK : pnB ⟨k, s, t, .slice a1 al.length c1, .slice a2 pl.length c2, al, pl⟩ ⟨k', s', t', .slice a3 al'.length c3, .slice a4 pl'.length c4, al', pl'⟩ = K at *
  clear hK hx1 hx2 hy1 hy2
  by_cases hk : k = k'
  case neg =>
    have hd : (k == k') = false := by simpa using hk
    have hf : Hid (K = false) := by unfold Hid; rw [hres.out, hd]; simp
    clear hres hE hkeep
    go_enter Try.func10, Try.ntmps10
    go_wp2
    go_ret
    rw [hf.out]
    exact ⟨by simp, hb⟩
  subst hk
  by_cases hs : s = s'
  case neg =>
    have hd : (s == s') = false := by simpa using hs
    have hf : Hid (K = false) := by unfold Hid; rw [hres.out, hd]; simp
    clear hres hE hkeep
    go_enter Try.func10, Try.ntmps10
    go_wp2
    go_ret
    rw [hf.out]
    exact ⟨by simp, hb⟩
  subst hs
  by_cases ht : t = t'
  case neg =>
    have hd : (t == t') = false := by simpa using ht
    have hf : Hid (K = false) := by unfold Hid; rw [hres.out, hd]; simp
    clear hres hE hkeep
    go_enter Try.func10, Try.ntmps10
    go_wp2
    go_ret
    rw [hf.out]
    exact ⟨by simp, hb⟩
  subst ht
  cases hc : clB al al'
  case false =>
    rw [hc] at hE
    have hf : Hid (K = false) := by unfold Hid; rw [hres.out, hc]; simp
    clear hres hc hkeep
    go_enter Try.func10, Try.ntmps10
    go_wp2_with (go_at_call 13; refine hE.mono ?_; rintro e w1 ⟨rfl, hb1⟩)
    go_ret
    rw [hf.out]
    exact ⟨by simp, bt hb hb1⟩
  rw [hc] at hE
  have hf : Hid (K = plB pl pl') := by unfold Hid; rw [hres.out, hc]; simp
  clear hres hc
  by_cases hll : pl.length = pl'.length
  case neg =>
    have hll' : ¬ (pl.length : Int) = (pl'.length : Int) := by omega
    have hr : Hid (K = false) := by unfold Hid; rw [hf.out, plB_len hll]
    clear hf hll hP1 hP2
    go_enter Try.func10, Try.ntmps10
    go_wp2_with (go_at_call 13; refine hE.mono ?_; rintro e w1 ⟨rfl, hb1⟩; obtain ⟨q1, q2⟩ := hkeep.out _ hb1)
    go_ret
    rw [hr.out]
    exact ⟨rfl, bt hb hb1⟩
  have hll2 : Hid _ := hll
  have hP0 : ((W.alloc (.cells #[.int .u8 k, .int .u64 s, .int .u64 t, .slice a1 al.length c1, .slice a2 pl.length c2] 33)).alloc (.cells #[.int .u8 k, .int .u64 s, .int .u64 t, .slice a3 al'.length c3, .slice a4 pl'.length c4] 33)).heap.size = W.heap.size + 1 + 1 := by simp
  rw [← hll] at hE hkeep hb hP0 ⊢
  clear hll
  go_enter Try.func10, Try.ntmps10
  go_wp2_with (go_at_call 13; refine hE.mono ?_; rintro e w1 ⟨rfl, hb1⟩; obtain ⟨q1, q2⟩ := hkeep.out _ hb1)
  have hb0 := bt hb hb1
  generalize (W.alloc (.cells #[.int .u8 k, .int .u64 s, .int .u64 t, .slice a1 al.length c1, .slice a2 pl.length c2] 33)).alloc (.cells #[.int .u8 k, .int .u64 s, .int .u64 t, .slice a3 al'.length c3, .slice a4 pl.length c4] 33) = P at *
  go_loopw [5] (fun iv X => ∃ (i : Nat), i ≤ pl.length ∧ iv = .int .i64 (i : Int) ∧ Hid (plB pl pl' = plB (pl.drop i) (pl'.drop i)) ∧ Below P.heap.size P X ∧ Below W.heap.size W X) (fun iv _ => pl.length - (intOf iv).toNat)
  case atStart => exact ⟨0, by omega, rfl, by unfold Hid; simp, hb1, hb0⟩
  case round =>
    obtain ⟨i, hi, rfl, hc, hX, hXW⟩ := hrel
    obtain ⟨k1, k2⟩ := hkeep.out _ hX
    by_cases hlt : i < pl.length
    · have hlt' : (i : Int) < (pl.length : Int) := by omega
      have hiq : i < pl'.length := by have := hll2.out; omega
      obtain ⟨g, o, rfl, hg, hxA⟩ := hP1.out i pl[i] (List.getElem?_eq_getElem hlt)
      obtain ⟨h, u, rfl, hh, hyA⟩ := hP2.out i pl'[i] (List.getElem?_eq_getElem hiq)
      obtain ⟨d0, d1, hxc⟩ := hxA.below hg hXW
      obtain ⟨e0, e1, hyc⟩ := hyA.below hh hXW
      have hc2 : Hid (plB pl pl' = (pdB pl[i] pl'[i] && plB (pl.drop (i + 1)) (pl'.drop (i + 1)))) := by unfold Hid; rw [hc.out, plB_cons hlt hiq]
      have hpd : Hid (pdB pl[i] pl'[i] = (pl[i].n == pl'[i].n && clB pl[i].l pl'[i].l)) := rfl
      have hwz : W.heap.size + 1 < wr.heap.size := by have := hX.size; omega
      have hgX : g < wr.heap.size := Nat.lt_of_lt_of_le hg hXW.size
      have hhX : h < wr.heap.size := Nat.lt_of_lt_of_le hh hXW.size
      have hC : Hid (∀ X, Below wr.heap.size wr X → Calls Try.prog 13 #[pl[i].v, pl'[i].v] X fun e w' => e = .returned (.bool (clB pl[i].l pl'[i].l)) ∧ Below X.heap.size X w') := fun X hX => sameCL_any X (hxc.below hX) (hyc.below hX)
      obtain ⟨a5, c5, ev1⟩ := hxc.slice
      obtain ⟨a6, c6, ev2⟩ := hyc.slice
      rw [ev1] at d1 hC
      rw [ev2] at e1 hC
      have hkp : Hid (∀ X, Below wr.heap.size wr X → X.cell? ⟨W.heap.size, 4, none⟩ = some (.slice (some ⟨g, o, none⟩) pl.length c2) ∧ X.cell? ⟨W.heap.size + 1, 4, none⟩ = some (.slice (some ⟨h, u, none⟩) pl.length c4) ∧ X.cell? ⟨g, o + i * 2, none⟩ = some (.int .u64 pl[i].n) ∧ X.cell? ⟨g, o + i * 2 + 1, none⟩ = some (.slice a5 pl[i].l.length c5) ∧ X.cell? ⟨h, u + i * 2, none⟩ = some (.int .u64 pl'[i].n) ∧ X.cell? ⟨h, u + i * 2 + 1, none⟩ = some (.slice a6 pl'[i].l.length c6)) := fun X hX =>
        ⟨(hX.cell (p := ⟨W.heap.size, 4, none⟩) (by show W.heap.size < wr.heap.size; omega)).trans k1, (hX.cell (p := ⟨W.heap.size + 1, 4, none⟩) hwz).trans k2, (hX.cell (p := ⟨g, _, none⟩) hgX).trans d0, (hX.cell (p := ⟨g, _, none⟩) hgX).trans d1, (hX.cell (p := ⟨h, _, none⟩) hhX).trans e0, (hX.cell (p := ⟨h, _, none⟩) hhX).trans e1⟩
      clear hxA hyA hxc hyc ev1 ev2 hc
      generalize pl[i] = x at *
      generalize pl'[i] = y at *
      by_cases hn : x.n = y.n
      · have hn2 : (x.n != y.n) = false := by simp [hn]
        cases hcl : clB x.l y.l
        · rw [hcl] at hC hpd
          have hr : Hid (K = false) := by unfold Hid; rw [hf.out, hc2.out, hpd.out]; simp
          clear hpd hc2 hf hcl
          go_upto_region 6 with fail
          go_region_held2 (fun X => X.cell? ⟨W.heap.size, 4, none⟩ = some (.slice (some ⟨g, o, none⟩) pl.length c2) ∧ X.cell? ⟨W.heap.size + 1, 4, none⟩ = some (.slice (some ⟨h, u, none⟩) pl.length c4) ∧ X.cell? ⟨g, o + i * 2, none⟩ = some (.int .u64 x.n) ∧ X.cell? ⟨g, o + i * 2 + 1, none⟩ = some (.slice a5 x.l.length c5) ∧ X.cell? ⟨h, u + i * 2, none⟩ = some (.int .u64 y.n) ∧ X.cell? ⟨h, u + i * 2 + 1, none⟩ = some (.slice a6 y.l.length c6)) (exact hkp.out _ (by (repeat (first | (with_reducible exact Below.refl _ _) | (with_reducible assumption) | (with_reducible apply bd) | (with_reducible apply ba) | (with_reducible refine bp ?_ (by first | omega | (simp [pad_size]; done) | (simp [pad_size]; omega)) _ _) | (with_reducible refine bs ?_ (by first | omega | (simp [pad_size]; done) | (simp [pad_size]; omega)) _) | (with_reducible refine bt ?_ (by assumption)))))) (first
            | (go_at_call 13; refine (hC.out _ (by (repeat (first | (with_reducible exact Below.refl _ _) | (with_reducible assumption) | (with_reducible apply bd) | (with_reducible apply ba) | (with_reducible refine bp ?_ (by first | omega | (simp [pad_size]; done) | (simp [pad_size]; omega)) _ _) | (with_reducible refine bs ?_ (by first | omega | (simp [pad_size]; done) | (simp [pad_size]; omega)) _) | (with_reducible refine bt ?_ (by assumption)))))).mono ?_; rintro e w2 ⟨rfl, hb2⟩; obtain ⟨m1, g1, r1, hm1, rfl⟩ := pad_of hb2; clear hb2; simp [pad_size] at hm1))
          all_goals go_wp2_with fail
          all_goals go_ret
          all_goals rw [hr.out]
          all_goals exact ⟨by simp, bt hXW (by (repeat (first | (with_reducible exact Below.refl _ _) | (with_reducible assumption) | (with_reducible apply bd) | (with_reducible apply ba) | (with_reducible refine bp ?_ (by first | omega | (simp [pad_size]; done) | (simp [pad_size]; omega)) _ _) | (with_reducible refine bs ?_ (by first | omega | (simp [pad_size]; done) | (simp [pad_size]; omega)) _) | (with_reducible refine bt ?_ (by assumption)))))⟩
        · rw [hcl] at hC hpd
          have hc3 : Hid (plB pl pl' = plB (pl.drop (i + 1)) (pl'.drop (i + 1))) := by unfold Hid; rw [hc2.out, hpd.out, hn]; simp
          clear hpd hc2 hf hcl
          go_upto_region 6 with fail
          go_region_held2 (fun X => X.cell? ⟨W.heap.size, 4, none⟩ = some (.slice (some ⟨g, o, none⟩) pl.length c2) ∧ X.cell? ⟨W.heap.size + 1, 4, none⟩ = some (.slice (some ⟨h, u, none⟩) pl.length c4) ∧ X.cell? ⟨g, o + i * 2, none⟩ = some (.int .u64 x.n) ∧ X.cell? ⟨g, o + i * 2 + 1, none⟩ = some (.slice a5 x.l.length c5) ∧ X.cell? ⟨h, u + i * 2, none⟩ = some (.int .u64 y.n) ∧ X.cell? ⟨h, u + i * 2 + 1, none⟩ = some (.slice a6 y.l.length c6)) (exact hkp.out _ (by (repeat (first | (with_reducible exact Below.refl _ _) | (with_reducible assumption) | (with_reducible apply bd) | (with_reducible apply ba) | (with_reducible refine bp ?_ (by first | omega | (simp [pad_size]; done) | (simp [pad_size]; omega)) _ _) | (with_reducible refine bs ?_ (by first | omega | (simp [pad_size]; done) | (simp [pad_size]; omega)) _) | (with_reducible refine bt ?_ (by assumption)))))) (first
            | (go_at_call 13; refine (hC.out _ (by (repeat (first | (with_reducible exact Below.refl _ _) | (with_reducible assumption) | (with_reducible apply bd) | (with_reducible apply ba) | (with_reducible refine bp ?_ (by first | omega | (simp [pad_size]; done) | (simp [pad_size]; omega)) _ _) | (with_reducible refine bs ?_ (by first | omega | (simp [pad_size]; done) | (simp [pad_size]; omega)) _) | (with_reducible refine bt ?_ (by assumption)))))).mono ?_; rintro e w2 ⟨rfl, hb2⟩; obtain ⟨m1, g1, r1, hm1, rfl⟩ := pad_of hb2; clear hb2; simp [pad_size] at hm1))
          all_goals go_wp2_with fail
          all_goals go_roundw
          case rel => exact ⟨i + 1, by omega, by go_num, hc3, bt hX (by (repeat (first | (with_reducible exact Below.refl _ _) | (with_reducible assumption) | (with_reducible apply bd) | (with_reducible apply ba) | (with_reducible refine bp ?_ (by first | omega | (simp [pad_size]; done) | (simp [pad_size]; omega)) _ _) | (with_reducible refine bs ?_ (by first | omega | (simp [pad_size]; done) | (simp [pad_size]; omega)) _) | (with_reducible refine bt ?_ (by assumption))))), bt hXW (by (repeat (first | (with_reducible exact Below.refl _ _) | (with_reducible assumption) | (with_reducible apply bd) | (with_reducible apply ba) | (with_reducible refine bp ?_ (by first | omega | (simp [pad_size]; done) | (simp [pad_size]; omega)) _ _) | (with_reducible refine bs ?_ (by first | omega | (simp [pad_size]; done) | (simp [pad_size]; omega)) _) | (with_reducible refine bt ?_ (by assumption)))))⟩
          case measure => (simp [intOf]; omega)
      · have hn2 : (x.n != y.n) = true := by simp [hn]
        have hr : Hid (K = false) := by unfold Hid; rw [hf.out, hc2.out, hpd.out]; simp [hn]
        clear hpd hc2 hf hC hkp
        go_upto_region 6 with fail
        go_region
        all_goals go_wp2
        all_goals go_ret
        all_goals rw [hr.out]
        all_goals exact ⟨by simp, bt hXW (by (repeat (first | (with_reducible exact Below.refl _ _) | (with_reducible assumption) | (with_reducible apply bd) | (with_reducible apply ba) | (with_reducible refine bp ?_ (by first | omega | (simp [pad_size]; done) | (simp [pad_size]; omega)) _ _) | (with_reducible refine bs ?_ (by first | omega | (simp [pad_size]; done) | (simp [pad_size]; omega)) _) | (with_reducible refine bt ?_ (by assumption)))))⟩
    · obtain rfl : i = pl.length := by omega
      have hr : Hid (K = true) := by unfold Hid; rw [hf.out, hc.out, List.drop_length, List.drop_of_length_le (by have := hll2.out; omega)]; rfl
      clear hc
      go_wp2
      go_ret
      rw [hr.out]
      exact ⟨rfl, hXW⟩
end Go.Proofs.Ytjhjgncnadhbhaa

/- pool: records, keys, what a store holds: plain facts. -/
namespace Go.Proofs.Ytjhjgncnadhbhaa
open Go.RowKit

/-- A validator but for its number. -/
structure Vd where
  ow : Int
  rt : Int
  jl : Bool
  t0 : Int
  t1 : Int
  t2 : Int
  t3 : Int
  s0 : Int
  s1 : Int
  s2 : Int
  s3 : Int
  ix : List Cn
  er : List Cn
/-- A delegation. -/
structure Dg where
  ow : Nat
  va : Nat
  s0 : Int
  s1 : Int
  s2 : Int
  s3 : Int
  ix : List Cn
def coB (l : List Cn) : List Int := (l.length : Int) :: layL l
/-- Their bytes. -/
def vB (v : Vd) : List Int := [v.ow] ++ be v.rt 2 ++ [flI v.jl] ++ layN (val v.t0 v.t1 v.t2 v.t3) ++ layN (val v.s0 v.s1 v.s2 v.s3) ++ coB v.ix ++ coB v.er
def dB (d : Dg) : List Int := layN (val d.s0 d.s1 d.s2 d.s3) ++ coB d.ix
structure VOk (v : Vd) : Prop where
  ow : 0 ≤ v.ow ∧ v.ow < 200
  rt : 0 ≤ v.rt ∧ v.rt ≤ 10000
  t : Lim v.t0 v.t1 v.t2 v.t3
  s : Lim v.s0 v.s1 v.s2 v.s3
  iw : ∀ x ∈ v.ix, CnWf x
  ir : rightFrom 0 v.ix = true
  ew : ∀ x ∈ v.er, CnWf x
  er : rightFrom 0 v.er = true
structure DOk (n : Nat) (d : Dg) : Prop where
  ow : d.ow < 200
  va : d.va < n
  s : Lim d.s0 d.s1 d.s2 d.s3
  nz : eq4 d.s0 d.s1 d.s2 d.s3 0 0 0 0 = false
  iw : ∀ x ∈ d.ix, CnWf x
  ir : rightFrom 0 d.ix = true
theorem right_len {l : List Cn} (h : rightFrom 0 l = true) : l.length ≤ 8 := by
  rw [← right_lst h]; exact lst_len _ 8
/-! What was laid is read. -/
theorem rd_be2 {n : Int} (h0 : 0 ≤ n) (h1 : n < 65536) : rd (be n 2) = n := by
  simp only [be, rd, List.foldl, Int.pow_zero, Int.pow_succ, Int.ediv_one, Int.one_mul]
  omega
theorem numS_be2 {n : Int} (h0 : 0 ≤ n) (h1 : n < 65536) (r : List Int) : numS (some (be n 2 ++ r)) 2 = (n, some r) := by
  have h := takeS_app (be n 2) r
  rw [be_len] at h
  unfold numS; rw [h, rd_be2 h0 h1]
theorem flagS_app2 (b : Bool) (r : List Int) : flagS (some (flI b :: r)) = (b, some r) := by
  unfold flagS; rw [byteS_app]; cases b <;> simp [flI]
theorem coinsS_app2 {L : List Cn} (h : ∀ x ∈ L, CnWf x) (hr : rightFrom 0 L = true) (r : List Int) : coinsS (some (coB L ++ r)) = (L, some r) := by
  unfold coinsS coB
  rw [List.cons_append, byteS_app]
  simp only [Int.toNat_natCast]
  rw [cl_app L [] r h]
  simp [hr]
theorem endS_nil : endS (some []) = true := rfl
theorem coB_len {l : List Cn} (h : rightFrom 0 l = true) : (coB l).length ≤ 273 := by
  have h1 := right_len h
  have h2 := layL_len l
  simp only [coB, List.length_cons]; omega
theorem vB_len {v : Vd} (h : VOk v) : (vB v).length ≤ 1000 := by
  have h1 := coB_len h.ir
  have h2 := coB_len h.er
  have h3 := layN_len (val v.t0 v.t1 v.t2 v.t3)
  have h4 := layN_len (val v.s0 v.s1 v.s2 v.s3)
  simp only [vB, List.length_append, List.length_cons, List.length_nil, be_len]; omega
theorem dB_len {n : Nat} {d : Dg} (h : DOk n d) : (dB d).length ≤ 1000 := by
  have h1 := coB_len h.ir
  have h3 := layN_len (val d.s0 d.s1 d.s2 d.s3)
  simp only [dB, List.length_append]; omega
theorem vB_ne (v : Vd) : vB v ≠ [] := by simp [vB]
theorem dB_ne (d : Dg) : dB d ≠ [] := by simp [dB, layN]
theorem byte_layN (n : Int) : Byte (layN n) := by
  have h1 := byL_good n 32
  have h2 := byL_len n 32
  intro x hx
  simp only [layN, List.mem_cons] at hx
  rcases hx with rfl | hx
  · omega
  · exact h1.1 x hx
theorem byte_layL : ∀ {l : List Cn}, (∀ x ∈ l, CnWf x) → Byte (layL l)
  | [], _ => by simp [layL, Byte]
  | c :: l, h => by
    rw [layL_cons]
    refine byte_app ?_ (byte_layL (fun x hx => h x (by simp [hx])))
    intro x hx
    simp only [layC, List.mem_cons] at hx
    rcases hx with rfl | hx
    · exact (h c (by simp)).1
    · exact byte_layN _ x hx
theorem byte_coB {l : List Cn} (h : ∀ x ∈ l, CnWf x) (hr : rightFrom 0 l = true) : Byte (coB l) := by
  have h1 := right_len hr
  intro x hx
  simp only [coB, List.mem_cons] at hx
  rcases hx with rfl | hx
  · omega
  · exact byte_layL h x hx
theorem byte_be (n : Int) : ∀ k, Byte (be n k)
  | 0 => by simp [be, Byte]
  | k + 1 => by
    intro x hx
    simp only [be, List.mem_cons] at hx
    rcases hx with rfl | hx
    · omega
    · exact byte_be n k x hx
theorem byte_vB {v : Vd} (h : VOk v) : Byte (vB v) := by
  have := h.ow
  unfold vB
  refine byte_app (byte_app (byte_app (byte_app (byte_app (byte_app (byte_one (by omega)) (byte_be _ _)) (byte_one (by cases v.jl <;> simp [flI]))) (byte_layN _)) (byte_layN _)) (byte_coB h.iw h.ir)) (byte_coB h.ew h.er)
theorem byte_dB {n : Nat} {d : Dg} (h : DOk n d) : Byte (dB d) := byte_app (byte_layN _) (byte_coB h.iw h.ir)
/-! Keys. -/
def poolB : List Int := [112, 111, 111, 108, 46]
def valP : List Int := [112, 111, 111, 108, 46, 118, 97, 108, 46]
def hasP : List Int := [112, 111, 111, 108, 46, 104, 97, 115, 46]
def kv (i : Nat) : List Int := valP ++ [(i : Int)]
def kd (a b : Nat) : List Int := hasP ++ [(a : Int), (b : Int)]
theorem kv_inj {i j : Nat} : kv i = kv j ↔ i = j := by simp only [kv, valP, List.cons_append, List.nil_append, List.cons.injEq]; constructor <;> intro h <;> simp at h ⊢ <;> omega
theorem kd_inj {a b c e : Nat} : kd a b = kd c e ↔ a = c ∧ b = e := by simp only [kd, hasP, List.cons_append, List.nil_append, List.cons.injEq]; constructor <;> intro h <;> simp at h ⊢ <;> omega
theorem kv_kd (i a b : Nat) : kv i ≠ kd a b := by intro h; have := congrArg List.length h; simp [kv, kd, valP, hasP] at this
theorem byte_kv {i : Nat} (h : i ≤ 255) : Byte (kv i) := byte_app (by unfold Byte valP; decide) (byte_one (by omega))
theorem byte_kd {a b : Nat} (h : a ≤ 255) (k : b ≤ 255) : Byte (kd a b) := byte_app (by unfold Byte hasP; decide) (by intro x hx; simp at hx; omega)
theorem kv_len (i : Nat) : (kv i).length = 10 := by simp [kv, valP]
theorem kd_len (a b : Nat) : (kd a b).length = 11 := by simp [kd, hasP]
theorem begs_kv (i : Nat) : begs (kv i) poolB = true := by simp [begs, kv, valP, poolB]
theorem begs_kd (a b : Nat) : begs (kd a b) poolB = true := by simp [begs, kd, hasP, poolB]
theorem begs_kv2 (i : Nat) (r : List Int) : begs (kv i) (hasP ++ r) = false := by
  simp only [begs, kv, valP, hasP, List.cons_append, List.nil_append, List.length_cons, List.length_nil, Bool.and_eq_false_iff, decide_eq_false_iff_not]
  right
  simp
theorem begs_kd0 (a b : Nat) : begs (kd a b) hasP = true := by simp [begs, kd, hasP]
theorem begs_kd1 (a b c : Nat) : begs (kd a b) (hasP ++ [(c : Int)]) = decide (a = c) := by
  by_cases h : a = c
  · subst h; simp [begs, kd, hasP]
  · have h' : ¬ (a : Int) = (c : Int) := by omega
    simp [begs, kd, hasP, h, h']
theorem begs_pool (k r : List Int) (h : begs k (hasP ++ r) = true) : begs k poolB = true := by
  simp only [begs, Bool.and_eq_true, decide_eq_true_eq] at h ⊢
  obtain ⟨h1, h2⟩ := h
  have e : hasP ++ r = poolB ++ ([104, 97, 115, 46] ++ r) := by simp [hasP, poolB]
  rw [e] at h1 h2
  have h3 := congrArg (List.take 5) h2
  have e5 : poolB.length = 5 := rfl
  rw [List.take_take, List.take_append_of_le_length (by omega), List.take_of_length_le (l := poolB) (by omega), Nat.min_eq_left (by rw [List.length_append]; omega)] at h3
  rw [List.length_append] at h1
  exact ⟨by omega, by rw [e5]; exact h3⟩
/-- Which delegation comes first. -/
def ltK (a b c e : Nat) : Bool := decide (a < c) || (decide (a = c) && decide (b < e))
theorem ltK_iff {a b c e : Nat} : ltK a b c e = true ↔ a < c ∨ a = c ∧ b < e := by simp [ltK]
theorem kd_lt {a b c e : Nat} (h : ltK a b c e = true) : cmpB (kd a b) (kd c e) < 0 := by
  unfold kd
  rw [cmp_pre]
  rcases ltK_iff.1 h with h | ⟨rfl, h⟩
  · have : (a : Int) < (c : Int) := by omega
    simp [cmpB, this]
  · have : (b : Int) < (e : Int) := by omega
    simp [cmpB, this]
def DSrt (D : List Dg) : Prop := D.Pairwise fun x y => ltK x.ow x.va y.ow y.va = true
/-- What a store holds where each place is its own: other layers' keys begin otherwise. -/
structure PoL (L : List (List Int × List Int)) (V : List Vd) (D : List Dg) : Prop where
  srt : SrtC L
  vlen : V.length ≤ 16
  vok : ∀ v ∈ V, VOk v
  dok : ∀ d ∈ D, DOk V.length d
  dsrt : DSrt D
  mem : ∀ x, begs x.1 poolB = true → (x ∈ L ↔ (∃ i v, V[i]? = some v ∧ x = (kv i, vB v)) ∨ ∃ d ∈ D, x = (kd d.ow d.va, dB d))
theorem PoL.new : PoL [] [] [] := ⟨List.Pairwise.nil, by simp, by simp, by simp, List.Pairwise.nil, fun x _ => by simp⟩
section
variable {L : List (List Int × List Int)} {V : List Vd} {D : List Dg}
theorem PoL.getV_yes (h : PoL L V D) {i : Nat} {v : Vd} (hi : V[i]? = some v) : getS L (kv i) = some (vB v) := get_of h.srt ((h.mem (kv i, vB v) (begs_kv i)).2 (.inl ⟨i, v, hi, rfl⟩))
theorem PoL.getV_no (h : PoL L V D) {i : Nat} (hi : V.length ≤ i) : getS L (kv i) = none := by
  cases hg : getS L (kv i) with
  | none => rfl
  | some q =>
    exfalso
    rcases (h.mem (kv i, q) (begs_kv i)).1 (get_mem hg) with ⟨j, v, hj, he⟩ | ⟨d, -, he⟩
    · injection he with h1 h2
      obtain rfl := kv_inj.1 h1
      have := (List.getElem?_eq_some_iff.1 hj).1
      omega
    · injection he with h1 h2
      exact kv_kd _ _ _ h1
theorem PoL.getD_yes (h : PoL L V D) {d : Dg} (hd : d ∈ D) : getS L (kd d.ow d.va) = some (dB d) := get_of h.srt ((h.mem (kd d.ow d.va, dB d) (begs_kd _ _)).2 (.inr ⟨d, hd, rfl⟩))
theorem PoL.getD_no (h : PoL L V D) {a b : Nat} (hn : ∀ d ∈ D, ¬ (d.ow = a ∧ d.va = b)) : getS L (kd a b) = none := by
  cases hg : getS L (kd a b) with
  | none => rfl
  | some q =>
    exfalso
    rcases (h.mem (kd a b, q) (begs_kd a b)).1 (get_mem hg) with ⟨j, v, hj, he⟩ | ⟨d, hd, he⟩
    · injection he with h1 h2
      exact kv_kd _ _ _ h1.symm
    · injection he with h1 h2
      obtain ⟨rfl, rfl⟩ := kd_inj.1 h1
      exact hn d hd ⟨rfl, rfl⟩
/-- Nothing of other layers has changed. -/
def Oth (p : List Int) (L L' : List (List Int × List Int)) : Prop := ∀ x, begs x.1 p = false → (x ∈ L' ↔ x ∈ L)
theorem Oth.rfl' (p : List Int) (L : List (List Int × List Int)) : Oth p L L := fun _ _ => Iff.rfl
theorem Oth.put {p k v : List Int} (h : begs k p = true) : Oth p L (putS L k v) := fun x hx => by
  have hne : x.1 ≠ k := fun e => by rw [e, h] at hx; cases hx
  rw [mem_put]
  constructor
  · rintro (rfl | ⟨-, h⟩)
    · exact absurd rfl hne
    · exact h
  · exact fun h => .inr ⟨hne, h⟩
theorem Oth.drop {p k : List Int} (h : begs k p = true) : Oth p L (dropS L k) := fun x hx => by
  have hne : x.1 ≠ k := fun e => by rw [e, h] at hx; cases hx
  rw [mem_drop]
  exact ⟨fun h => h.2, fun h => ⟨hne, h⟩⟩
theorem PoL.putV (h : PoL L V D) {i : Nat} {v : Vd} {V' : List Vd} (hv : VOk v) (hV : ∀ j, V'[j]? = if j = i then some v else V[j]?) (hl : V'.length ≤ 16) (hle : V.length ≤ V'.length) : PoL (putS L (kv i) (vB v)) V' D := by
  refine ⟨srt_putS h.srt _ _, hl, fun w hw => ?_, fun d hd => ?_, h.dsrt, fun x hx => ?_⟩
  · obtain ⟨j, hj⟩ := List.mem_iff_getElem?.1 hw
    rw [hV] at hj
    split at hj
    · injection hj with hj; subst hj; exact hv
    · exact h.vok w (List.mem_of_getElem? hj)
  · have := h.dok d hd
    exact { this with va := Nat.lt_of_lt_of_le this.va hle }
  · rw [mem_put, h.mem x hx]
    constructor
    · rintro (rfl | ⟨hne, ⟨j, w, hj, rfl⟩ | ⟨d, hd, rfl⟩⟩)
      · exact .inl ⟨i, v, by rw [hV, if_pos rfl], rfl⟩
      · refine .inl ⟨j, w, ?_, rfl⟩
        rw [hV, if_neg (fun e => hne (kv_inj.2 e))]; exact hj
      · exact .inr ⟨d, hd, rfl⟩
    · rintro (⟨j, w, hj, rfl⟩ | ⟨d, hd, rfl⟩)
      · rw [hV] at hj
        split at hj
        · injection hj with hj; subst hj; rename_i hji; subst hji; exact .inl rfl
        · rename_i hji
          exact .inr ⟨fun e => hji (kv_inj.1 e), .inl ⟨j, w, hj, rfl⟩⟩
      · exact .inr ⟨fun e => kv_kd _ _ _ e.symm, .inr ⟨d, hd, rfl⟩⟩
theorem PoL.keys (h : PoL L V D) : keysS L hasP = D.map (fun d => kd d.ow d.va) := by
  refine srt_ext _ _ (keysS_srt h.srt _) ?_ fun x => ?_
  · rw [List.pairwise_map]; exact h.dsrt.imp kd_lt
  · unfold keysS
    rw [List.mem_map, List.mem_map]
    constructor
    · rintro ⟨y, hy, rfl⟩
      obtain ⟨h1, h2⟩ := List.mem_filter.1 hy
      have h3 := begs_pool y.1 [] (by rw [List.append_nil]; exact h2)
      rcases (h.mem y h3).1 h1 with ⟨i, v, -, rfl⟩ | ⟨d, hd, rfl⟩
      · have := begs_kv2 i []; rw [List.append_nil] at this; simp only at h2; rw [this] at h2; cases h2
      · exact ⟨d, hd, rfl⟩
    · rintro ⟨d, hd, rfl⟩
      exact ⟨(kd d.ow d.va, dB d), List.mem_filter.2 ⟨(h.mem _ (begs_kd _ _)).2 (.inr ⟨d, hd, rfl⟩), begs_kd0 _ _⟩, rfl⟩
theorem PoL.keys1 (h : PoL L V D) (o : Nat) : keysS L (hasP ++ [(o : Int)]) = (D.filter (fun d => decide (d.ow = o))).map (fun d => kd d.ow d.va) := by
  refine srt_ext _ _ (keysS_srt h.srt _) ?_ fun x => ?_
  · rw [List.pairwise_map]; exact (h.dsrt.sublist List.filter_sublist).imp kd_lt
  · unfold keysS
    rw [List.mem_map, List.mem_map]
    constructor
    · rintro ⟨y, hy, rfl⟩
      obtain ⟨h1, h2⟩ := List.mem_filter.1 hy
      have h3 := begs_pool y.1 [(o : Int)] h2
      rcases (h.mem y h3).1 h1 with ⟨i, v, -, rfl⟩ | ⟨d, hd, rfl⟩
      · have := begs_kv2 i [(o : Int)]; simp only at h2; rw [this] at h2; cases h2
      · simp only at h2
        rw [begs_kd1] at h2
        exact ⟨d, List.mem_filter.2 ⟨hd, h2⟩, rfl⟩
    · rintro ⟨d, hd, rfl⟩
      obtain ⟨h1, h2⟩ := List.mem_filter.1 hd
      exact ⟨(kd d.ow d.va, dB d), List.mem_filter.2 ⟨(h.mem _ (begs_kd _ _)).2 (.inr ⟨d, h1, rfl⟩), by simp only; rw [begs_kd1]; exact h2⟩, rfl⟩
theorem PoL.dlen (h : PoL L V D) : D.length ≤ L.length := by
  have e : D.length = (keysS L hasP).length := by rw [h.keys, List.length_map]
  rw [e]
  unfold keysS
  rw [List.length_map]
  exact List.length_filter_le _ _
/-! Delegations that come and go. -/
def putD (D : List Dg) (d : Dg) : List Dg := D.filter (fun x => ltK x.ow x.va d.ow d.va) ++ d :: D.filter (fun x => ltK d.ow d.va x.ow x.va)
def dropD (D : List Dg) (a b : Nat) : List Dg := D.filter (fun x => !(decide (x.ow = a) && decide (x.va = b)))
theorem ltK_tri (a b c e : Nat) : ltK a b c e = true ∨ (a = c ∧ b = e) ∨ ltK c e a b = true := by simp only [ltK_iff]; omega
theorem ltK_not {a b c e : Nat} (h : ltK a b c e = true) : ¬ (a = c ∧ b = e) := by rw [ltK_iff] at h; omega
theorem mem_putD {d x : Dg} : x ∈ putD D d ↔ x = d ∨ (¬ (x.ow = d.ow ∧ x.va = d.va) ∧ x ∈ D) := by
  unfold putD
  rw [List.mem_append, List.mem_cons, List.mem_filter, List.mem_filter]
  constructor
  · rintro (⟨h1, h2⟩ | h | ⟨h1, h2⟩)
    · exact .inr ⟨ltK_not h2, h1⟩
    · exact .inl h
    · exact .inr ⟨fun e => ltK_not h2 ⟨e.1.symm, e.2.symm⟩, h1⟩
  · rintro (h | ⟨h1, h2⟩)
    · exact .inr (.inl h)
    · rcases ltK_tri x.ow x.va d.ow d.va with h | h | h
      · exact .inl ⟨h2, h⟩
      · exact absurd h h1
      · exact .inr (.inr ⟨h2, h⟩)
theorem mem_dropD {a b : Nat} {x : Dg} : x ∈ dropD D a b ↔ ¬ (x.ow = a ∧ x.va = b) ∧ x ∈ D := by
  unfold dropD
  rw [List.mem_filter]
  simp only [Bool.not_eq_true', Bool.and_eq_false_iff, decide_eq_false_iff_not]
  constructor
  · rintro ⟨h1, h2⟩; exact ⟨by omega, h1⟩
  · rintro ⟨h1, h2⟩; exact ⟨h2, by omega⟩
theorem ltK_trans {a b c e f g : Nat} (h : ltK a b c e = true) (k : ltK c e f g = true) : ltK a b f g = true := by rw [ltK_iff] at *; omega
theorem srt_putD (h : DSrt D) (d : Dg) : DSrt (putD D d) := by
  unfold DSrt putD
  rw [List.pairwise_append]
  refine ⟨h.sublist List.filter_sublist, ?_, fun x hx y hy => ?_⟩
  · rw [List.pairwise_cons]
    exact ⟨fun x hx => (List.mem_filter.1 hx).2, h.sublist List.filter_sublist⟩
  · have hx2 : ltK x.ow x.va d.ow d.va = true := (List.mem_filter.1 hx).2
    rcases List.mem_cons.1 hy with rfl | hy
    · exact hx2
    · exact ltK_trans hx2 (List.mem_filter.1 hy).2
theorem PoL.putD (h : PoL L V D) {d : Dg} (hd : DOk V.length d) : PoL (putS L (kd d.ow d.va) (dB d)) V (putD D d) := by
  refine ⟨srt_putS h.srt _ _, h.vlen, h.vok, fun x hx => ?_, srt_putD h.dsrt d, fun x hx => ?_⟩
  · rcases mem_putD.1 hx with rfl | ⟨-, hx⟩
    · exact hd
    · exact h.dok x hx
  · rw [mem_put, h.mem x hx]
    constructor
    · rintro (rfl | ⟨hne, ⟨j, w, hj, rfl⟩ | ⟨y, hy, rfl⟩⟩)
      · exact .inr ⟨d, mem_putD.2 (.inl rfl), rfl⟩
      · exact .inl ⟨j, w, hj, rfl⟩
      · exact .inr ⟨y, mem_putD.2 (.inr ⟨fun e => hne (kd_inj.2 e), hy⟩), rfl⟩
    · rintro (⟨j, w, hj, rfl⟩ | ⟨y, hy, rfl⟩)
      · exact .inr ⟨kv_kd _ _ _, .inl ⟨j, w, hj, rfl⟩⟩
      · rcases mem_putD.1 hy with rfl | ⟨h1, hy⟩
        · exact .inl rfl
        · exact .inr ⟨fun e => h1 (kd_inj.1 e), .inr ⟨y, hy, rfl⟩⟩
theorem PoL.dropD (h : PoL L V D) (a b : Nat) : PoL (dropS L (kd a b)) V (dropD D a b) := by
  refine ⟨srt_dropS h.srt _, h.vlen, h.vok, fun x hx => h.dok x (mem_dropD.1 hx).2, h.dsrt.sublist List.filter_sublist, fun x hx => ?_⟩
  rw [mem_drop, h.mem x hx]
  constructor
  · rintro ⟨hne, ⟨j, w, hj, rfl⟩ | ⟨y, hy, rfl⟩⟩
    · exact .inl ⟨j, w, hj, rfl⟩
    · exact .inr ⟨y, mem_dropD.2 ⟨fun e => hne (kd_inj.2 e), hy⟩, rfl⟩
  · rintro (⟨j, w, hj, rfl⟩ | ⟨y, hy, rfl⟩)
    · exact ⟨kv_kd _ _ _, .inl ⟨j, w, hj, rfl⟩⟩
    · obtain ⟨h1, hy⟩ := mem_dropD.1 hy
      exact ⟨fun e => h1 (kd_inj.1 e), .inr ⟨y, hy, rfl⟩⟩
end
/-- The reference's walk over its delegations (each with what its coins lie in). -/
def setGo {α : Type} (f : α → Dg) (d : α) : Bool → List α → List α
  | D, [] => if D then [] else [d]
  | D, x :: r =>
    if D = false ∧ ltK (f d).ow (f d).va (f x).ow (f x).va = true then d :: x :: setGo f d true r
    else if (f x).ow = (f d).ow ∧ (f x).va = (f d).va then setGo f d D r else x :: setGo f d D r
theorem setGo_true {α : Type} (f : α → Dg) (d : α) : ∀ M : List α, (setGo f d true M).map f = dropD (M.map f) (f d).ow (f d).va
  | [] => rfl
  | x :: r => by
    have ih := setGo_true f d r
    unfold setGo dropD
    rw [if_neg (by simp), List.map_cons]
    by_cases h : (f x).ow = (f d).ow ∧ (f x).va = (f d).va
    · rw [if_pos h, List.filter_cons_of_neg (by simp [h])]
      exact ih
    · rw [if_neg h, List.filter_cons_of_pos (by simp; omega), List.map_cons, ih]
      rfl
theorem dropD_gt {D : List Dg} {a b : Nat} (h : ∀ x ∈ D, ltK a b x.ow x.va = true) : dropD D a b = D := by
  unfold dropD
  rw [List.filter_eq_self]
  intro x hx
  have := ltK_not (h x hx)
  simp; omega
theorem setGo_false {α : Type} (f : α → Dg) (d : α) : ∀ M : List α, DSrt (M.map f) → (setGo f d false M).map f = putD (M.map f) (f d)
  | [], _ => rfl
  | x :: r, hs => by
    rw [List.map_cons] at hs
    obtain ⟨h1, h2⟩ := List.pairwise_cons.1 hs
    have ih := setGo_false f d r h2
    unfold setGo
    by_cases hlt : ltK (f d).ow (f d).va (f x).ow (f x).va = true
    · rw [if_pos ⟨rfl, hlt⟩, List.map_cons, List.map_cons, setGo_true]
      have hg : ∀ y ∈ r.map f, ltK (f d).ow (f d).va y.ow y.va = true := fun y hy => ltK_trans hlt (h1 y hy)
      rw [dropD_gt hg]
      unfold putD
      have e : (r.map f).filter (fun x => ltK x.ow x.va (f d).ow (f d).va) = [] := by
        rw [List.filter_eq_nil_iff]
        intro y hy hc
        have := hg y hy
        rw [ltK_iff] at this hc
        omega
      have e2 : (r.map f).filter (fun x => ltK (f d).ow (f d).va x.ow x.va) = r.map f := List.filter_eq_self.2 hg
      rw [List.map_cons, List.filter_cons_of_neg, List.filter_cons_of_pos (by exact hlt), e, e2]
      · rfl
      · intro hc
        rw [ltK_iff] at hc hlt
        omega
    · rw [if_neg (by simp [hlt])]
      by_cases he : (f x).ow = (f d).ow ∧ (f x).va = (f d).va
      · rw [if_pos he, ih]
        unfold putD
        rw [List.map_cons, List.filter_cons_of_neg, List.filter_cons_of_neg (by simpa using hlt)]
        rw [ltK_iff]; omega
      · rw [if_neg he, List.map_cons, ih]
        unfold putD
        have hx : ltK (f x).ow (f x).va (f d).ow (f d).va = true := by
          rcases ltK_tri (f x).ow (f x).va (f d).ow (f d).va with h | h | h
          · exact h
          · exact absurd h he
          · exact absurd h hlt
        rw [List.map_cons, List.filter_cons_of_pos (by exact hx), List.filter_cons_of_neg (by simpa using hlt)]
        rfl
theorem setGo_mem {α : Type} {f : α → Dg} {d x : α} : ∀ {M : List α} {D : Bool}, x ∈ setGo f d D M → x = d ∨ x ∈ M
  | [], D, h => by
    unfold setGo at h
    split at h
    · simp at h
    · simp at h; exact .inl h
  | y :: r, D, h => by
    unfold setGo at h
    split at h
    · rcases List.mem_cons.1 h with h | h
      · exact .inl h
      · rcases List.mem_cons.1 h with h | h
        · exact .inr (by simp [h])
        · rcases setGo_mem h with h | h
          · exact .inl h
          · exact .inr (by simp [h])
    · split at h
      · rcases setGo_mem h with h | h
        · exact .inl h
        · exact .inr (by simp [h])
      · rcases List.mem_cons.1 h with h | h
        · exact .inr (by simp [h])
        · rcases setGo_mem h with h | h
          · exact .inl h
          · exact .inr (by simp [h])
theorem setGo_len {α : Type} {f : α → Dg} {d : α} : ∀ {M : List α} {D : Bool}, (setGo f d D M).length ≤ M.length + 1
  | [], D => by unfold setGo; split <;> simp
  | y :: r, D => by
    unfold setGo
    split
    · have e : ∀ r : List α, (setGo f d true r).length ≤ r.length := fun r => by
        have h1 := congrArg List.length (setGo_true f d r)
        have h2 := List.length_filter_le (fun x : Dg => !(decide (x.ow = (f d).ow) && decide (x.va = (f d).va))) (r.map f)
        rw [List.length_map] at h1 h2
        rw [h1]
        exact h2
      have := e r
      simp; omega
    · have := setGo_len (f := f) (d := d) (M := r) (D := D)
      split <;> simp <;> omega
end Go.Proofs.Ytjhjgncnadhbhaa

/- pool: keys. -/
namespace Go.Proofs.Ytjhjgncnadhbhaa
open Go.RowKit

theorem cv_lit (w : World) (C : Array Value) (n c : Nat) : (convert 42 42 (.slice (some ⟨w.heap.size, 0, none⟩) n c)).run Try.prog (w.alloc (.cells C 5)) = .ok (.slice (some ⟨w.heap.size, 0, none⟩) n c) (w.alloc (.cells C 5 (C.size, C.size + 1))) :=
  Lib.run_convert_bytes_const w 42 5 C n c Try.underlying42 Try.underlying5
/-- Cells behind a row that is full: a new row. -/
theorem wpList_append_full {P : Program} {w : World} {ops : Array Oper} {rest : List Oper} {o : Oper} {a : Act} {Q : Exit → Act → World → Prop} (hgd : o.guard = none) (s x : Operand) (t : TypeId)
    (ho : o.op = .call { callee := .builtin .append, args := #[s, x], argTypes := #[t, t] })
    (e : TypeId) (i : TypeInfo) (ht : P.underlying t = some (.slice e)) (hi : P.info? e = some i) (hz : i.zero = some (.int .u8 0)) (hsz : i.size = 1) (hby : i.bytes = 1)
    (g n : Nat) (cur : Array Value) (hs : a.eval s = .slice (some ⟨g, 0, none⟩) n n) (hg : w.heap[g]? = some (.cells cur e (cur.size, cur.size + 1))) (hcs : cur.size = n) (hm : n < 1000) (y : Nat) (us : List Value) (hu0 : us ≠ []) (hul : us.length < 100) (hx : a.eval x = .slice (some ⟨y, 0, none⟩) us.length us.length) (ha : ∀ j u, us[j]? = some u → w.cell? ⟨y, j, none⟩ = some u)
    (h : ∀ cap' w', w.heap.size < w'.heap.size → (∀ j v, (cur.toList ++ us)[j]? = some v → w'.cell? ⟨w.heap.size, j, none⟩ = some v) → w.grownBy w' none → wpList P ops Q rest (a.put o.dst (.slice (some ⟨w.heap.size, 0, none⟩) (n + us.length) cap')) w') : wpList P ops Q (o :: rest) a w :=
  wpList_plain hgd fun _ hK => by
    have hpos : 0 < us.length := List.length_pos_iff.2 hu0
    have hold : ∀ j v, cur.toList[j]? = some v → w.cell? ((⟨g, 0, none⟩ : Addr).add j) = some v := fun j v hj => by
      rw [add_cell, Nat.zero_add, cell_of_row w g j cur e _ hg]
      simpa using hj
    have hnews : ∀ j v, us[j]? = some v → w.cell? ((⟨y, 0, none⟩ : Addr).add j) = some v := fun j v hj => by
      rw [add_cell, Nat.zero_add]; exact ha j v hj
    have hr := run_append_grow (P := P) w t o.type e i _ ht hi hz ⟨g, 0, none⟩ n n cur.toList (by simp [hsz, hcs]) hold ⟨y, 0, none⟩ us.length us.length us (by simp [hsz]) hnews (by omega) (by omega) (growslice_fits (by omega) (by rw [hby]; omega))
    unfold Oper.wp execOp
    simp only [ho, resolve, invoke, builtin, Sem.run_bind, Sem.run_pure, Result.andThen_ok, List.map_toArray, List.map_cons, List.map_nil, hs, hx, hr]
    refine hK _ _ (h _ _ (by simp) (fun j v hj => ?_) ⟨rfl, rfl, rfl, by simp, fun k hk _ => heap_alloc_old w.drew _ hk⟩)
    rw [cell_of_row _ w.heap.size j _ e _ (heap_alloc_new w.drew _)]
    rw [Array.getElem?_append_left (by
      have := (List.getElem?_eq_some_iff.1 hj).1
      simpa using this)]
    simpa [Array.getElem?_append, List.getElem?_append] using hj
theorem grow_end {w W W' : World} (h : Below w.heap.size w W) (k : W.grownBy W' none) : Below w.heap.size w W' := h.grown k h.size (fun _ hk => by cases hk)
def encV (q : List Int) : Array Value := (encB q).toArray
theorem encV_size (q : List Int) : (encV q).size = q.length := by simp [encV, encB]
theorem src_at {X : World} {g n cap : Nat} {p q : List Int} (hn : n = (p ++ q).length) (h : ∀ j v, (encB p ++ encB q)[j]? = some v → X.cell? ⟨g, j, none⟩ = some v) : Src X (.slice (some ⟨g, 0, none⟩) n cap) (p ++ q) := by
  refine .inr ⟨_, cap, by rw [hn], fun i x hi => ?_⟩
  rw [add_cell, Nat.zero_add]
  refine h i _ ?_
  have e : encB p ++ encB q = encB (p ++ q) := by simp [encB]
  rw [e]
  simp only [encB, List.getElem?_map, hi]
  rfl
end Go.Proofs.Ytjhjgncnadhbhaa

/- pool: a validator is laid. -/
namespace Go.Proofs.Ytjhjgncnadhbhaa
open Go.RowKit

/-- A list of coins that a writer doesn't own. -/
structure Far (W : World) (b : Nat) (v u : Value) (L : List Cn) : Prop where
  is : IsCoins W u L
  far : L ≠ [] → (∀ g, u.ownBlock = some g → g < W.heap.size) ∧ u.ownBlock ≠ some b ∧ (u.ownBlock = none ∨ u.ownBlock ≠ v.ownBlock)
theorem Far.step {W X : World} {b : Nat} {v v' u : Value} {L : List Cn} (h : Far W b v u L) (hF : WF W X b v v') : Far X b v' u L := by
  by_cases hL : L = []
  · refine ⟨?_, fun h => absurd hL h⟩
    rcases h.is with h | ⟨_, _, _, _, hne, _⟩
    · exact .inl h
    · exact absurd hL hne
  · obtain ⟨h1, h2, h3⟩ := h.far hL
    have hh := coins_wf h.is h1 h2 h3 hF
    exact ⟨hh.1, fun _ => ⟨fun g hg => Nat.lt_of_lt_of_le (h1 g hg) hF.size, h2, hh.2⟩⟩
theorem Far.of {W X : World} {b : Nat} {u : Value} {L : List Cn} (h : IsCoins W u L) (hb : W.heap.size ≤ b) (hX : Below W.heap.size W X) : Far X b (.slice none 0 0) u L := by
  refine ⟨h.below hX, fun hL => ?_⟩
  rcases h with ⟨e, -⟩ | ⟨blk, off, cap, rfl, -, -, hlt, -⟩
  · exact absurd e hL
  · refine ⟨fun g hg => ?_, fun e => ?_, .inr (by simp [Value.ownBlock])⟩
    · simp [Value.ownBlock] at hg; subst hg; exact Nat.lt_of_lt_of_le hlt hX.size
    · simp [Value.ownBlock] at e; omega
theorem wCoinsF {W : World} {b base : Nat} {v u : Value} {p : List Int} {L : List Cn} (hW : WrAt W b base v p) (hbase : base ≤ W.heap.size) (hwf : ∀ x ∈ L, CnWf x) (hr : rightFrom 0 L = true) (hl : p.length + 9000 ≤ 1048576) (hu : Far W b v u L) :
    Calls Try.prog 45 #[.pointer (some ⟨b, 0, none⟩), u] W fun e w' => e = .returned (.pointer (some ⟨b, 0, none⟩)) ∧ ∃ v', WrAt w' b base v' (p ++ coB L) ∧ WF W w' b v v' :=
  wCoinsI_any hW hbase hwf (by have := right_len hr; omega) hl hu.is (fun h => (hu.far h).2.1) (fun h => (hu.far h).2.2)
theorem wNumF {W : World} {b base : Nat} {v : Value} {p : List Int} (x0 x1 x2 x3 : Int) (hx : Lim x0 x1 x2 x3) (hW : WrAt W b base v p) (hbase : base ≤ W.heap.size) (hl : p.length + 33 ≤ 1048576) :
    Calls Try.prog 72 #[.pointer (some ⟨b, 0, none⟩), .agg #[.int .u64 x0, .int .u64 x1, .int .u64 x2, .int .u64 x3]] W fun e w' => e = .returned (.pointer (some ⟨b, 0, none⟩)) ∧ ∃ v', WrAt w' b base v' (p ++ layN (val x0 x1 x2 x3)) ∧ WF W w' b v v' := wNum_any x0 x1 x2 x3 hx hW hbase hl
end Go.Proofs.Ytjhjgncnadhbhaa

/- pool: a validator is read. -/
namespace Go.Proofs.Ytjhjgncnadhbhaa
open Go.RowKit

section
variable {W : World} {b : Nat} {D : Option Nat} {r : List Int}
theorem rdByte {x : Int} (hD : D ≠ some b) (h : RdAt W b D (some (x :: r))) :
    Calls Try.prog 49 #[.pointer (some ⟨b, 0, none⟩)] W fun e w' => e = .returned (.int .u8 x) ∧ RdAt w' b D (some r) ∧ W.grownBy w' (some b) := by
  have := rByte_any hD h
  rw [byteS_app] at this
  exact this
theorem rdNum {x0 x1 x2 x3 : Int} (hx : Lim x0 x1 x2 x3) (hD : D ≠ some b) (hDl : ∀ d, D = some d → d < W.heap.size) (h : RdAt W b D (some (layN (val x0 x1 x2 x3) ++ r))) :
    Calls Try.prog 75 #[.pointer (some ⟨b, 0, none⟩)] W fun e w' => e = .returned (.agg #[.int .u64 x0, .int .u64 x1, .int .u64 x2, .int .u64 x3]) ∧ RdAt w' b D (some r) ∧ W.grownBy w' (some b) := by
  have := rNum_any hD hDl h
  rw [nS_app (val_lo hx) (val_hi hx)] at this
  refine this.mono ?_
  rintro e w' ⟨z0, z1, z2, z3, rfl, hz, hv, h1, h2⟩
  obtain ⟨rfl, rfl, rfl, rfl⟩ := val_inj hz hx hv
  exact ⟨rfl, h1, h2⟩
theorem rdCoins {L : List Cn} (hw : ∀ x ∈ L, CnWf x) (hr : rightFrom 0 L = true) (hD : D ≠ some b) (hDl : ∀ d, D = some d → d < W.heap.size) (h : RdAt W b D (some (coB L ++ r))) :
    Calls Try.prog 50 #[.pointer (some ⟨b, 0, none⟩)] W fun e w' => ∃ a c, e = .returned (.slice a L.length c) ∧ w'.ownsRow W.heap.size 66 5 (.slice a L.length c) L.length (cellsL L) ∧ RdAt w' b D (some r) ∧ W.grownBy w' (some b) := by
  have := rCoins_any _ W b D hD hDl h
  rw [coinsS_app2 hw hr] at this
  refine this.mono ?_
  rintro e w' ⟨v, rfl, h1, h2, h3⟩
  obtain ⟨a, c, rfl⟩ := row_slice h1
  exact ⟨a, c, rfl, h1, h2, h3⟩
theorem dlt_of (hDl : ∀ d, D = some d → d < W.heap.size) {X : World} {q : Option Nat} (h : W.grownBy X q) : ∀ d, D = some d → d < X.heap.size := fun d hd => Nat.lt_of_lt_of_le (hDl d hd) h.size
end
theorem own_not {v : Value} {g : Nat} (h : v.ownBlock ≠ some g) : v.ownBlock = none ∨ v.ownBlock ≠ some g := .inr h
theorem vB_cons (v : Vd) : vB v = v.ow :: (be v.rt 2 ++ (flI v.jl :: (layN (val v.t0 v.t1 v.t2 v.t3) ++ (layN (val v.s0 v.s1 v.s2 v.s3) ++ (coB v.ix ++ (coB v.er ++ [])))))) := by simp [vB]
end Go.Proofs.Ytjhjgncnadhbhaa

/- plan: a plan is laid. -/
namespace Go.Proofs.Ytjhjgncnadhbhaa
open Go.RowKit

/-- A period's bytes; a plan's. -/
def qB (q : Pd) : List Int := be q.n 8 ++ coB q.l
def pB (x : Pn) : List Int := [x.k] ++ be x.s 8 ++ be x.e 8 ++ coB x.al ++ [(x.pl.length : Int)] ++ x.pl.flatMap qB
/-- Coins that lie below a writer. -/
theorem Far.low {W0 X : World} {b base : Nat} {v u : Value} {p : List Int} {L : List Cn} (h : IsCoins W0 u L) (hX : Below W0.heap.size W0 X) (hW : WrAt X b base v p) (hb : W0.heap.size ≤ b) (hbase : W0.heap.size ≤ base) : Far X b v u L := by
  refine ⟨h.below hX, fun hL => ?_⟩
  rcases h with ⟨e, -⟩ | ⟨blk, off, cap, rfl, -, -, hlt, -⟩
  · exact absurd e hL
  · refine ⟨fun g hg => ?_, fun e => ?_, .inr fun e => ?_⟩
    · simp [Value.ownBlock] at hg; subst hg; exact Nat.lt_of_lt_of_le hlt hX.size
    · simp [Value.ownBlock] at e; omega
    · have := (hW.2.lt blk (by rw [← e]; rfl)).1; omega
theorem coins_low {l : List Cn} (h : rightFrom 0 l = true) : l.length ≤ 8 := right_len h
/-- What of a plan laying it asks. -/
structure LayOk (x : Pn) : Prop where
  k : 0 ≤ x.k ∧ x.k ≤ 255
  s : 0 ≤ x.s ∧ x.s < 18446744073709551616
  e : 0 ≤ x.e ∧ x.e < 18446744073709551616
  aw : ∀ y ∈ x.al, CnWf y
  ar : rightFrom 0 x.al = true
  n : x.pl.length ≤ 16
  q : ∀ q ∈ x.pl, (0 ≤ q.n ∧ q.n < 18446744073709551616) ∧ (∀ y ∈ q.l, CnWf y) ∧ rightFrom 0 q.l = true
theorem layOk {x : Pn} (ho : PnOk x) (hr : PnR x) : LayOk x := by
  by_cases hk : x.k = 3 ∨ x.k = 5
  · have hs := steps_facts (hr.st hk)
    exact ⟨ho.w.k, ho.w.s, ho.w.e, ho.w.al, hr.al, hs.n16, fun q hq => ⟨(ho.p q hq).n, (ho.p q hq).l, some_right (hs.ok q hq).2⟩⟩
  · have hp := hr.np hk
    exact ⟨ho.w.k, ho.w.s, ho.w.e, ho.w.al, hr.al, by rw [hp]; simp, by rw [hp]; simp⟩
theorem qB_len {q : Pd} (h : rightFrom 0 q.l = true) : (qB q).length ≤ 281 := by
  have := coB_len h
  simp only [qB, List.length_append, be_len]; omega
theorem qsB_len : ∀ {l : List Pd}, (∀ q ∈ l, rightFrom 0 q.l = true) → (l.flatMap qB).length ≤ 281 * l.length
  | [], _ => by simp
  | q :: l, h => by
    have h1 := qB_len (h q (by simp))
    have h2 := qsB_len (l := l) (fun y hy => h y (by simp [hy]))
    rw [List.flatMap_cons, List.length_append, List.length_cons]; omega
theorem WF.low {W0 X Y : World} {b base : Nat} {v v' : Value} {p : List Int} (h : Below W0.heap.size W0 X) (hF : WF X Y b v v') (hW : WrAt X b base v p) (hb : W0.heap.size ≤ b) (hbase : W0.heap.size ≤ base) : Below W0.heap.size W0 Y := WF.below h hF hW hb hbase
set_option maxRecDepth 20000 in
set_option maxHeartbeats 16000000 in
theorem planLay_any {W0 W : World} {b base : Nat} {v : Value} {p : List Int} {x : Pn} (h : PnAt W0 x) (hx : LayOk x) (hW0 : Below W0.heap.size W0 W) (hb : W0.heap.size ≤ b) (hb0 : W0.heap.size ≤ base) (hW : WrAt W b base v p) (hbase : base ≤ W.heap.size) (hl : p.length + 20000 ≤ 1048576) :
    Calls Try.prog 17 #[.pointer (some ⟨b, 0, none⟩), pnV x] W fun e w' => e = .returned (.tuple #[]) ∧ ∃ v', WrAt w' b base v' (p ++ pB x) ∧ WF W w' b v v' := by
  obtain ⟨k, s, t, av, pv, al, pl⟩ := x
  obtain ⟨hk, hs, ht, aw, ar, hn, hq⟩ := hx
  obtain ⟨h1, h2⟩ := h
  simp only at hk hs ht aw ar hn hq h1 h2 ⊢
  obtain ⟨a1, c1, rfl⟩ := h1.slice
  obtain ⟨a2, c2, rfl⟩ := h2.slice
  have hI : Hid (IsCoins W0 (.slice a1 al.length c1) al) := h1.coins (by have := right_len ar; omega)
  have hP : Hid (IsPds W0 (.slice a2 pl.length c2) pl) := h2
  clear h1 h2
  have hq : Hid (∀ q ∈ pl, _) := hq
  show Calls Try.prog 17 #[.pointer (some ⟨b, 0, none⟩), .agg #[.int .u8 k, .int .u64 s, .int .u64 t, .slice a1 al.length c1, .slice a2 pl.length c2]] W _
  have hgA : W.grownBy (W.alloc (.cells #[.int .u8 k, .int .u64 s, .int .u64 t, .slice a1 al.length c1, .slice a2 pl.length c2] 33)).drew none := grown_dr (World.grownBy_alloc W _ none)
  have hWa := hW.kept hgA (by simp) (by cases v.ownBlock <;> simp)
  have hbk := hW.lt
  have hne : some W.heap.size ≠ v.ownBlock := fun e => by have := (hW.2.lt _ e.symm).2; omega
  have hnb : W.heap.size ≠ b := by omega
  have hA0 : (W.alloc (.cells #[.int .u8 k, .int .u64 s, .int .u64 t, .slice a1 al.length c1, .slice a2 pl.length c2] 33)).drew.heap[W.heap.size]? = some (.cells #[.int .u8 k, .int .u64 s, .int .u64 t, .slice a1 al.length c1, .slice a2 pl.length c2] 33 (0, 0)) := al_at rfl
  have hAs : (W.alloc (.cells #[.int .u8 k, .int .u64 s, .int .u64 t, .slice a1 al.length c1, .slice a2 pl.length c2] 33)).drew.heap.size = W.heap.size + 1 := by show (W.alloc _).heap.size = _; simp
  have hWA : Below W0.heap.size W0 (W.alloc (.cells #[.int .u8 k, .int .u64 s, .int .u64 t, .slice a1 al.length c1, .slice a2 pl.length c2] 33)).drew := bd (ba hW0 _)
  have hal := coB_len ar
  have hw8 : IntKind.u8.wrap (pl.length : Int) = (pl.length : Int) := by rw [IntKind.wrap_u8]; omega
  go_enter Try.func17, Try.ntmps17
  go_upto_region 1 with fail
  go_region_held2 (fun Y => Y.cell? ⟨W.heap.size, 0, none⟩ = some (.int .u8 k) ∧ Y.cell? ⟨W.heap.size, 1, none⟩ = some (.int .u64 s) ∧ Y.cell? ⟨W.heap.size, 2, none⟩ = some (.int .u64 t) ∧ Y.cell? ⟨W.heap.size, 3, none⟩ = some (.slice a1 al.length c1) ∧ Y.cell? ⟨W.heap.size, 4, none⟩ = some (.slice a2 pl.length c2)) (go_simp) (first
    | (go_at_call 44; with_reducible refine (wByte_any k hWa (Nat.le_trans hbase hgA.size) (by omega)).mono ?_; rintro e w1 ⟨rfl, v1, hW1, hF1⟩; have n1 := hF1.own_ne (n := W.heap.size) (by omega) hne; have q1 := (hF1.block W.heap.size (by omega) hnb hne).trans hA0; obtain ⟨e1, f1⟩ := cells_of_block q1; have z1 := hF1.size)
    | (go_at_call 16; with_reducible refine (wLong_any s hs hW1 (by omega) (by simp; omega)).mono ?_; rintro e w2 ⟨rfl, v2, hW2, hF2⟩; have n2 := hF2.own_ne (n := W.heap.size) (by omega) n1; have q2 := (hF2.block W.heap.size (by omega) hnb n1).trans q1; obtain ⟨e2, f2⟩ := cells_of_block q2; have z2 := hF2.size)
    | (go_at_call 16; with_reducible refine (wLong_any t ht hW2 (by omega) (by simp [be_len]; omega)).mono ?_; rintro e w3 ⟨rfl, v3, hW3, hF3⟩; have n3 := hF3.own_ne (n := W.heap.size) (by omega) n2; have q3 := (hF3.block W.heap.size (by omega) hnb n2).trans q2; obtain ⟨e3, f3⟩ := cells_of_block q3; have z3 := hF3.size)
    | (go_at_call 45; with_reducible refine (wCoinsF hW3 (by omega) aw ar (by simp [be_len]; omega) (Far.low hI.out (WF.low hWA (hF1.trans (hF2.trans hF3)) hWa hb hb0) hW3 hb hb0)).mono ?_; rintro e w4 ⟨rfl, v4, hW4, hF4⟩; have n4 := hF4.own_ne (n := W.heap.size) (by omega) n3; have q4 := (hF4.block W.heap.size (by omega) hnb n3).trans q3; obtain ⟨e4, f4⟩ := cells_of_block q4; have z4 := hF4.size)
    | (go_at_call 44; refine (wByte_any (pl.length : Int) hW4 (by omega) (by simp [be_len]; omega)).mono ?_; rintro e w5 ⟨rfl, v5, hW5, hF5⟩; have n5 := hF5.own_ne (n := W.heap.size) (by omega) n4; have q5 := (hF5.block W.heap.size (by omega) hnb n4).trans q4; obtain ⟨e5, f5⟩ := cells_of_block q5; have z5 := hF5.size))
  have hF15 := hF1.trans (hF2.trans (hF3.trans (hF4.trans hF5)))
  have hW5' : WrAt w5 b base v5 (p ++ ([k] ++ be s 8 ++ be t 8 ++ coB al ++ [(pl.length : Int)])) := by
    have e : p ++ ([k] ++ be s 8 ++ be t 8 ++ coB al ++ [(pl.length : Int)]) = p ++ [k] ++ be s 8 ++ be t 8 ++ coB al ++ [(pl.length : Int)] := by simp
    rw [e]; exact hW5
  have hB5 : Below W0.heap.size W0 w5 := WF.low hWA hF15 hWa hb hb0
  have hFW := WF.pre hgA hF15
  have hpl : (p ++ ([k] ++ be s 8 ++ be t 8 ++ coB al ++ [(pl.length : Int)])).length ≤ p.length + 300 := by simp [be_len]; omega
  generalize hp0 : p ++ ([k] ++ be s 8 ++ be t 8 ++ coB al ++ [(pl.length : Int)]) = p0 at *
  have hp0 : Hid (p0 = p ++ ([k] ++ be s 8 ++ be t 8 ++ coB al ++ [(pl.length : Int)])) := hp0.symm
  have hW5s := hW5'.lt
  clear hW1 hW2 hW3 hW4 hW5 hF1 hF2 hF3 hF4 hF5 hF15 e1 f1 e2 f2 e3 f3 e4 f4 q1 q2 q3 q4 n1 n2 n3 n4 hWa hA0 hgA hWA hI
  go_wp2
  go_loopw [27] (fun i X => ∃ (j : Nat) (vj : Value), j ≤ pl.length ∧ i = .int .i64 (j : Int) ∧ WrAt X b base vj (p0 ++ (pl.take j).flatMap qB) ∧ WF w5 X b v5 vj) (fun i _ => pl.length - (intOf i).toNat)
  case atStart => exact ⟨0, v5, by omega, rfl, by simpa using hW5', ⟨rfl, rfl, rfl, Nat.le_refl _, fun _ _ _ _ => rfl, .inl rfl⟩⟩
  case round =>
    obtain ⟨j, vj, hj, rfl, hWj, hFj⟩ := hrel
    have hsz := hFj.size
    have hBj := WF.low hB5 hFj hW5' hb hb0
    by_cases hlt : j < pl.length
    · obtain ⟨blk, off, rfl, hbl, d0, d1, d2⟩ := pds_at hP.out j pl[j] (List.getElem?_eq_getElem hlt)
      obtain ⟨hqn, hqw, hqr⟩ := hq.out pl[j] (List.getElem_mem hlt)
      have htk : Hid ((pl.take (j + 1)).flatMap qB = (pl.take j).flatMap qB ++ qB pl[j]) := by show _ = _; rw [List.take_succ_eq_append_getElem hlt, List.flatMap_append]; simp
      have hlen : ((pl.take j).flatMap qB).length ≤ 281 * 16 := by
        have := qsB_len (l := pl.take j) (fun q hq' => (hq.out q (List.mem_of_mem_take hq')).2.2)
        rw [List.length_take] at this
        omega
      have c0 := (hBj.cell (p := ⟨blk, off + j * 2, none⟩) hbl).trans d0
      have c1 := (hBj.cell (p := ⟨blk, off + j * 2 + 1, none⟩) hbl).trans d1
      generalize pl[j] = q at *
      obtain ⟨n, u, l⟩ := q
      simp only at hqn hqw hqr c0 c1 d2
      obtain ⟨aq, cq, rfl⟩ := d2.slice
      have hI : Hid (IsCoins W0 (.slice aq l.length cq) l) := d2.coins (by have := right_len hqr; omega)
      have hlt' : (j : Int) < (pl.length : Int) := by omega
      have hgA : wr.grownBy (wr.alloc (.cells #[.int .u64 n, .slice aq l.length cq] 71)).drew none := grown_dr (World.grownBy_alloc wr _ none)
      have hWa := hWj.kept hgA (by simp) (by cases vj.ownBlock <;> simp)
      have hbk2 := hWj.lt
      have hne2 : some wr.heap.size ≠ vj.ownBlock := fun e => by have := (hWj.2.lt _ e.symm).2; omega
      have hnb2 : wr.heap.size ≠ b := by omega
      have hA0 : (wr.alloc (.cells #[.int .u64 n, .slice aq l.length cq] 71)).drew.heap[wr.heap.size]? = some (.cells #[.int .u64 n, .slice aq l.length cq] 71 (0, 0)) := al_at rfl
      have hAs2 : (wr.alloc (.cells #[.int .u64 n, .slice aq l.length cq] 71)).drew.heap.size = wr.heap.size + 1 := by show (wr.alloc _).heap.size = _; simp
      have hBA : Below W0.heap.size W0 (wr.alloc (.cells #[.int .u64 n, .slice aq l.length cq] 71)).drew := bd (ba hBj _)
      have hpj : (p0 ++ (pl.take j).flatMap qB).length ≤ p.length + 300 + 281 * 16 := by rw [List.length_append]; omega
      clear d0 d1 d2 hlen hpl
      go_upto_region 5 with fail
      go_region_held2 (fun Y => Y.cell? ⟨wr.heap.size, 0, none⟩ = some (.int .u64 n) ∧ Y.cell? ⟨wr.heap.size, 1, none⟩ = some (.slice aq l.length cq)) (go_simp) (first
        | (go_at_call 16; with_reducible refine (wLong_any n hqn hWa (by omega) (by omega)).mono ?_; rintro e w6 ⟨rfl, v6, hW6, hF6⟩; have n6 := hF6.own_ne (n := wr.heap.size) (by omega) hne2; have q6 := (hF6.block wr.heap.size (by omega) hnb2 hne2).trans hA0; obtain ⟨e6, f6⟩ := cells_of_block q6; have z6 := hF6.size)
        | (go_at_call 45; with_reducible refine (wCoinsF hW6 (by omega) hqw hqr (by rw [List.length_append, be_len]; omega) (Far.low hI.out (WF.low hBA hF6 hWa hb hb0) hW6 hb hb0)).mono ?_; rintro e w7 ⟨rfl, v7, hW7, hF7⟩; have q7 := (hF7.block wr.heap.size (by omega) hnb2 n6).trans q6; obtain ⟨e7, f7⟩ := cells_of_block q7))
      all_goals go_wp2
      all_goals go_roundw
      case rel =>
        refine ⟨j + 1, v7, by omega, by go_num, ?_, hFj.trans (WF.pre hgA (hF6.trans hF7))⟩
        rw [htk.out]
        have e : p0 ++ ((pl.take j).flatMap qB ++ qB ⟨n, .slice aq l.length cq, l⟩) = p0 ++ (pl.take j).flatMap qB ++ be n 8 ++ coB l := by simp [qB]
        rw [e]; exact hW7
      case measure => (simp [intOf] <;> omega)
    · obtain rfl : j = pl.length := by omega
      rw [List.take_length] at hWj
      go_wp2
      refine bodyPost_end (v := .tuple #[]) (by simp [results, Try.results17]) rfl ⟨rfl, vj, ?_, hFW.trans hFj⟩
      rw [hp0.out] at hWj
      simpa [pB] using hWj
end Go.Proofs.Ytjhjgncnadhbhaa

/- Several texts, one behind the other: PY2, PY3, PY4, PY5, PY6, PY7. -/
/- plan: a plan is read. -/
namespace Go.Proofs.Ytjhjgncnadhbhaa
open Go.RowKit

/-- What of a period is told by its bytes. -/
def nl (q : Pd) : Int × List Cn := (q.n, q.l)
theorem rd_be8 {n : Int} (h0 : 0 ≤ n) (h1 : n < 18446744073709551616) : rd (be n 8) = n := by
  simp only [be, rd, List.foldl, Int.pow_zero, Int.pow_succ, Int.ediv_one, Int.one_mul]
  omega
theorem numS_be8 {n : Int} (h0 : 0 ≤ n) (h1 : n < 18446744073709551616) (r : List Int) : numS (some (be n 8 ++ r)) 8 = (n, some r) := by
  have h := takeS_app (be n 8) r
  rw [be_len] at h
  unfold numS; rw [h, rd_be8 h0 h1]
section
variable {W : World} {b : Nat} {D : Option Nat} {r : List Int}
theorem rdLong {x : Int} (h0 : 0 ≤ x ∧ x < 18446744073709551616) (hD : D ≠ some b) (h : RdAt W b D (some (be x 8 ++ r))) :
    Calls Try.prog 24 #[.pointer (some ⟨b, 0, none⟩)] W fun e w' => e = .returned (.int .u64 x) ∧ RdAt w' b D (some r) ∧ W.grownBy w' (some b) := by
  have := rLong_any hD h
  rw [numS_be8 h0.1 h0.2] at this
  exact this
end
/-- A period more, as a step of a region that draws its order. -/
theorem per_appR {X : World} {lo bp : Nat} {v : Value} {qs : List Pd} (hr : QsAt X lo bp v qs) (hlo : lo ≤ X.heap.size) (hbp : bp < X.heap.size) (hl : qs.length ≤ 1000) (q : Pd) (h1 : q.v.oneCell' = true) (hq : IsCL X q.v q.l) (hqn : ∀ g, q.v.ownBlock = some g → g < X.heap.size ∧ v.ownBlock ≠ some g ∧ bp < g) {o : Oper} {a : Act} {K : Act → World → Prop} {Q : Exit → Act → World → Prop} (s y : Operand)
    (ho : o.op = .call { callee := .builtin .append, args := #[s, y], argTypes := #[31, 31] }) (hs : a.eval s = v) {g : Nat} (hx : a.eval y = .slice (some ⟨g, 0, none⟩) 1 1) (hc : X.heap[g]? = some (.cells #[.int .u64 q.n, q.v] 71 (0, 0)))
    (k : ∀ qs' v' w', Hid (qs' = qs ++ [q]) → QsAt w' lo bp v' qs' → X.grownBy w' v.ownBlock → (∀ n, n < X.heap.size → v.ownBlock ≠ some n → v'.ownBlock ≠ some n) → K (a.put o.dst v') w') : o.wp Try.prog a X K Q := by
  obtain ⟨i0, hi, hz0, hz1, hz2⟩ := info_parts period_info
  refine wp_append_own_at X s y 31 ho lo 71 i0 _ 2 32 Try.underlying31 hi hz0 hz1 hz2 rfl (by decide) v qs.length (cellsP qs) hs hr.row ⟨g, 0, none⟩ 1 1 [.int .u64 q.n, q.v] hx rfl (fun j u hj => by rw [add_cell, Nat.zero_add, (cells_of_block hc).1]; simpa using hj) (fun u hu => by simp at hu; rcases hu with rfl | rfl; rfl; exact h1) (by unfold maxLen; omega) (by omega) hlo ?_
  intro u' w' hown hg _ hat
  have kk : ∀ g, g < X.heap.size → v.ownBlock ≠ some g → w'.heap[g]? = X.heap[g]? := fun n hn hne => hg.block n hn (Ne.symm hne)
  have nn : ∀ g, g < X.heap.size → v.ownBlock ≠ some g → u'.ownBlock ≠ some g := fun n hn hne e => by
    rcases hat with h4 | h4
    · rw [h4] at e; exact hne e
    · rw [h4] at e; injection e with e; omega
  refine k (qs ++ [q]) u' w' rfl ⟨by rw [List.length_append, cellsP_app]; exact hown, nn bp hbp hr.nb, fun x hx => ?_⟩ hg nn
  rcases List.mem_append.1 hx with hx | hx
  · obtain ⟨q1, q2⟩ := hr.all x hx
    exact ⟨q1.keep (fun g hv => kk g (q2 g hv).1 (q2 g hv).2.1) hg.size, fun g hv => ⟨Nat.lt_of_lt_of_le (q2 g hv).1 hg.size, nn g (q2 g hv).1 (q2 g hv).2.1, (q2 g hv).2.2⟩⟩
  · rw [List.mem_singleton] at hx
    subst hx
    exact ⟨hq.keep (fun g hv => kk g (hqn g hv).1 (hqn g hv).2.1) hg.size, fun g hv => ⟨Nat.lt_of_lt_of_le (hqn g hv).1 hg.size, nn g (hqn g hv).1 (hqn g hv).2.1, (hqn g hv).2.2⟩⟩
/-- What lies where while a plan is read: the answer's place, the plan, its coins and periods, the reader. -/
structure TSt (W X : World) (B b : Nat) (D : Option Nat) (k s e : Int) (av : Value) (al : List Cn) (ap : Option Addr) (cp : Nat) (qs : List Pd) (rest : List Int) : Prop where
  res : X.heap[W.heap.size]? = some (.cells #[.int .u8 0, .int .u64 0, .int .u64 0, .slice none 0 0, .slice none 0 0] 33 (0, 0))
  box : X.heap[B]? = some (.cells #[.int .u8 k, .int .u64 s, .int .u64 e, av, .slice ap qs.length cp] 33 (0, 0))
  q : QsAt X (B + 1) B (.slice ap qs.length cp) qs
  a : IsCL X av al
  ab : ∀ g, av.ownBlock = some g → W.heap.size < g ∧ g < B
  rd : RdAt X b D (some rest)
  gr : W.grownBy X (some b)
  lo : b < W.heap.size ∧ W.heap.size < B
  sz : B < X.heap.size
  d : ∀ d, D = some d → d < W.heap.size
  db : D ≠ some b
section
variable {W X Y : World} {B b : Nat} {D : Option Nat} {k s e : Int} {av : Value} {al : List Cn} {ap : Option Addr} {cp : Nat} {qs : List Pd} {rest : List Int}
theorem TSt.read (h : TSt W X B b D k s e av al ap cp qs rest) {rest' : List Int} (hr : RdAt Y b D (some rest')) (hg : X.grownBy Y (some b)) : TSt W Y B b D k s e av al ap cp qs rest' := by
  obtain ⟨l1, l2⟩ := h.lo
  refine ⟨(hg.block _ (by have := h.sz; omega) (by simp; omega)).trans h.res, (hg.block _ h.sz (by simp; omega)).trans h.box, h.q.kept (j := b) (by omega) (fun e => by have := (h.q.row.lt b e).1; omega) hg, h.a.keep (fun g hv => hg.block g (by have := h.ab g hv; have := h.sz; omega) (by have := h.ab g hv; simp; omega)) hg.size, h.ab, hr, grown_tr h.gr hg, h.lo, Nat.lt_of_lt_of_le h.sz hg.size, h.d, h.db⟩
theorem TSt.up (h : TSt W X B b D k s e av al ap cp qs rest) (hg : X.grownBy Y none) : TSt W Y B b D k s e av al ap cp qs rest :=
  h.read (h.rd.kept hg (by simp) (by cases D <;> simp)) (grown_up hg)
theorem TSt.c4 (h : TSt W X B b D k s e av al ap cp qs rest) : X.cell? ⟨B, 4, none⟩ = some (.slice ap qs.length cp) := (cells_of_block h.box).1 4
/-- The row of periods has grown and is laid into the plan anew. -/
theorem TSt.grow (h : TSt W X B b D k s e av al ap cp qs rest) {ap' : Option Addr} {cp' : Nat} {qs' : List Pd} (hQ : QsAt Y (B + 1) B (.slice ap' qs'.length cp') qs') (hg : X.grownBy Y (Value.slice ap qs.length cp).ownBlock) (hn : ∀ n, n < X.heap.size → (Value.slice ap qs.length cp).ownBlock ≠ some n → (Value.slice ap' qs'.length cp').ownBlock ≠ some n) :
    TSt W (Y.setCell ⟨B, 4, none⟩ (.slice ap' qs'.length cp')) B b D k s e av al ap' cp' qs' rest := by
  obtain ⟨l1, l2⟩ := h.lo
  have hz := h.sz
  have ne : ∀ j, j ≤ B → (Value.slice ap qs.length cp).ownBlock ≠ some j := fun j hj e => by have := (h.q.row.lt j e).1; omega
  have hs := grown_se (grown_ref Y (some B)) 4 (.slice ap' qs'.length cp')
  have kb : ∀ j, j < B → (Y.setCell ⟨B, 4, none⟩ (.slice ap' qs'.length cp')).heap[j]? = X.heap[j]? := fun j hj =>
    (hs.block j (Nat.lt_of_lt_of_le (by omega) hg.size) (by simp; omega)).trans (hg.block j (by omega) (Ne.symm (ne j (by omega))))
  have hb : Y.heap[B]? = _ := (hg.block B hz (Ne.symm (ne B (Nat.le_refl _)))).trans h.box
  refine ⟨(kb _ l2).trans h.res, by rw [block_set _ hb]; rfl, hQ.kept (Nat.le_refl _) hQ.nb hs, h.a.keep (fun g hv => kb g (h.ab g hv).2) (Nat.le_trans hg.size hs.size), h.ab, ?_, ?_, h.lo, Nat.lt_of_lt_of_le hz (Nat.le_trans hg.size hs.size), h.d, h.db⟩
  · refine (h.rd.kept hg (Ne.symm (ne b (by omega))) ?_).kept hs (by simp; omega) ?_
    · cases hd : D with
      | none => exact .inl rfl
      | some d => right; intro e; exact ne d (by have := h.d d hd; omega) e.symm
    · cases hd : D with
      | none => exact .inl rfl
      | some d => right; intro e; simp at e; have := h.d d hd; omega
  · refine ⟨hs.os.trans (hg.os.trans h.gr.os), hs.tape.trans (hg.tape.trans h.gr.tape), hs.output.trans (hg.output.trans h.gr.output), Nat.le_trans h.gr.size (Nat.le_trans hg.size hs.size), fun j hj hne => (kb j (by omega)).trans (h.gr.block j hj hne)⟩
end
end Go.Proofs.Ytjhjgncnadhbhaa

/- plan: a plan is read. -/
namespace Go.Proofs.Ytjhjgncnadhbhaa
open Go.RowKit

theorem pB_app (x : Pn) (r : List Int) : pB x ++ r = x.k :: (be x.s 8 ++ (be x.e 8 ++ (coB x.al ++ ((x.pl.length : Int) :: (x.pl.flatMap qB ++ r))))) := by simp [pB]
theorem hid_of {p : Prop} (h : p) : Hid p := h
theorem nl_len {a b : List Pd} (h : a.map nl = b.map nl) : a.length = b.length := by
  have := congrArg List.length h; simpa using this
set_option maxRecDepth 20000 in
set_option maxHeartbeats 8000000 in
theorem planTake_any {W : World} {b : Nat} {D : Option Nat} {x : Pn} {r : List Int} (hx : LayOk x) (hgood : ∀ av pv qs, qs.map nl = x.pl.map nl → PnOk ⟨x.k, x.s, x.e, av, pv, x.al, qs⟩ ∧ rightB ⟨x.k, x.s, x.e, av, pv, x.al, qs⟩ = true) (hD : D ≠ some b) (hDl : ∀ d, D = some d → d < W.heap.size) (h : RdAt W b D (some (pB x ++ r))) :
    Calls Try.prog 25 #[.pointer (some ⟨b, 0, none⟩)] W fun e w' => ∃ a1 c1 ap cp qs, e = .returned (pnV ⟨x.k, x.s, x.e, .slice a1 x.al.length c1, .slice ap qs.length cp, x.al, qs⟩) ∧ qs.map nl = x.pl.map nl ∧ PnAt w' ⟨x.k, x.s, x.e, .slice a1 x.al.length c1, .slice ap qs.length cp, x.al, qs⟩ ∧ RdAt w' b D (some r) ∧ W.grownBy w' (some b) := by
  rw [pB_app] at h
  obtain ⟨k, s, t, av, pv, al, pl⟩ := x
  obtain ⟨hk, hs, ht, aw, ar, hn, hq⟩ := hx
  simp only at hk hs ht aw ar hn hq h hgood ⊢
  have hq : Hid (∀ q ∈ pl, _) := hq
  have hgood : Hid (∀ av pv qs, _) := hgood
  have hbl := h.lt
  have hnb : some W.heap.size ≠ some b := by simp; omega
  have hgA : W.grownBy (W.alloc (.cells #[.int .u8 0, .int .u64 0, .int .u64 0, .slice none 0 0, .slice none 0 0] 33)) none := World.grownBy_alloc W _ _
  have hA0 : (W.alloc (.cells #[.int .u8 0, .int .u64 0, .int .u64 0, .slice none 0 0, .slice none 0 0] 33)).heap[W.heap.size]? = some (.cells #[.int .u8 0, .int .u64 0, .int .u64 0, .slice none 0 0, .slice none 0 0] 33 (0, 0)) := al_at rfl
  have h0 := h.kept hgA (by simp) (by cases D <;> simp)
  have d0 := dlt_of hDl hgA
  have hAs : (W.alloc (.cells #[.int .u8 0, .int .u64 0, .int .u64 0, .slice none 0 0, .slice none 0 0] 33)).heap.size = W.heap.size + 1 := by simp
  clear h
  go_enter Try.func25, Try.ntmps25
  go_wp2_with (first
    | (go_at_call 49; with_reducible refine (rdByte (x := k) hD h0).mono ?_; rintro e w1 ⟨rfl, h1, k1⟩; have d1 := dlt_of d0 k1; have q1 := (k1.block W.heap.size (Array.getElem?_eq_some_iff.1 hA0).1 hnb).trans hA0)
    | (go_at_call 24; with_reducible refine (rdLong (x := s) hs hD h1).mono ?_; rintro e w2 ⟨rfl, h2, k2⟩; have d2 := dlt_of d1 k2; have q2 := (k2.block W.heap.size (Array.getElem?_eq_some_iff.1 q1).1 hnb).trans q1)
    | (go_at_call 24; with_reducible refine (rdLong (x := t) ht hD h2).mono ?_; rintro e w3 ⟨rfl, h3, k3⟩; have d3 := dlt_of d2 k3; have q3 := (k3.block W.heap.size (Array.getElem?_eq_some_iff.1 q2).1 hnb).trans q2)
    | (go_at_call 50; (with_reducible refine (rdCoins aw ar hD d3 h3).mono ?_; rintro e w4 ⟨a1, c1, rfl, u1, h4, k4⟩; have d4 := dlt_of d3 k4; have q4 := (k4.block W.heap.size (Array.getElem?_eq_some_iff.1 q3).1 hnb).trans q3; have z4 := (Array.getElem?_eq_some_iff.1 q4).1; have z3 := (Array.getElem?_eq_some_iff.1 q3).1; have zz : W.heap.size + 1 ≤ w3.heap.size := Nat.le_trans (Nat.le_of_eq hAs.symm) (Nat.le_trans k1.size (Nat.le_trans k2.size k3.size)); have hT0 : TSt W (w4.alloc (.cells #[.int .u8 k, .int .u64 s, .int .u64 t, .slice a1 al.length c1, .slice none 0 0] 33)) w4.heap.size b D k s t (.slice a1 al.length c1) al none 0 [] ((pl.length : Int) :: (pl.flatMap qB ++ r)) := ⟨(al_old z4).trans q4, al_at rfl, QsAt.nil _ _ _, ((own_coins u1 (by have := right_len ar; omega)).cl).below (ba (Below.refl _ _) _), fun g hg => by (have := u1.lt g hg; omega), h4.kept (World.grownBy_alloc w4 _ none) (by simp) (by cases D <;> simp), grown_tr (grown_up hgA) (grown_tr k1 (grown_tr k2 (grown_tr k3 (grown_tr k4 (World.grownBy_alloc w4 _ _))))), ⟨hbl, z4⟩, by simp, hDl, hD⟩))
    | (go_at_call 49; with_reducible refine (rdByte (x := (pl.length : Int)) hD hT0.rd).mono ?_; rintro e w5 ⟨rfl, h5, k5⟩; have hT5 := hT0.read h5 k5))
  have hT5 : Hid (TSt W w5 w4.heap.size b D k s t (.slice a1 al.length c1) al none 0 [] (pl.flatMap qB ++ r)) := hT5
  clear hT0 h0 h1 h2 h3 h4 h5 k1 k2 k3 k4 k5 q1 q2 q3 q4 d0 d1 d2 d3 d4 u1 z3 z4 zz hA0 hgA hAs
  generalize w4.heap.size = B at *
  clear w1 w2 w3 w4
  go_loopw [4] (fun i X => ∃ (j : Nat) (ap : Option Addr) (cp : Nat) (qs : List Pd), j ≤ pl.length ∧ i = .int .u8 ((pl.length : Int) - (j : Int)) ∧ Hid (qs.map nl = (pl.take j).map nl) ∧ Hid (TSt W X B b D k s t (.slice a1 al.length c1) al ap cp qs ((pl.drop j).flatMap qB ++ r))) (fun i _ => (intOf i).toNat)
  case atStart => exact ⟨0, none, 0, [], by omega, by simp, rfl, by simpa using hT5⟩
  case round =>
    obtain ⟨j, ap, cp, qs, hj, rfl, hqs, hT⟩ := hrel
    have hTr : Hid (RdAt wr b D (some ((pl.drop j).flatMap qB ++ r))) := hT.out.rd
    by_cases hlt : j < pl.length
    · have hj0 : (0 : Int) < (pl.length : Int) - (j : Int) := by omega
      have hjd : decide ((0 : Int) < (pl.length : Int) - (j : Int)) = true := decide_eq_true hj0
      have hdr : Hid ((pl.drop j).flatMap qB ++ r = be pl[j].n 8 ++ (coB pl[j].l ++ ((pl.drop (j + 1)).flatMap qB ++ r))) := by show _ = _; rw [List.drop_eq_getElem_cons hlt, List.flatMap_cons]; simp [qB]
      have htk : Hid ((pl.take (j + 1)).map nl = (pl.take j).map nl ++ [(pl[j].n, pl[j].l)]) := by show _ = _; rw [List.take_succ_eq_append_getElem hlt, List.map_append]; rfl
      obtain ⟨hqn, hqw, hqr⟩ := hq.out pl[j] (List.getElem_mem hlt)
      generalize pl[j].n = n at *
      generalize pl[j].l = l at *
      have hT : Hid _ := hT.out.up (grown_dr (grown_ref wr none))
      rw [hdr.out] at hT
      go_wp2_with (go_at_call 29; with_reducible refine (rBad_any hTr.out).mono ?_; rintro e w' ⟨rfl, hww⟩; obtain rfl := hww.symm; clear hww)
      clear hTr hjd
      have b0 := hT.out.c4
      have hq16 : qs.length ≤ 16 := by have := nl_len hqs.out; rw [this, List.length_take]; omega
      have hq16 : Hid (qs.length ≤ 1000) := Nat.le_trans hq16 (by decide)
      have hw1 : IntKind.u8.wrap ((pl.length : Int) - (j : Int) - 1) = (pl.length : Int) - (j : Int) - 1 := by rw [IntKind.wrap_u8]; omega
      go_region_law (first
        | (rw [if_pos (by rfl)]; refine per_appR hT3.out.q hB3 hz3 hq16.out ⟨n, .slice a2 l.length c2, l⟩ rfl hI3.out hO3.out _ _ rfl rfl rfl (al_at rfl) ?_; intro qs4 v4 w4 hq4 hQ4 hg4 hn4; obtain ⟨a4, c4, rfl⟩ := row_slice hQ4.row; have hT4 := hid_of (hT3.out.grow hQ4 hg4 hn4); obtain ⟨e4, f4⟩ := cells_of_block ((hg4.block B hz3 (Ne.symm hT3.out.q.nb)).trans hT3.out.box); clear hQ4 hg4 hn4)
        | (go_simp; go_at_call 24; (with_reducible refine (rdLong hqn hD hT.out.rd).mono ?_; rintro e w1 ⟨rfl, h1, k1⟩; have hT1 := hid_of (hT.out.read h1 k1); have b1 := hT1.out.c4; clear h1 k1))
        | (go_simp; go_at_call 50; (with_reducible refine (rdCoins hqw hqr hD (fun d hd => Nat.lt_of_lt_of_le (hDl d hd) hT1.out.gr.size) hT1.out.rd).mono ?_; rintro e w2 ⟨a2, c2, rfl, u2, h2, k2⟩; have hT3 := hid_of ((hT1.out.read h2 k2).up (World.grownBy_alloc w2 (.cells #[.int .u64 n, .slice a2 l.length c2] 71) none)); have b3 := hT3.out.c4; have b2 := (hT1.out.read h2 k2).c4; have hI3 := hid_of (((own_coins u2 (Nat.le_trans (right_len hqr) (by decide))).cl).below (ba (Below.refl _ _) (.cells #[.int .u64 n, .slice a2 l.length c2] 71))); have hO3 := hid_of (p := ∀ g, (Value.slice a2 l.length c2).ownBlock = some g → g < (w2.alloc (.cells #[.int .u64 n, .slice a2 l.length c2] 71)).heap.size ∧ (Value.slice ap qs.length cp).ownBlock ≠ some g ∧ B < g) fun g hg => ⟨Nat.lt_of_lt_of_le (u2.lt g hg).2 (World.grownBy_alloc w2 _ none).size, fun e => absurd (Nat.lt_of_lt_of_le (hT1.out.q.row.lt g e).2 (u2.lt g hg).1) (Nat.lt_irrefl g), Nat.lt_of_lt_of_le hT1.out.sz (u2.lt g hg).1⟩; have hz3 := hT3.out.sz; have hB3 : B + 1 ≤ (w2.alloc (.cells #[.int .u64 n, .slice a2 l.length c2] 71)).heap.size := Nat.succ_le_of_lt hT3.out.sz; clear h2 k2 u2)))
      all_goals
        go_wp2
        go_roundw
        case rel => exact ⟨j + 1, a4, c4, qs4, by omega, by (congr 1; omega), by (show _ = _; rw [hq4.out, List.map_append, hqs.out, htk.out]; rfl), hT4⟩
        case measure => (simp [intOf] <;> omega)
    · obtain rfl : j = pl.length := by omega
      rw [List.take_length] at hqs
      rw [List.drop_length] at hT hTr
      clear hTr
      obtain ⟨hok, hrt⟩ := hgood.out (.slice a1 al.length c1) (.slice ap qs.length cp) qs hqs.out
      have hql : qs.length ≤ 1048576 := by have := nl_len hqs.out; omega
      obtain ⟨e0, f0⟩ := cells_of_block hT.out.box
      have b0 := e0 0; have b1 := e0 1; have b2 := e0 2; have b3 := e0 3; have b4 := e0 4
      have hR0 := planRight_any (x := ⟨k, s, t, .slice a1 al.length c1, .slice ap qs.length cp, al, qs⟩) wr ⟨hT.out.a, hT.out.q.pds hql⟩ hok
      rw [hrt] at hR0
      have hR : Hid (Calls Try.prog 12 #[.agg #[.int .u8 k, .int .u64 s, .int .u64 t, .slice a1 al.length c1, .slice ap qs.length cp]] wr fun e w' => e = .returned (.bool true) ∧ Below wr.heap.size wr w') := hR0
      clear hR0
      go_wp2_with (first
        | (go_at_call 12; (with_reducible refine hR.out.mono ?_; rintro e w6 ⟨rfl, hb6⟩; have hT6 := hid_of (hT.out.up (grown_none hb6)); obtain ⟨e6, f6⟩ := cells_of_block hT6.out.box; have r6 := hid_of hT6.out.rd; obtain ⟨e7, f7⟩ := cells_of_block hT6.out.res))
        | (go_at_call 29; (with_reducible refine (rBad_any r6.out).mono ?_; rintro e w7 ⟨rfl, hw7⟩; obtain rfl := hw7.symm; clear hw7)))
      have hfl : (List.flatMap qB [] ++ r) = r := rfl
      have hfin : ∀ X : World, w6.grownBy X (some W.heap.size) → PnAt X ⟨k, s, t, .slice a1 al.length c1, .slice ap qs.length cp, al, qs⟩ ∧ RdAt X b D (some r) ∧ W.grownBy X (some b) := by
        intro X hX
        obtain ⟨l1, l2⟩ := hT6.out.lo
        have hz := hT6.out.sz
        refine ⟨⟨hT6.out.a.keep (fun g hv => hX.block g (by have := hT6.out.ab g hv; omega) (by have := hT6.out.ab g hv; simp; omega)) hX.size, (hT6.out.q.kept (j := W.heap.size) (by omega) (fun e => by have := (hT6.out.q.row.lt _ e).1; omega) hX).pds hql⟩, ?_, grown_new hT6.out.gr hX (Nat.le_refl _)⟩
        refine r6.out.kept hX (by simp; omega) ?_
        cases hd : D with
        | none => exact .inl rfl
        | some d => right; intro e; simp at e; have := hDl d hd; omega
      refine bodyPost_ret (v := .agg #[.int .u8 k, .int .u64 s, .int .u64 t, .slice a1 al.length c1, .slice ap qs.length cp]) (by simp only [results, Try.results25]; go_simp) rfl ⟨a1, c1, ap, cp, qs, rfl, hqs.out, hfin _ ?_⟩
      repeat (first | (with_reducible exact grown_ref _ _) | (with_reducible apply grown_se))
end Go.Proofs.Ytjhjgncnadhbhaa

/- plan: the reference's bytes. -/
namespace Go.Proofs.Ytjhjgncnadhbhaa
open Go.RowKit

/-- Bytes of one's own, and nothing that is old was turned. -/
structure OB (V X : World) (v : Value) (q : List Int) : Prop where
  row : X.ownsRow V.heap.size 5 1 v q.length (encB q)
  b : Below V.heap.size V X
theorem OB.put {V X : World} {v : Value} {q : List Int} (h : OB V X v q) {Y : World} {u : Value} {m : List Int} {lo : Nat} (hu : Y.ownsRow lo 5 1 u m.length (encB m)) (hY : Below X.heap.size X Y) (hm : m ≠ []) (hl : q.length + m.length ≤ 100000) {ops : Array Oper} {rest : List Oper} {o : Oper} {a : Act} {Q : Exit → Act → World → Prop} (hgd : o.guard = none) (s y : Operand)
    (ho : o.op = .call { callee := .builtin .append, args := #[s, y], argTypes := #[42, 42] }) (hs : a.eval s = v) (hx : a.eval y = u)
    (k : ∀ a' c' q' w', Hid (q' = q ++ m) → Hid (OB V w' (.slice a' q'.length c') q') → wpList Try.prog ops Q rest (a.put o.dst (.slice a' q'.length c')) w') : wpList Try.prog ops Q (o :: rest) a Y := by
  obtain ⟨i0, hi, hz0, hz1, hz2⟩ := info_parts u8_info
  have hrow := none_row h.row (grown_none hY)
  have hB := h.b.trans (hY.mono h.b.size)
  rcases src_own hu with ⟨rfl, hq0⟩ | ⟨ad, cap2, rfl, hc2⟩
  · exact absurd hq0 hm
  · refine wpList_append_own Y hgd s y 42 ho V.heap.size 5 i0 (.int .u8 0) 1 1 Try.underlying42 hi hz0 hz1 hz2 rfl (by decide) v q.length (encB q) hs hrow ad _ cap2 (encB m) hx (by simp [encB]) (fun j x hj => by simp only [encB, List.getElem?_map] at hj; obtain ⟨y, hy, rfl⟩ := Option.map_eq_some_iff.1 hj; exact hc2 j y hy) (by simp [encB, Value.oneCell']) (by unfold maxLen; omega) (by omega) hB.size ?_
    intro v3 w3 hown3 hgrow3 _
    have hf : w3.ownsRow V.heap.size 5 1 v3 (q ++ m).length (encB (q ++ m)) := by rw [List.length_append, encB_app]; exact hown3
    obtain ⟨a', c', rfl⟩ := row_slice hf
    exact k a' c' (q ++ m) w3 rfl ⟨hf, hB.grown hgrow3 hB.size (fun j hj => (hrow.lt j hj).1)⟩
theorem qB_snoc (l : List Pd) (q : Pd) : (l ++ [q]).flatMap qB = l.flatMap qB ++ be q.n 8 ++ coB q.l := by simp [qB]
end Go.Proofs.Ytjhjgncnadhbhaa

/- plan: the reference's bytes of a plan. -/
namespace Go.Proofs.Ytjhjgncnadhbhaa
open Go.RowKit

theorem hid_of5 {p : Prop} (h : p) : Hid p := h
theorem long8 (n : Int) (hn : 0 ≤ n ∧ n < 18446744073709551616) (X : World) :
    Calls Try.prog 22 #[.int .u64 n, .int .i64 8] X fun e w' => ∃ u, e = .returned u ∧ w'.ownsRow X.heap.size 5 1 u (be n 8).length (encB (be n 8)) ∧ Below X.heap.size X w' := longR_any n hn 8 (by decide) X
theorem coinsB {X : World} {u : Value} {L : List Cn} (hu : IsCoins X u L) (hwf : ∀ x ∈ L, CnWf x) (hr : rightFrom 0 L = true) :
    Calls Try.prog 47 #[u] X fun e w' => ∃ v, e = .returned v ∧ w'.ownsRow X.heap.size 5 1 v (coB L).length (encB (coB L)) ∧ Below X.heap.size X w' := coinsR4_any hwf (Nat.le_trans (right_len hr) (by decide)) X hu
theorem be8_ne (n : Int) : be n 8 ≠ [] := by simp [be]
theorem coB_ne (L : List Cn) : coB L ≠ [] := by simp [coB]
theorem ob_made (X : World) (n : Int) : (X.alloc (.cells #[.int .u8 n] 5)).ownsRow X.heap.size 5 1 (.slice (some ⟨X.heap.size, 0, none⟩) 1 1) ([n] : List Int).length (encB [n]) := made1 X n (Nat.le_refl _)
set_option maxRecDepth 20000 in
set_option maxHeartbeats 8000000 in
theorem planBytesR_any {W : World} {x : Pn} (h : PnAt W x) (hx : LayOk x) :
    Calls Try.prog 23 #[pnV x] W fun e w' => ∃ u, e = .returned u ∧ w'.ownsRow W.heap.size 5 1 u (pB x).length (encB (pB x)) ∧ Below W.heap.size W w' := by
  obtain ⟨k, s, t, av, pv, al, pl⟩ := x
  obtain ⟨hk, hs, ht, aw, ar, hn, hq⟩ := hx
  obtain ⟨h1, h2⟩ := h
  simp only at hk hs ht aw ar hn hq h1 h2 ⊢
  obtain ⟨a1, c1, rfl⟩ := h1.slice
  obtain ⟨a2, c2, rfl⟩ := h2.slice
  have hal8 := right_len ar
  have hI : Hid (IsCoins W (.slice a1 al.length c1) al) := h1.coins (by omega)
  have hP : Hid (IsPds W (.slice a2 pl.length c2) pl) := h2
  have hq : Hid (∀ q ∈ pl, _) := hq
  clear h1 h2
  show Calls Try.prog 23 #[.agg #[.int .u8 k, .int .u64 s, .int .u64 t, .slice a1 al.length c1, .slice a2 pl.length c2]] W _
  obtain ⟨V, hV⟩ : ∃ V, V = W.alloc (.cells #[.int .u8 k, .int .u64 s, .int .u64 t, .slice a1 al.length c1, .slice a2 pl.length c2] 33) := ⟨_, rfl⟩
  have hVs : V.heap.size = W.heap.size + 1 := by rw [hV]; simp
  have hWV : Below W.heap.size W V := by rw [hV]; exact ba (Below.refl _ _) _
  have hVb : V.heap[W.heap.size]? = some (.cells #[.int .u8 k, .int .u64 s, .int .u64 t, .slice a1 al.length c1, .slice a2 pl.length c2] 33 (0, 0)) := by rw [hV]; exact al_at rfl
  have hbx : Hid (∀ X, Below V.heap.size V X → (X.cell? ⟨W.heap.size, 1, none⟩ = some (.int .u64 s) ∧ X.cell? ⟨W.heap.size, 2, none⟩ = some (.int .u64 t) ∧ X.cell? ⟨W.heap.size, 3, none⟩ = some (.slice a1 al.length c1) ∧ X.cell? ⟨W.heap.size, 4, none⟩ = some (.slice a2 pl.length c2)) ∧ Below W.heap.size W X) := fun X hX => by
    obtain ⟨c, f⟩ := cells_of_block ((hX.block W.heap.size (by omega)).trans hVb)
    exact ⟨⟨c 1, c 2, c 3, c 4⟩, hWV.trans (hX.mono (by omega))⟩
  have hw8 : IntKind.u8.wrap (pl.length : Int) = (pl.length : Int) := by rw [IntKind.wrap_u8]; omega
  have hcl := coB_len ar
  have hO0 : Hid (OB V (V.alloc (.cells #[.int .u8 k] 5)) (.slice (some ⟨V.heap.size, 0, none⟩) [k].length 1) [k]) := ⟨made1 V k (Nat.le_refl _), ba (Below.refl _ _) _⟩
  obtain ⟨⟨x1, x2, x3, x4⟩, hX0⟩ := hbx.out _ hO0.out.b
  go_enter Try.func23, Try.ntmps23
  go_upto_region 1 with fail
  rw [← hV]
  obtain ⟨v0, fv⟩ := cells_of_block hVb
  have v00 := v0 0
  have hVH : Hid (V.heap.size = W.heap.size + 1) := hVs
  clear hV hVs hVb v0
  have l0 : [k].length + (be s 8).length ≤ 100000 := by simp [be_len]
  have l0 := hid_of5 l0
  have hbl : ∀ n, (be n 8).length = 8 := fun n => be_len n 8
  have hbl := hid_of5 hbl
  go_wp2_with (first
    | (go_at_call 22; with_reducible refine (long8 s hs _).mono ?_; rintro e w1 ⟨u1, rfl, ho1, hb1⟩)
    | (at_builtin; (refine hO0.out.put ho1 hb1 (be8_ne _) l0.out rfl _ _ rfl rfl rfl ?_; intro a3 c3 q1 w2 hq1 hO1; have l1 := hid_of5 (show q1.length + (be t 8).length ≤ 100000 by (rw [hq1.out, List.length_append, hbl.out, hbl.out]; simp only [List.length_singleton]; omega)); obtain ⟨⟨y1, y2, y3, y4⟩, hX1⟩ := hbx.out _ hO1.out.b; clear ho1 hb1))
    | (go_at_call 22; with_reducible refine (long8 t ht _).mono ?_; rintro e w3 ⟨u3, rfl, ho3, hb3⟩)
    | (at_builtin; (refine hO1.out.put ho3 hb3 (be8_ne _) l1.out rfl _ _ rfl rfl rfl ?_; intro a4 c4 q2 w4 hq2 hO2; have l2 := hid_of5 (show q2.length + (coB al).length ≤ 100000 by (rw [hq2.out, hq1.out, List.length_append, List.length_append, hbl.out, hbl.out]; simp only [List.length_singleton]; omega)); obtain ⟨⟨z1, z2, z3, z4⟩, hX2⟩ := hbx.out _ hO2.out.b; clear ho3 hb3))
    | (go_at_call 47; (with_reducible refine (coinsB (hI.out.below hX2) aw ar).mono ?_; rintro e w5 ⟨u5, rfl, ho5, hb5⟩))
    | (at_builtin; (refine hO2.out.put ho5 hb5 (coB_ne _) l2.out rfl _ _ rfl rfl rfl ?_; intro a6 c6 q3 w6 hq3 hO3; have l3 := hid_of5 (show q3.length + [(pl.length : Int)].length ≤ 100000 by (rw [hq3.out, hq2.out, hq1.out, List.length_append, List.length_append, List.length_append, hbl.out, hbl.out]; simp only [List.length_singleton]; omega)); obtain ⟨⟨p1, p2, p3, p4⟩, hX3⟩ := hbx.out _ hO3.out.b; clear ho5 hb5))
    | (at_builtin; (refine hO3.out.put (ob_made _ (pl.length : Int)) (ba (Below.refl _ _) _) (by simp) l3.out rfl _ _ rfl rfl rfl ?_; intro a7 c7 q4 w7 hq4 hO4)))
  have hQ0 : Hid (q4 = [k] ++ be s 8 ++ be t 8 ++ coB al ++ [(pl.length : Int)]) := by show _ = _; rw [hq4.out, hq3.out, hq2.out, hq1.out]
  have hQl : q4.length ≤ 300 := by rw [hQ0.out]; simp [be_len]; omega
  clear hq1 hq2 hq3 hq4 hO0 hO1 hO2 hO3 x1 x2 x3 x4 y1 y2 y3 y4 z1 z2 z3 z4 p1 p2 p3 p4 hX0 hX1 hX2 hX3 l0 l1 l2 l3 v00 fv hcl
  go_loopw [3, 4] (fun pv i X => ∃ (j : Nat) (q : List Int) (a : Option Addr) (c : Nat), j ≤ pl.length ∧ i = .int .i64 (j : Int) ∧ pv = .slice a q.length c ∧ Hid (q = q4 ++ (pl.take j).flatMap qB) ∧ Hid (OB V X (.slice a q.length c) q)) (fun _ i _ => pl.length - (intOf i).toNat)
  case atStart => exact ⟨0, q4, a7, c7, by omega, rfl, rfl, by simp [Hid], hO4⟩
  case round =>
    obtain ⟨j, q, a, c, hj, rfl, rfl, hqe, hO⟩ := hrel
    obtain ⟨⟨x1, x2, x3, x4⟩, hX⟩ := hbx.out _ hO.out.b
    by_cases hlt : j < pl.length
    · obtain ⟨blk, off, rfl, hbl2, d0, d1, d2⟩ := pds_at hP.out j pl[j] (List.getElem?_eq_getElem hlt)
      obtain ⟨hqn, hqw, hqr⟩ := hq.out pl[j] (List.getElem_mem hlt)
      have htk : Hid ((pl.take (j + 1)).flatMap qB = (pl.take j).flatMap qB ++ be pl[j].n 8 ++ coB pl[j].l) := by show _ = _; rw [List.take_succ_eq_append_getElem hlt, qB_snoc]
      have hlen : q.length ≤ 300 + 281 * 16 := by
        have := qsB_len (l := pl.take j) (fun q hq' => (hq.out q (List.mem_of_mem_take hq')).2.2)
        rw [List.length_take] at this
        rw [hqe.out, List.length_append]
        omega
      generalize pl[j] = pp at *
      obtain ⟨n, u, l⟩ := pp
      simp only at hqn hqw hqr d0 d1 d2 htk
      have hcl := coB_len hqr
      obtain ⟨aq, cq, rfl⟩ := d2.slice
      have hI : Hid (IsCoins W (.slice aq l.length cq) l) := d2.coins (Nat.le_trans (right_len hqr) (by decide))
      have hlt' : (j : Int) < (pl.length : Int) := by omega
      have hc : Hid (∀ X, Below W.heap.size W X → X.cell? ⟨blk, off + j * 2, none⟩ = some (.int .u64 n) ∧ X.cell? ⟨blk, off + j * 2 + 1, none⟩ = some (.slice aq l.length cq)) := fun X hX => ⟨(hX.cell (p := ⟨blk, _, none⟩) hbl2).trans d0, (hX.cell (p := ⟨blk, _, none⟩) hbl2).trans d1⟩
      obtain ⟨c0, c1'⟩ := hc.out _ hX
      have m0 := hid_of5 (show q.length + (be n 8).length ≤ 100000 by rw [hbl.out]; omega)
      clear d0 d1 d2 hQl
      go_wp2_with (first
        | (go_at_call 22; with_reducible refine (long8 n hqn _).mono ?_; rintro e w1 ⟨u1, rfl, ho1, hb1⟩)
        | (at_builtin; (refine hO.out.put ho1 hb1 (be8_ne _) m0.out rfl _ _ rfl rfl rfl ?_; intro a3 c3 q1 w2 hq1 hO1; obtain ⟨⟨y1, y2, y3, y4⟩, hX1⟩ := hbx.out _ hO1.out.b; obtain ⟨g0, g1⟩ := hc.out _ hX1; have m1 := hid_of5 (show q1.length + (coB l).length ≤ 100000 by (rw [hq1.out, List.length_append, hbl.out]; omega)); clear ho1 hb1))
        | (go_at_call 47; with_reducible refine (coinsB (hI.out.below hX1) hqw hqr).mono ?_; rintro e w5 ⟨u5, rfl, ho5, hb5⟩)
        | (at_builtin; (refine hO1.out.put ho5 hb5 (coB_ne _) m1.out rfl _ _ rfl rfl rfl ?_; intro a6 c6 q2 w6 hq2 hO2; clear ho5 hb5)))
      all_goals go_roundw
      case rel => exact ⟨j + 1, q2, a6, c6, by omega, by go_num, rfl, by (show _ = _; rw [hq2.out, hq1.out, hqe.out, htk.out]; simp), hO2⟩
      case measure => (simp [intOf] <;> omega)
    · obtain rfl : j = pl.length := by omega
      rw [List.take_length] at hqe
      go_wp2
      go_ret
      have hf : q = pB ⟨k, s, t, .slice a1 al.length c1, .slice a2 pl.length c2, al, pl⟩ := by rw [hqe.out, hQ0.out]; simp [pB]
      rw [← hf]
      exact ⟨_, rfl, row_base hO.out.row (by rw [hVH.out]; omega), hX⟩
end Go.Proofs.Ytjhjgncnadhbhaa

/- plan: what is read of a plan's bytes is the plan (plain). -/
namespace Go.Proofs.Ytjhjgncnadhbhaa
open Go.RowKit

theorem nl_tot : ∀ {a b : List Pd}, a.map nl = b.map nl → tot a = tot b
  | [], [], _ => rfl
  | [], _ :: _, h => by simp at h
  | _ :: _, [], h => by simp at h
  | x :: a, y :: b, h => by
    simp only [List.map_cons, List.cons.injEq, nl, Prod.mk.injEq] at h
    funext d
    simp only [tot]
    rw [nl_tot (a := a) (b := b) h.2, h.1.2]
theorem nl_lenS : ∀ {a b : List Pd}, a.map nl = b.map nl → lenS a = lenS b
  | [], [], _ => rfl
  | [], _ :: _, h => by simp at h
  | _ :: _, [], h => by simp at h
  | x :: a, y :: b, h => by
    simp only [List.map_cons, List.cons.injEq, nl, Prod.mk.injEq] at h
    simp only [lenS]
    rw [nl_lenS (a := a) (b := b) h.2, h.1.1]
theorem nl_all : ∀ {a b : List Pd}, a.map nl = b.map nl → a.all pdR = b.all pdR
  | [], [], _ => rfl
  | [], _ :: _, h => by simp at h
  | _ :: _, [], h => by simp at h
  | x :: a, y :: b, h => by
    simp only [List.map_cons, List.cons.injEq, nl, Prod.mk.injEq] at h
    simp only [List.all_cons]
    rw [nl_all (a := a) (b := b) h.2]
    simp only [pdR, h.1.1, h.1.2]
theorem nl_emp {a b : List Pd} (h : a.map nl = b.map nl) : a.isEmpty = b.isEmpty := by
  cases a <;> cases b <;> simp at h ⊢
theorem nl_mem {a b : List Pd} (h : a.map nl = b.map nl) {q : Pd} (hq : q ∈ a) : ∃ p ∈ b, p.n = q.n ∧ p.l = q.l := by
  have h1 : nl q ∈ b.map nl := by rw [← h]; exact List.mem_map_of_mem hq
  obtain ⟨p, hp, e⟩ := List.mem_map.1 h1
  simp only [nl, Prod.mk.injEq] at e
  exact ⟨p, hp, e.1, e.2⟩
theorem take_good {x : Pn} (ho : PnOk x) (hr : rightB x = true) (av pv : Value) (qs : List Pd) (h : qs.map nl = x.pl.map nl) : PnOk ⟨x.k, x.s, x.e, av, pv, x.al, qs⟩ ∧ rightB ⟨x.k, x.s, x.e, av, pv, x.al, qs⟩ = true := by
  obtain ⟨k, s, e, av', pv', al, pl⟩ := x
  simp only at h ⊢
  refine ⟨⟨⟨ho.w.k, ho.w.s, ho.w.e, ho.w.al⟩, fun q hq => ?_⟩, ?_⟩
  · obtain ⟨p, hp, e1, e2⟩ := nl_mem h hq
    have := ho.p p hp
    exact ⟨by rw [← e1]; exact this.n, by rw [← e2]; exact this.l⟩
  · rw [← hr]
    simp only [rightB, givesB, stepsB, rightN, nl_tot h, nl_lenS h, nl_all h, nl_len h, nl_emp h]
theorem plB_nl : ∀ {a b : List Pd}, a.map nl = b.map nl → plB a b = true
  | [], [], _ => rfl
  | [], _ :: _, h => by simp at h
  | _ :: _, [], h => by simp at h
  | x :: a, y :: b, h => by
    simp only [List.map_cons, List.cons.injEq, nl, Prod.mk.injEq] at h
    have := plB_nl (a := a) (b := b) h.2
    simp [plB, pdB, this, h.1.1, h.1.2, clB_self]
theorem pnB_nl {x : Pn} (av pv : Value) (qs : List Pd) (h : qs.map nl = x.pl.map nl) : pnB ⟨x.k, x.s, x.e, av, pv, x.al, qs⟩ x = true := by
  simp [pnB, clB_self, plB_nl h]
theorem coB_rng {L : List Cn} (hw : ∀ c ∈ L, CnWf c) (hr : rightFrom 0 L = true) : ∀ y ∈ coB L, 0 ≤ y ∧ y ≤ 255 := by
  intro y hy
  rcases List.mem_cons.1 hy with rfl | hy
  · have := right_len hr; omega
  · exact layL_rng L hw y hy
theorem pB_rng {x : Pn} (h : LayOk x) : ∀ y ∈ pB x, 0 ≤ y ∧ y ≤ 255 := by
  intro y hy
  simp only [pB, List.mem_append, List.mem_singleton, List.mem_flatMap, qB] at hy
  rcases hy with ((((rfl | hy) | hy) | hy) | rfl) | ⟨q, hq, hy | hy⟩
  · exact h.k
  · exact be_rng _ _ y hy
  · exact be_rng _ _ y hy
  · exact coB_rng h.aw h.ar y hy
  · have := h.n; omega
  · exact be_rng _ _ y hy
  · exact coB_rng (h.q q hq).2.1 (h.q q hq).2.2 y hy
theorem pB_len {x : Pn} (h : LayOk x) : (pB x).length ≤ 5000 := by
  have h1 := coB_len h.ar
  have h2 := qsB_len (l := x.pl) (fun q hq => (h.q q hq).2.2)
  have h3 := h.n
  simp only [pB, List.length_append, be_len, List.length_singleton]
  omega
end Go.Proofs.Ytjhjgncnadhbhaa

/- plan: bytes are joined; what PlanBytes asks, in the form its walk takes. -/
namespace Go.Proofs.Ytjhjgncnadhbhaa
open Go.RowKit

set_option maxHeartbeats 2000000 in
theorem join2_any {W : World} {u t : Value} {p q : List Int} {lo lo' : Nat} (hu : W.ownsRow lo 5 1 u p.length (encB p)) (ht : W.ownsRow lo' 5 1 t q.length (encB q)) (hp : p ≠ []) (hq : q ≠ []) (hl : p.length + q.length ≤ 100000) :
    Calls Try.prog 21 #[u, t] W fun e w' => ∃ v, e = .returned v ∧ w'.ownsRow W.heap.size 5 1 v (p ++ q).length (encB (p ++ q)) ∧ Below W.heap.size W w' := by
  have hO0 : Hid (OB W W (.slice none 0 0) []) := ⟨World.ownsRow_nil _ _ _ _, Below.refl _ _⟩
  go_enter Try.func21, Try.ntmps21
  go_wp2_with (first
    | (at_builtin; refine hO0.out.put hu (Below.refl _ _) hp (by simp; omega) rfl _ _ rfl rfl rfl ?_; intro a1 c1 q1 w1 hq1 hO1; have ht1 := none_row ht (grown_none hO1.out.b))
    | (at_builtin; refine hO1.out.put ht1 (Below.refl _ _) hq (by (rw [hq1.out]; simp; omega)) rfl _ _ rfl rfl rfl ?_; intro a2 c2 q2 w2 hq2 hO2))
  go_ret
  have e : q2 = p ++ q := by rw [hq2.out, hq1.out]; simp
  rw [← e]
  exact ⟨_, rfl, hO2.out.row, hO2.out.b⟩
section
variable {W : World} {k s t : Int} {a1 a2 : Option Addr} {n1 c1 n2 c2 : Nat} {al : List Cn} {pl : List Pd} {n : Int}
/-- A plan that was laid, with a number behind it, is read: a plan that is the same. -/
theorem takeK (ok : PnOk ⟨k, s, t, .slice a1 n1 c1, .slice a2 n2 c2, al, pl⟩) (rb : rightB ⟨k, s, t, .slice a1 n1 c1, .slice a2 n2 c2, al, pl⟩ = true) {X : World} {b : Nat} {D : Option Nat} {PB r : List Int} (hPB : Hid (PB = pB ⟨k, s, t, .slice a1 n1 c1, .slice a2 n2 c2, al, pl⟩)) (hD : D ≠ some b) (hDl : ∀ d, D = some d → d < X.heap.size) (h : RdAt X b D (some (PB ++ r))) :
    Calls Try.prog 25 #[.pointer (some ⟨b, 0, none⟩)] X fun e w' => ∃ a3 n3 c3 a4 n4 c4 ql, e = .returned (.agg #[.int .u8 k, .int .u64 s, .int .u64 t, .slice a3 n3 c3, .slice a4 n4 c4]) ∧ Hid (PnAt w' ⟨k, s, t, .slice a3 n3 c3, .slice a4 n4 c4, al, ql⟩) ∧ Hid (pnB ⟨k, s, t, .slice a3 n3 c3, .slice a4 n4 c4, al, ql⟩ ⟨k, s, t, .slice a1 n1 c1, .slice a2 n2 c2, al, pl⟩ = true) ∧ RdAt w' b D (some r) ∧ X.grownBy w' (some b) := by
  rw [hPB.out] at h
  refine (planTake_any (x := ⟨k, s, t, .slice a1 n1 c1, .slice a2 n2 c2, al, pl⟩) (layOk ok (right_facts rb)) (fun av pv qs hq => take_good ok rb av pv qs hq) hD hDl h).mono ?_
  rintro e w' ⟨a3, c3, ap, cp, qs, rfl, h1, h2, h3, h4⟩
  exact ⟨a3, _, c3, ap, _, cp, qs, rfl, h2, pnB_nl (x := ⟨k, s, t, .slice a1 n1 c1, .slice a2 n2 c2, al, pl⟩) _ _ qs h1, h3, h4⟩
theorem sameP {X : World} {a3 a4 : Option Addr} {n3 c3 n4 c4 : Nat} {ql : List Pd} (hB : pnB ⟨k, s, t, .slice a3 n3 c3, .slice a4 n4 c4, al, ql⟩ ⟨k, s, t, .slice a1 n1 c1, .slice a2 n2 c2, al, pl⟩ = true) (hx : PnAt X ⟨k, s, t, .slice a3 n3 c3, .slice a4 n4 c4, al, ql⟩) (hy : PnAt X ⟨k, s, t, .slice a1 n1 c1, .slice a2 n2 c2, al, pl⟩) :
    Calls Try.prog 26 #[.agg #[.int .u8 k, .int .u64 s, .int .u64 t, .slice a3 n3 c3, .slice a4 n4 c4], .agg #[.int .u8 k, .int .u64 s, .int .u64 t, .slice a1 n1 c1, .slice a2 n2 c2]] X fun e w' => e = .returned (.bool true) ∧ Below X.heap.size X w' := by
  have := planSame_any hx hy
  rw [hB] at this
  exact this
theorem bytesK (ok : PnOk ⟨k, s, t, .slice a1 n1 c1, .slice a2 n2 c2, al, pl⟩) (rb : rightB ⟨k, s, t, .slice a1 n1 c1, .slice a2 n2 c2, al, pl⟩ = true) {X : World} {PB : List Int} (hPB : Hid (PB = pB ⟨k, s, t, .slice a1 n1 c1, .slice a2 n2 c2, al, pl⟩)) (h : PnAt X ⟨k, s, t, .slice a1 n1 c1, .slice a2 n2 c2, al, pl⟩) :
    Calls Try.prog 23 #[.agg #[.int .u8 k, .int .u64 s, .int .u64 t, .slice a1 n1 c1, .slice a2 n2 c2]] X fun e w' => ∃ u, e = .returned u ∧ w'.ownsRow X.heap.size 5 1 u PB.length (encB PB) ∧ Below X.heap.size X w' := by
  rw [hPB.out]
  exact planBytesR_any h (layOk ok (right_facts rb))
theorem layK (ok : PnOk ⟨k, s, t, .slice a1 n1 c1, .slice a2 n2 c2, al, pl⟩) (rb : rightB ⟨k, s, t, .slice a1 n1 c1, .slice a2 n2 c2, al, pl⟩ = true) {W0 X : World} {PB : List Int} (hPB : Hid (PB = pB ⟨k, s, t, .slice a1 n1 c1, .slice a2 n2 c2, al, pl⟩)) (h : PnAt W0 ⟨k, s, t, .slice a1 n1 c1, .slice a2 n2 c2, al, pl⟩) {b base : Nat} {v : Value} {p : List Int} (hW0 : Below W0.heap.size W0 X) (hb : W0.heap.size ≤ b) (hb0 : W0.heap.size ≤ base) (hW : WrAt X b base v p) (hbase : base ≤ X.heap.size) (hl : p.length + 20000 ≤ 1048576) :
    Calls Try.prog 17 #[.pointer (some ⟨b, 0, none⟩), .agg #[.int .u8 k, .int .u64 s, .int .u64 t, .slice a1 n1 c1, .slice a2 n2 c2]] X fun e w' => e = .returned (.tuple #[]) ∧ ∃ v', WrAt w' b base v' (p ++ PB) ∧ WF X w' b v v' := by
  rw [hPB.out]
  exact planLay_any (x := ⟨k, s, t, .slice a1 n1 c1, .slice a2 n2 c2, al, pl⟩) h (layOk ok (right_facts rb)) hW0 hb hb0 hW hbase hl
end
theorem sameQ {X : World} {u v : Value} {Q : List Int} {lo lo' : Nat} (hl : Q.length ≤ 10000) (ho : X.ownsRow lo 5 1 u Q.length (encB Q)) (ho' : X.ownsRow lo' 5 1 v Q.length (encB Q)) :
    Calls Try.prog 20 #[u, v] X fun e w' => e = .returned (.bool true) ∧ Below X.heap.size X w' := by
  have := same_any X (own_bytes (Nat.le_trans hl (by decide)) ho) (own_bytes (Nat.le_trans hl (by decide)) ho')
  rw [decide_eq_true (rfl : Q = Q)] at this
  exact this
theorem endK {X : World} {b : Nat} {D : Option Nat} (h : RdAt X b D (some [])) :
    Calls Try.prog 27 #[.pointer (some ⟨b, 0, none⟩)] X fun e w' => e = .returned (.bool true) ∧ w' = X := rEnd_any h
end Go.Proofs.Ytjhjgncnadhbhaa

namespace Go.Proofs.Ytjhjgncnadhbhaa
open Go.ChangeShapes Go.WideShapes Go.ChangeAt Go.RowKit

theorem sameQ6 {X : World} {k s t : Int} {a1 a2 a3 a4 : Option Addr} {n1 c1 n2 c2 n3 c3 n4 c4 : Nat} {al : List Cn} {pl ql : List Pd} (hB : pnB ⟨k, s, t, .slice a3 n3 c3, .slice a4 n4 c4, al, ql⟩ ⟨k, s, t, .slice a1 n1 c1, .slice a2 n2 c2, al, pl⟩ = true) (hx : PnAt X ⟨k, s, t, .slice a3 n3 c3, .slice a4 n4 c4, al, ql⟩) (hy : PnAt X ⟨k, s, t, .slice a1 n1 c1, .slice a2 n2 c2, al, pl⟩) :
    Calls Try.prog 10 #[.agg #[.int .u8 k, .int .u64 s, .int .u64 t, .slice a3 n3 c3, .slice a4 n4 c4], .agg #[.int .u8 k, .int .u64 s, .int .u64 t, .slice a1 n1 c1, .slice a2 n2 c2]] X fun e w' => e = .returned (.bool true) ∧ Below X.heap.size X w' := by
  have := sameR6_any hx hy
  rw [hB] at this
  exact this
set_option maxRecDepth 20000 in
set_option maxHeartbeats 16000000 in
theorem planBytes_any {w : World} (y : Md) (nn : Int) (hy : MdIn w y) (hnn : 0 ≤ nn ∧ nn < 18446744073709551616) :
    Calls Try.prog 4 #[mdV y, .int .u64 nn] w fun e w' => e = .returned (.bool true) ∧ Below w.heap.size w w' := by
  have hFew : Hid (∀ X, Below w.heap.size w X → Calls Try.prog 7 #[mdV y] X fun e w' => e = .returned (.bool (fewM y)) ∧ Below X.heap.size X w') := fun X hX => few6_any hy X hX
  have hPl : Hid (fewM y = true → ∀ X, Below w.heap.size w X → Calls Try.prog 8 #[mdV y] X fun e w' => ∃ (k s u : Int) (a1 : Option Addr) (n1 c1 : Nat) (a2 : Option Addr) (n2 c2 : Nat) (x : Pn), e = .returned (.agg #[.int .u8 k, .int .u64 s, .int .u64 u, .slice a1 n1 c1, .slice a2 n2 c2]) ∧ Hid (x = ⟨k, s, u, .slice a1 n1 c1, .slice a2 n2 c2, x.al, x.pl⟩) ∧ Hid (MF w' x) ∧ Below X.heap.size X w') := fun hf X hX => plansS_any hy hf X hX
  clear hy
  obtain ⟨k, s, n, a1, n1, c1, a2, n2, c2, l, ps⟩ := y
  generalize hF : fewM ⟨k, s, n, a1, n1, c1, a2, n2, c2, l, ps⟩ = F at *
  clear hF
  show Calls Try.prog 4 #[.agg #[.int .u8 k, .int .u32 s, .int .u16 n, .slice a1 n1 c1, .slice a2 n2 c2], .int .u64 nn] w _
  have hFew : Hid (∀ X, Below w.heap.size w X → Calls Try.prog 7 #[.agg #[.int .u8 k, .int .u32 s, .int .u16 n, .slice a1 n1 c1, .slice a2 n2 c2]] X fun e w' => e = .returned (.bool F) ∧ Below X.heap.size X w') := hFew
  have hPl : Hid (F = true → ∀ X, Below w.heap.size w X → Calls Try.prog 8 #[.agg #[.int .u8 k, .int .u32 s, .int .u16 n, .slice a1 n1 c1, .slice a2 n2 c2]] X fun e w' => ∃ (k s u : Int) (a1 : Option Addr) (n1 c1 : Nat) (a2 : Option Addr) (n2 c2 : Nat) (x : Pn), e = .returned (.agg #[.int .u8 k, .int .u64 s, .int .u64 u, .slice a1 n1 c1, .slice a2 n2 c2]) ∧ Hid (x = ⟨k, s, u, .slice a1 n1 c1, .slice a2 n2 c2, x.al, x.pl⟩) ∧ Hid (MF w' x) ∧ Below X.heap.size X w') := hPl
  have hb0 : Below w.heap.size w (w.alloc (.cells #[.int .u8 k, .int .u32 s, .int .u16 n, .slice a1 n1 c1, .slice a2 n2 c2] 27)) := ba (Below.refl _ _) _
  have hkeep : Hid (∀ X, Below (w.alloc (.cells #[.int .u8 k, .int .u32 s, .int .u16 n, .slice a1 n1 c1, .slice a2 n2 c2] 27)).heap.size (w.alloc (.cells #[.int .u8 k, .int .u32 s, .int .u16 n, .slice a1 n1 c1, .slice a2 n2 c2] 27)) X → X.cell? ⟨w.heap.size, 0, none⟩ = some (.int .u8 k) ∧ X.cell? ⟨w.heap.size, 1, none⟩ = some (.int .u32 s) ∧ X.cell? ⟨w.heap.size, 2, none⟩ = some (.int .u16 n) ∧ X.cell? ⟨w.heap.size, 3, none⟩ = some (.slice a1 n1 c1) ∧ X.cell? ⟨w.heap.size, 4, none⟩ = some (.slice a2 n2 c2)) := fun X hX => by
    have q1 := (cells_of_block ((hX.block w.heap.size (by simp)).trans (al_at rfl))).1
    exact ⟨q1 0, q1 1, q1 2, q1 3, q1 4⟩
  cases F
  · clear hPl
    go_enter Try.func4, Try.ntmps4
    go_wp2_with (first
      | (go_at_call 7; refine (hFew.out _ (bt hb0 hb1)).mono ?_; rintro e w2 ⟨rfl, hb2⟩)
      | (go_at_call 6; with_reducible refine (even_any (w.alloc (.cells #[.int .u8 k, .int .u32 s, .int .u16 n, .slice a1 n1 c1, .slice a2 n2 c2] 27))).mono ?_; rintro e w1 ⟨rfl, hb1⟩; obtain ⟨q0, q1, q2, q3, q4⟩ := hkeep.out _ hb1)
      | (go_at_call 6; with_reducible refine (even_any w2).mono ?_; rintro e w3 ⟨rfl, hb3⟩))
    go_ret
    exact ⟨rfl, bt (bt (bt hb0 hb1) hb2) hb3⟩
  have hPl2 : Hid (∀ X, _) := fun X => hPl.out rfl X
  go_enter Try.func4, Try.ntmps4
  go_upto_region 4 with (first
    | (go_at_call 7; refine (hFew.out _ (bt hb0 hb1)).mono ?_; rintro e w2 ⟨rfl, hb2⟩; obtain ⟨r0, r1, r2, r3, r4⟩ := hkeep.out _ (bt hb1 hb2))
    | (go_at_call 6; refine (even_any _).mono ?_; rintro e w1 ⟨rfl, hb1⟩; obtain ⟨q0, q1, q2, q3, q4⟩ := hkeep.out _ hb1)
    | (go_at_call 8; refine (hPl2.out _ (bt (bt hb0 hb1) hb2)).mono ?_; rintro e w3 ⟨pk, p0, p1, b1, m1, d1, b2, m2, d2, x, rfl, hx, hMF, hb3⟩))
  have hW3 : Below w.heap.size w w3 := bt (bt (bt hb0 hb1) hb2) hb3
  clear hFew hPl hPl2 hkeep hb0 hb1 hb2 hb3 q0 q1 q2 q3 q4 r0 r1 r2 r3 r4
  obtain ⟨xk, xs, xe, xav, xpv, al, pl⟩ := x
  have hx' := hx.out
  simp only [Pn.mk.injEq] at hx'
  obtain ⟨rfl, rfl, rfl, rfl, rfl, -, -⟩ := hx'
  clear hx
  have hok := hMF.out.ok
  have hrb := hMF.out.rb
  have hat := hid_of hMF.out.at'
  clear hMF
  have hlo := layOk hok (right_facts hrb)
  obtain ⟨PB, hPB⟩ : ∃ PB, Hid (PB = pB ⟨xk, xs, xe, .slice b1 m1 d1, .slice b2 m2 d2, al, pl⟩) := ⟨_, rfl⟩
  have hPBl : PB.length ≤ 5000 := by rw [hPB.out]; exact pB_len hlo
  have hPBr : Hid (∀ y ∈ PB, 0 ≤ y ∧ y ≤ 255) := by rw [hPB.out]; exact pB_rng hlo
  have hPBn : Hid (PB ≠ []) := by rw [hPB.out]; simp [Hid, pB]
  clear hlo
  obtain ⟨Z, hZ⟩ : ∃ Z, Z = w3.alloc (.cells #[.int .u8 xk, .int .u64 xs, .int .u64 xe, .slice b1 m1 d1, .slice b2 m2 d2] 33) := ⟨_, rfl⟩
  have hZs : Z.heap.size = w3.heap.size + 1 := by rw [hZ]; simp
  have hWZ : Below w3.heap.size w3 Z := by rw [hZ]; exact ba (Below.refl _ _) _
  have hZb : Z.heap[w3.heap.size]? = some (.cells #[.int .u8 xk, .int .u64 xs, .int .u64 xe, .slice b1 m1 d1, .slice b2 m2 d2] 33 (0, 0)) := by rw [hZ]; exact al_at rfl
  have hkp : Hid (∀ X, Below Z.heap.size Z X → (X.cell? ⟨w3.heap.size, 0, none⟩ = some (.int .u8 xk) ∧ X.cell? ⟨w3.heap.size, 1, none⟩ = some (.int .u64 xs) ∧ X.cell? ⟨w3.heap.size, 2, none⟩ = some (.int .u64 xe) ∧ X.cell? ⟨w3.heap.size, 3, none⟩ = some (.slice b1 m1 d1) ∧ X.cell? ⟨w3.heap.size, 4, none⟩ = some (.slice b2 m2 d2)) ∧ PnAt X ⟨xk, xs, xe, .slice b1 m1 d1, .slice b2 m2 d2, al, pl⟩ ∧ Below w3.heap.size w3 X) := fun X hX => by
    obtain ⟨c, f⟩ := cells_of_block ((hX.block w3.heap.size (by omega)).trans hZb)
    have hb := hWZ.trans (hX.mono (by omega))
    exact ⟨⟨c 0, c 1, c 2, c 3, c 4⟩, hat.out.below hb, hb⟩
  rw [← hZ]
  have hZh : Hid (Z.heap.size = w3.heap.size + 1) := hZs
  have hz3 : Hid (w3.heap.size ≤ Z.heap.size) := by show _ ≤ _; omega
  clear hZ hZs hZb hWZ
  have hW0 : WrAt (Z.alloc (.cells #[.slice none 0 0] 44)) Z.heap.size Z.heap.size (.slice none 0 0) [] := ⟨al_at rfl, World.ownsRow_nil _ _ _ _⟩
  have hB0 : Below Z.heap.size Z (Z.alloc (.cells #[.slice none 0 0] 44)) := ba (Below.refl _ _) _
  have g0 : Z.heap.size ≤ (Z.alloc (.cells #[.slice none 0 0] 44)).heap.size := hB0.size
  obtain ⟨⟨x0, x1, x2, x3, x4⟩, hA0, hV0⟩ := hkp.out _ hB0
  have hbl : Hid (∀ n, (be n 8).length = 8) := fun n => be_len n 8
  obtain ⟨Q, hQ⟩ : ∃ Q, Hid (Q = be nn 8 ++ PB ++ be nn 8) := ⟨_, rfl⟩
  have hq : Hid ([] ++ be nn 8 ++ PB ++ be nn 8 = Q) := by rw [hQ.out]; simp [Hid]
  have hQl : Q.length ≤ 10000 := by rw [hQ.out]; simp only [List.length_append, hbl.out]; omega
  have hQr : ∀ y ∈ Q, 0 ≤ y ∧ y ≤ 255 := by
    intro y hy
    rw [hQ.out] at hy
    rcases List.mem_append.1 hy with hy | hy
    · rcases List.mem_append.1 hy with hy | hy
      · exact be_rng _ _ y hy
      · exact hPBr.out y hy
    · exact be_rng _ _ y hy
  have hQr := hid_of hQr
  go_upto_region 9 with (first
    | (go_at_call 16; (with_reducible refine (wLong_any nn hnn hW0 g0 (by simp)).mono ?_; rintro e w4 ⟨rfl, v4, hW4, hF4⟩; have hB4 := WF.low hB0 hF4 hW0 (Nat.le_refl _) (Nat.le_refl _); obtain ⟨⟨y0, y1, y2, y3, y4⟩, hA4, hV4⟩ := hkp.out _ hB4))
    | (go_at_call 17; (with_reducible refine (layK hok hrb hPB hat.out hV4 hz3.out hz3.out hW4 hB4.size (by (rw [List.length_append, hbl.out]; simp))).mono ?_; rintro e w5 ⟨rfl, v5, hW5, hF5⟩; have hB5 := WF.low hB4 hF5 hW4 (Nat.le_refl _) (Nat.le_refl _)))
    | (go_at_call 16; (with_reducible refine (wLong_any nn hnn hW5 hB5.size (by (simp only [List.length_append, hbl.out, List.length_nil]; omega))).mono ?_; rintro e w6 ⟨rfl, v6, hW6, hF6⟩; have hB6 := WF.low hB5 hF6 hW5 (Nat.le_refl _) (Nat.le_refl _)))
    | (go_at_call 18; (with_reducible refine (wDone_any hW6 (by (simp only [List.length_append, hbl.out, List.length_nil]; omega))).mono ?_; rintro e w7 ⟨u7, rfl, ho7, hb7⟩; have hB7 := bt hB6 hb7; rw [hq.out] at ho7; obtain ⟨a7, c7, rfl⟩ := row_slice ho7)))
  clear hq hW0 hW4 hW5 hW6 hF4 hF5 hF6 hB0 hB4 hB5 hB6 hb7 x0 x1 x2 x3 x4 y0 y1 y2 y3 y4 hA0 hV0 hA4 hV4 g0
  go_upto_region 10 with (go_at_call 19; (with_reducible refine (read_new (Nat.le_trans hQl (by decide)) hQr.out (src_own ho7)).mono ?_; rintro e w8 ⟨rb, D, rfl, hR8, hrb8, hD, hDl, hb8⟩))
  have hB8 : Below Z.heap.size Z w8.drew := bd (bt hB7 hb8)
  have hrow := none_row ho7 (grown_none hb8)
  have hZ7 : Z.heap.size ≤ w7.heap.size := hB7.size
  have hZr : Hid (Z.heap.size ≤ rb) := Nat.le_trans hZ7 hrb8
  have hDl8 : ∀ d, D = some d → d < w8.heap.size := fun d hd => (hDl d hd).2
  have hQ2 : Q = be nn 8 ++ (PB ++ (be nn 8 ++ [])) := by rw [hQ.out]; simp
  have hR8' : RdAt w8 rb D (some (be nn 8 ++ (PB ++ (be nn 8 ++ [])))) := by rw [← hQ2]; exact hR8
  have hR8' := hid_of (hR8'.kept (grown_dr (grown_ref w8 none)) (by simp) (by cases D <;> simp))
  have hrow := hid_of (none_row hrow (grown_dr (grown_ref w8 none)))
  obtain ⟨⟨x0, x1, x2, x3, x4⟩, hA8, hV8⟩ := hkp.out _ hB8
  have l1 := hid_of (show (be nn 8).length + PB.length ≤ 100000 by rw [hbl.out]; omega)
  have l2 := hid_of (show (be nn 8 ++ PB).length + (be nn 8).length ≤ 100000 by rw [List.length_append, hbl.out]; omega)
  have hne : Hid (be nn 8 ++ PB ≠ []) := by simp [Hid, be]
  clear hQ2 ho7 hrb8 hZ7 hDl hR8 hb8 hB7 hat
  go_region_held2 (fun X => X.cell? ⟨w3.heap.size, 0, none⟩ = some (.int .u8 xk) ∧ X.cell? ⟨w3.heap.size, 1, none⟩ = some (.int .u64 xs) ∧ X.cell? ⟨w3.heap.size, 2, none⟩ = some (.int .u64 xe) ∧ X.cell? ⟨w3.heap.size, 3, none⟩ = some (.slice b1 m1 d1) ∧ X.cell? ⟨w3.heap.size, 4, none⟩ = some (.slice b2 m2 d2)) (go_simp) (first
    | (go_at_call 22; (with_reducible refine (long8 nn hnn w8.drew).mono ?_; rintro e w9 ⟨u9, rfl, ho9, hb9⟩; have hB9 := bt hB8 hb9; obtain ⟨⟨y0, y1, y2, y3, y4⟩, hA9, hV9⟩ := hkp.out _ hB9))
    | (go_at_call 23; (with_reducible refine (bytesK hok hrb hPB hA9).mono ?_; rintro e w10 ⟨u10, rfl, ho10, hb10⟩; have hB10 := bt hB9 hb10; obtain ⟨⟨z0, z1, z2, z3, z4⟩, hA10, hV10⟩ := hkp.out _ hB10; have r9 := none_row ho9 (grown_none hb10)))
    | (go_at_call 21; (with_reducible refine (join2_any r9 ho10 (be8_ne _) hPBn.out l1.out).mono ?_; rintro e w11 ⟨u11, rfl, ho11, hb11⟩; have hB11 := bt hB10 hb11; obtain ⟨⟨s0, s1, s2, s3, s4⟩, hA11, hV11⟩ := hkp.out _ hB11))
    | (go_at_call 22; (with_reducible refine (long8 nn hnn w11).mono ?_; rintro e w12 ⟨u12, rfl, ho12, hb12⟩; have hB12 := bt hB11 hb12; obtain ⟨⟨t0, t1, t2, t3, t4⟩, hA12, hV12⟩ := hkp.out _ hB12; have r11 := none_row ho11 (grown_none hb12)))
    | (go_at_call 21; (with_reducible refine (join2_any r11 ho12 hne.out (be8_ne _) l2.out).mono ?_; rintro e w13 ⟨u13, rfl, ho13, hb13⟩; have hB13 := bt hB12 hb13; obtain ⟨⟨v0, v1, v2, v3, v4⟩, hA13, hV13⟩ := hkp.out _ hB13; rw [← hQ.out] at ho13; have hb8' := bt hb9 (bt hb10 (bt hb11 (bt hb12 hb13))); have r13 := none_row hrow.out (grown_none hb8')))
    | (go_at_call 20; (with_reducible refine (sameQ hQl r13 ho13).mono ?_; rintro e w14 ⟨rfl, hb14⟩; have hB14 := bt hB13 hb14; obtain ⟨⟨q0, q1, q2, q3, q4⟩, hA14, hV14⟩ := hkp.out _ hB14; have hR14 := hR8'.out.nn (grown_none (bt hb8' hb14))))
    | (go_at_call 24; (with_reducible refine (rdLong hnn hD hR14).mono ?_; rintro e w15 ⟨rfl, hR15, k15⟩; have hB15 := below_grown hB14 k15 hZr.out; obtain ⟨⟨o0, o1, o2, o3, o4⟩, hA15, hV15⟩ := hkp.out _ hB15)))
  all_goals
    have hD15 : ∀ d, D = some d → d < w15.heap.size := fun d hd => Nat.lt_of_lt_of_le (hDl8 d hd) (Nat.le_trans (show w8.heap.size ≤ w14.heap.size from (bt hb8' hb14).size) k15.size)
    clear hR14 hrow r9 r11 r13 ho9 ho10 ho11 ho12 ho13 hb9 hb10 hb11 hb12 hb13 hb14 hb8' y0 y1 y2 y3 y4 z0 z1 z2 z3 z4 s0 s1 s2 s3 s4 t0 t1 t2 t3 t4 v0 v1 v2 v3 v4 q0 q1 q2 q3 q4 x0 x1 x2 x3 x4 hA8 hA9 hA10 hA11 hA12 hA13 hA14 hB9 hB10 hB11 hB12 hB13 hV8 hV9 hV10 hV11 hV12 hV13 hV14 hR8' l1 l2
    go_upto_region 13 with (go_at_call 25; (with_reducible refine (takeK hok hrb hPB hD hD15 hR15).mono ?_; rintro e w16 ⟨a3, n3, c3, a4, n4, c4, ql, rfl, hA16, hpb, hR16, k16⟩; have hB16 := below_grown hB15 k16 hZr.out))
    have hBx : Hid (∀ X, Below (w16.alloc (.cells #[.int .u8 xk, .int .u64 xs, .int .u64 xe, .slice a3 n3 c3, .slice a4 n4 c4] 33)).heap.size (w16.alloc (.cells #[.int .u8 xk, .int .u64 xs, .int .u64 xe, .slice a3 n3 c3, .slice a4 n4 c4] 33)) X → (X.cell? ⟨w16.heap.size, 0, none⟩ = some (.int .u8 xk) ∧ X.cell? ⟨w16.heap.size, 1, none⟩ = some (.int .u64 xs) ∧ X.cell? ⟨w16.heap.size, 2, none⟩ = some (.int .u64 xe) ∧ X.cell? ⟨w16.heap.size, 3, none⟩ = some (.slice a3 n3 c3) ∧ X.cell? ⟨w16.heap.size, 4, none⟩ = some (.slice a4 n4 c4)) ∧ PnAt X ⟨xk, xs, xe, .slice a3 n3 c3, .slice a4 n4 c4, al, ql⟩ ∧ Below Z.heap.size Z X) := fun X hX => by
      obtain ⟨c, f⟩ := cells_of_block ((hX.block w16.heap.size (by simp)).trans (al_at rfl))
      exact ⟨⟨c 0, c 1, c 2, c 3, c 4⟩, hA16.out.below (bt (ba (Below.refl _ _) _) hX), bt (ba hB16 _) hX⟩
    have hR17 := hR16.nn (World.grownBy_alloc w16 (.cells #[.int .u8 xk, .int .u64 xs, .int .u64 xe, .slice a3 n3 c3, .slice a4 n4 c4] 33) none)
    generalize hU : w16.alloc (.cells #[.int .u8 xk, .int .u64 xs, .int .u64 xe, .slice a3 n3 c3, .slice a4 n4 c4] 33) = U at *
    have hUh : Hid _ := hU
    clear hU hA16 hR16 k16 hR15 k15 hB15 hB14 o0 o1 o2 o3 o4 hA15 hV15 hB16
    obtain ⟨⟨x0, x1, x2, x3, x4⟩, hAx, hZU⟩ := hBx.out U (Below.refl _ _)
    obtain ⟨⟨y0, y1, y2, y3, y4⟩, hAy, hVU⟩ := hkp.out U hZU
    go_wp2_with (first
      | (go_at_call 26; (with_reducible refine (sameP hpb.out hAx hAy).mono ?_; rintro e w17 ⟨rfl, hb17⟩; obtain ⟨⟨p0, p1, p2, p3, p4⟩, hAx7, hZ17⟩ := hBx.out _ hb17; obtain ⟨⟨z0, z1, z2, z3, z4⟩, hAy7, hV17⟩ := hkp.out _ hZ17))
      | (go_at_call 10; (with_reducible refine (sameQ6 hpb.out hAx7 hAy7).mono ?_; rintro e w18 ⟨rfl, hb18⟩; have hR18 := hR17.nn (grown_none (bt hb17 hb18)); have hZ18 := bt hZ17 hb18))
      | (go_at_call 24; (with_reducible refine (rdLong hnn hD hR18).mono ?_; rintro e w19 ⟨rfl, hR19, k19⟩; have hZ19 := below_grown hZ18 k19 hZr.out; obtain ⟨-, -, hV19⟩ := hkp.out _ hZ19))
      | (go_at_call 27; (with_reducible refine (endK hR19).mono ?_; rintro e w20 ⟨rfl, hw20⟩; obtain rfl := hw20.symm; clear hw20)))
    go_ret
    exact ⟨rfl, bt hW3 hV19⟩

theorem planBytes_own : ownKnob Try.prog.godebug = none := by kernel_rfl
theorem planBytes_laid : laidOutB Try.prog = true := by kernel_rfl

set_option maxRecDepth 100000 in
theorem planBytes_lifted (os : Os) (started : os.Started) (H : Type) (enc : TypeId × Value → H) :
    ReturnsInHanded {} Try.checked os 4 .any (Rows.planBytesSpec.pre6 enc Try.prog Try.f4 Rows.planBytesRow.domain false) (Rows.planBytesSpec.post enc Try.prog Try.f4 false true false false) := by
  refine returnsInHanded_of_change (C := Try.checked) planBytes_own started (by kernel_rfl) Try.func4
    (ChangeSpec.witness6 (enc := enc) (C := Try.checked) false ⟨#[], #[.agg #[.int .u8 0, .int .u32 0, .int .u16 0, .slice none 0 0, .slice none 0 0], .int .u64 0], []⟩ 8 (by kernel_rfl) (by kernel_rfl) (by kernel_rfl) (by kernel_rfl)) ?_
  intro W base args ds gs before hval0 hW hcnd _
  have hval : ∀ (j : Nat) t v, Try.f4.params[j]? = some t → args[j]? = some v → Value.okWide Try.prog W .any base t v := hval0
  have hW' := hW
  obtain ⟨p, q, hA0, hV, rfl, hfz, hnd⟩ := hW
  have hA : DataW.TrodAll enc Try.prog W 0 (fun _ => true) true Try.f4.params.toList args.toList ds p := hA0
  rw [Try.params4] at hA hval
  obtain ⟨v0, vs0, d0, ds0, p0, q0, hargs0, rfl, rfl, h0, r0⟩ := trodAll_cons hA
  obtain ⟨v1, vs1, d1, ds1, p1, q1, hargs1, rfl, rfl, h1, r1⟩ := trodAll_cons r0
  obtain ⟨rfl, rfl, rfl⟩ := trodAll_nil r1
  obtain rfl : args = #[v0, v1] := by cases args; simp_all
  obtain ⟨rfl, rfl⟩ := trodVars_none hV
  have k0 := h0
  have lt0 : ∀ x ∈ p0, x.block < W.heap.size := by obtain ⟨m, hm⟩ := k0; exact DataW.trod_lt m _ _ _ hm
  have k1 := h1
  have lt1 : ∀ x ∈ p1, x.block < W.heap.size := by obtain ⟨m, hm⟩ := k1; exact DataW.trod_lt m _ _ _ hm
  obtain ⟨y0, rfl, hl0⟩ := made_in (hval 0 27 v0 rfl rfl) h0
  obtain ⟨n1, rfl⟩ := okWide_int Try.underlying28 (hval 1 28 v1 rfl rfl)
  obtain ⟨fuel1, hf1⟩ := h1
  simp only [Value.cells] at hf1
  clear hA0 hval0
  have walk : Calls Try.prog 4 _ W fun e w' => e = .returned (.bool true) ∧ Below W.heap.size W w' := planBytes_any y0 n1 hl0 (u64_in hf1)
  refine walk.mono fun e W' ⟨he, bel⟩ => ?_
  subst he
  exact ⟨_, rfl, _, _, _, [], _, [], hW', trodAll_mk1 (shut_bool Try.underlying4 _), trodAll_cons_mk (Below.trod planBytes_laid (by kernel_rfl) (of_decide_eq_true (by kernel_rfl)) k0 bel lt0) (trodAll_cons_mk (Below.trod planBytes_laid (by kernel_rfl) (of_decide_eq_true (by kernel_rfl)) k1 bel lt1) (trodAll_mk0)), rfl, bel.frame _, fun h => by cases h⟩

theorem planBytes_holds : Rows.PlanBytesSaid :=
  OpenClaim.holds_of_wide 4 Try.f4 rfl rfl rfl rfl rfl rfl rfl ⟨rfl, rfl, rfl, rfl, rfl⟩ rfl rfl rfl rfl rfl (by kernel_rfl) Try.func4 (by kernel_rfl)
    (of_decide_eq_true (by kernel_rfl)) (by unfold Func.isWrapper; first | (rw [if_pos (by decide +kernel)]; kernel_rfl) | (rw [if_neg (by decide +kernel)]; exact ⟨rfl, rfl⟩))
    (fun os started H enc _ => planBytes_lifted os started H enc)
#print axioms planBytes_holds

end Go.Proofs.Ytjhjgncnadhbhaa
