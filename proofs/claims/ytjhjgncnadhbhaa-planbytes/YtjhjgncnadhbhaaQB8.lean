
/- Several texts, one behind the other: VE1, MA3, MA4, MA5, MA6, MA10, MA7, MA9, VE5. -/
import Derived.Test.YtjhjgncnadhbhaaQB7
import Derived.Test.YtjhjgncnadhbhaaC18
import Derived.Deep.CutRange
import Derived.Test.YtjhjgncnadhbhaaMA1
import Derived.Test.YtjhjgncnadhbhaaC14
/- plan.evenly and plan.Vested of plans that may be. -/
set_option linter.unusedSimpArgs false
set_option linter.unusedVariables false
set_option maxRecDepth 20000
namespace Go.Proofs.Ytjhjgncnadhbhaa
open Go.RowKit

/-- A new value's own block is new. -/
def NewV (w w' : World) (u : Value) : Prop := ∀ g, u.ownBlock = some g → w.heap.size ≤ g ∧ g < w'.heap.size
theorem NewV.nil (w w' : World) : NewV w w' (.slice none 0 0) := fun g hg => by cases hg
theorem NewV.row {w X : World} {e : TypeId} {k n : Nat} {v : Value} {xs : List Value} (h : X.ownsRow w.heap.size e k v n xs) : NewV w X v := fun g hg => h.lt g hg
theorem NewV.below {w w1 w2 : World} {u : Value} (h : NewV w w1 u) (hb : Below w1.heap.size w1 w2) : NewV w w2 u := fun g hg => by
  have := h g hg; have := hb.size; omega
theorem NewV.up {w w1 w2 : World} {u : Value} (h : NewV w1 w2 u) (hb : Below w.heap.size w w1) : NewV w w2 u := fun g hg => by
  have := h g hg; have := hb.size; omega
set_option maxHeartbeats 2000000 in
theorem cloneC_any {v : Value} {l : List Cn} (w : World) (h : IsCoins w v l) :
    Calls Try.prog 35 #[v] w fun e w' => ∃ u, e = .returned u ∧ w'.ownsRow w.heap.size 66 5 u l.length (cellsL l) ∧ Below w.heap.size w w' := by
  obtain ⟨i0, hi, hz0, hz1, hz2⟩ := info_parts coin_info
  have hnil : ∀ X a l c, (binOp .eql 24 (.slice a l c) (.slice none 0 0)).run Try.prog X = .ok (.bool a.isNone) X := fun X a l c => by simp [binOp, run_equal_slice_nil X 24 66 a l c Try.underlying24]
  have hm : (w.alloc (.cells #[] 66)).ownsRow w.heap.size 66 5 (.slice (some ⟨w.heap.size, 0, none⟩) 0 0) 0 [] := World.ownsRow_made w #[] 0 (Nat.le_refl _) (by unfold maxLen; omega) rfl
  rcases h with ⟨rfl, a, cap, rfl⟩ | ⟨blk, off, cap, rfl, hne, hlen, hlt, hall⟩
  · cases a with
    | none =>
      go_enter Try.func35, Try.ntmps35
      go_wp2
      go_ret
      exact ⟨_, rfl, World.ownsRow_nil _ _ _ _, Below.refl _ _⟩
    | some ad =>
      go_enter Try.func35, Try.ntmps35
      go_wp2_with (at_builtin; refine wpList_append_own_none rfl _ _ 24 rfl w.heap.size 66 i0 5 Try.underlying24 hi _ _ _ rfl hm rfl ?_)
      go_ret
      exact ⟨_, rfl, hm, ba (Below.refl _ _) _⟩
  · have hc : ∀ (j : Nat) (u : Value), (cellsL l)[j]? = some u → (w.alloc (.cells #[] 66)).cell? (Addr.add ⟨blk, off, none⟩ j) = some u := by
      intro j u hj
      have hjl : j < l.length * 5 := by have := (List.getElem?_eq_some_iff.1 hj).1; rwa [cellsL_length] at this
      have hil : j / 5 < l.length := by omega
      have hg := List.getElem?_eq_getElem hil
      have h5 := cellsL_at hg (j % 5) (by omega)
      have e : j / 5 * 5 + j % 5 = j := by omega
      rw [e, hj] at h5
      obtain ⟨g0, g1, g2, g3, g4⟩ := hall _ _ hg
      have key : ∀ o v, w.cell? ⟨blk, o, none⟩ = some v → (w.alloc (.cells #[] 66)).cell? ⟨blk, o, none⟩ = some v := fun o v hv => (World.grownBy_alloc w _ none).cell hv (by simp)
      rw [add_cell]
      have e2 : off + j = off + j / 5 * 5 + j % 5 := by omega
      rw [e2]
      have hm5 : j % 5 < 5 := Nat.mod_lt _ (by omega)
      generalize j % 5 = r at *
      match r, hm5 with
      | 0, _ => simp at h5; rw [h5]; exact key _ _ g0
      | 1, _ => simp at h5; rw [h5]; exact key _ _ g1
      | 2, _ => simp at h5; rw [h5]; exact key _ _ g2
      | 3, _ => simp at h5; rw [h5]; exact key _ _ g3
      | 4, _ => simp at h5; rw [h5]; exact key _ _ g4
    have hoc : (cellsL l).all Value.oneCell' = true := by simp [cellsL, List.all_flatMap, Value.oneCell']
    go_enter Try.func35, Try.ntmps35
    go_wp2_with (at_builtin; refine wpList_append_own _ rfl _ _ 24 rfl w.heap.size 66 i0 _ 5 40 Try.underlying24 hi hz0 hz1 hz2 rfl (by decide) _ _ _ rfl hm ⟨blk, off, none⟩ l.length cap (cellsL l) rfl (cellsL_length l) hc (by simpa using hoc) (by unfold maxLen; omega) (by omega) (by simp) ?_; intro v' w1 hown' hgrow _; rw [Nat.zero_add, List.nil_append] at hown')
    go_ret
    exact ⟨_, rfl, hown', (ba (Below.refl _ _) _).grown hgrow (by simp) (fun k hk => (hm.lt k hk).1)⟩
/-- A call that answers new coins, as a slice. -/
def GivesC (f : Nat) (args : Array Value) (w : World) (l : List Cn) : Prop :=
  Calls Try.prog f args w fun e w' => ∃ a n c, e = .returned (.slice a n c) ∧ IsCoins w' (.slice a n c) l ∧ NewV w w' (.slice a n c) ∧ Below w.heap.size w w'
theorem GivesC.of {f : Nat} {args : Array Value} {w : World} {l : List Cn} (h : Calls Try.prog f args w fun e w' => ∃ u, e = .returned u ∧ IsCoins w' u l ∧ NewV w w' u ∧ Below w.heap.size w w') : GivesC f args w l := by
  refine Calls.mono h ?_
  rintro e w' ⟨u, rfl, h1, h2, h3⟩
  obtain ⟨a, c, rfl⟩ := h1.sl
  exact ⟨a, _, c, rfl, h1, h2, h3⟩
theorem cloneCI_any {v : Value} {l : List Cn} (w : World) (h : IsCoins w v l) (hl : l.length ≤ 1048576) : GivesC 35 #[v] w l :=
  .of ((cloneC_any w h).mono fun e w' ⟨u, h1, h2, h3⟩ => ⟨u, h1, own_coins h2 hl, NewV.row h2, h3⟩)
/-- A call that answers coins, as a slice. -/
def GivesI (f : Nat) (args : Array Value) (w : World) (l : List Cn) : Prop :=
  Calls Try.prog f args w fun e w' => ∃ a n c, e = .returned (.slice a n c) ∧ IsCoins w' (.slice a n c) l ∧ Below w.heap.size w w'
theorem GivesI.of {f : Nat} {args : Array Value} {w : World} {l : List Cn} (h : Calls Try.prog f args w fun e w' => ∃ u, e = .returned u ∧ IsCoins w' u l ∧ Below w.heap.size w w') : GivesI f args w l := by
  refine Calls.mono h ?_
  rintro e w' ⟨u, rfl, h1, h3⟩
  obtain ⟨a, c, rfl⟩ := h1.sl
  exact ⟨a, _, c, rfl, h1, h3⟩
theorem together_gives {v : Value} {l : List Pd} (w : World) (h : IsPds w v l) (hw : ∀ q ∈ l, PdWf q) (hs : ∀ q ∈ l, rightFrom 0 q.l = true) (hf : ∀ d, d < 8 → tot l d < 115792089237316195423570985008687907853269984665640564039457584007913129639936) :
    Calls Try.prog 41 #[v] w fun e w' => ∃ a n c, e = .returned (.tuple #[.slice a n c, .int .i64 0]) ∧ IsCoins w' (.slice a n c) (lst (sumP l) 8) ∧ Below w.heap.size w w' := by
  refine (together_any w h hw hs).mono ?_
  rintro e w' (⟨-, u, rfl, h1, h2⟩ | ⟨⟨d, hd, h1⟩, -⟩)
  · obtain ⟨a, c, rfl⟩ := h1.sl
    exact ⟨a, _, c, rfl, h1, h2⟩
  · have := hf d hd; omega
theorem al_coins {W : World} {x : Pn} (h : PnAt W x) (hr : PnR x) : IsCoins W x.av (lst (amP x.al) 8) := h.1.lst hr.al
theorem zero_coins (W : World) : IsCoins W (.slice none 0 0) (lst zeroP 8) := by rw [lst_zero]; exact .inl ⟨rfl, _, _, rfl⟩
set_option maxHeartbeats 4000000 in
theorem evenly_any {x : Pn} {t : Int} (w : World) (h : PnAt w x) (ho : PnOk x) (hr : PnR x) (hk : x.k = 1) :
    Calls Try.prog 40 #[pnV x, .int .u64 t] w fun e w' => ∃ u, e = .returned u ∧ IsCoins w' u (lst (vestP x t) 8) ∧ Below w.heap.size w w' := by
  have hse := hr.k1 hk
  have hv : vestP x t = if x.e ≤ t then amP x.al else if t ≤ x.s then zeroP else evP x.al (t - x.s) (x.e - x.s) := by unfold vestP; rw [if_pos hk]
  by_cases h1 : x.e ≤ t
  · rw [hv, if_pos h1]
    have hA : Hid (∀ X, Below w.heap.size w X → IsCoins X x.av (lst (amP x.al) 8)) := fun X hX => al_coins (h.below hX) hr
    obtain ⟨k, s, u, av, pv, al, pl⟩ := x
    obtain ⟨hh1, hh2⟩ := h
    simp only at h1 hse hA hh1 hh2 ⊢
    obtain ⟨a1, c1, rfl⟩ := hh1.slice
    obtain ⟨a2, c2, rfl⟩ := hh2.slice
    have hb : Below w.heap.size w (w.alloc (.cells #[.int .u8 k, .int .u64 s, .int .u64 u, .slice a1 al.length c1, .slice a2 pl.length c2] 33)) := ba (Below.refl _ _) _
    have hC := cloneCI_any _ (hA.out _ hb) (lst8 _)
    unfold GivesC at hC
    show Calls Try.prog 40 #[.agg #[.int .u8 k, .int .u64 s, .int .u64 u, .slice a1 al.length c1, .slice a2 pl.length c2], .int .u64 t] w _
    clear hh1 hh2 ho hr hv hA hk
    go_enter Try.func40, Try.ntmps40
    go_wp2_with (go_at_call 35; refine hC.mono ?_; rintro e w1 ⟨au, n, cu, rfl, hI, hN, hb1⟩; have hI : Hid _ := hI; have hN : Hid _ := hN)
    go_ret
    exact ⟨_, rfl, hI.out, bt hb hb1⟩
  · rw [hv, if_neg h1]
    by_cases h2 : t ≤ x.s
    · rw [if_pos h2]
      obtain ⟨k, s, u, av, pv, al, pl⟩ := x
      obtain ⟨hh1, hh2⟩ := h
      simp only at h1 h2 hh1 hh2 ⊢
      obtain ⟨a1, c1, rfl⟩ := hh1.slice
      obtain ⟨a2, c2, rfl⟩ := hh2.slice
      show Calls Try.prog 40 #[.agg #[.int .u8 k, .int .u64 s, .int .u64 u, .slice a1 al.length c1, .slice a2 pl.length c2], .int .u64 t] w _
      clear hh1 hh2 ho hr hv hk hse
      go_enter Try.func40, Try.ntmps40
      go_wp2
      go_ret
      exact ⟨_, rfl, zero_coins _, ba (Below.refl _ _) _⟩
    · rw [if_neg h2]
      have hn : x.al.length ≤ 1048576 := by rw [← amP_lst hr.al]; have := lst_len (amP x.al) 8; omega
      refine (evenly_mid (t := t) w h ho.w (by omega) (by omega) hn).mono ?_
      rintro e w' ⟨v, ys, rfl, hl, he, hown, hb⟩
      have hf := ev_flat ho.w.al hr.al hl he (by omega) (by omega) (by omega)
      rw [hf] at hown
      exact ⟨v, rfl, own_coins hown (lst8 _), hb⟩
theorem pds_take {W : World} {a : Option Addr} {c : Nat} {l : List Pd} (h : IsPds W (.slice a l.length c) l) {m : Nat} (hm : m ≤ l.length) : IsPds W (.slice a m c) (l.take m) := by
  by_cases hm0 : m = 0
  · subst hm0; exact .inl ⟨by simp, a, c, rfl⟩
  · rcases h with ⟨rfl, -⟩ | ⟨blk, off, cap, ev, hne, hlen, hbl, hall⟩
    · simp at hm; omega
    · simp at ev
      obtain ⟨rfl, rfl⟩ := ev
      refine .inr ⟨blk, off, c, by simp [Nat.min_eq_left hm], ?_, by simp; omega, hbl, fun i q hi => ?_⟩
      · intro e; have := congrArg List.length e; simp at this; rcases this with h | h
        · omega
        · subst h; exact hne rfl
      · rw [List.getElem?_take] at hi
        split at hi
        · exact hall i q hi
        · cases hi
section
variable {s t u : Int} {a1 a2 : Option Addr} {c1 c2 : Nat} {al : List Cn} {pl : List Pd}
set_option maxHeartbeats 4000000 in
theorem vested_2 (w : World) (h : PnAt w ⟨2, s, u, .slice a1 al.length c1, .slice a2 pl.length c2, al, pl⟩) (hr : PnR ⟨2, s, u, .slice a1 al.length c1, .slice a2 pl.length c2, al, pl⟩) :
    Calls Try.prog 14 #[.agg #[.int .u8 2, .int .u64 s, .int .u64 u, .slice a1 al.length c1, .slice a2 pl.length c2], .int .u64 t] w fun e w' => ∃ u', e = .returned u' ∧ IsCoins w' u' (lst (if u ≤ t then amP al else zeroP) 8) ∧ Below w.heap.size w w' := by
  have hb : Below w.heap.size w (w.alloc (.cells #[.int .u8 2, .int .u64 s, .int .u64 u, .slice a1 al.length c1, .slice a2 pl.length c2] 33)) := ba (Below.refl _ _) _
  by_cases h1 : u ≤ t
  · rw [if_pos h1]
    have hC := cloneCI_any _ (al_coins (h.below hb) hr) (lst8 _)
    unfold GivesC at hC
    simp only at hC
    clear h hr
    go_enter Try.func14, Try.ntmps14
    go_wp2_with (go_at_call 35; refine hC.mono ?_; rintro e w1 ⟨au, n, cu, rfl, hI, hN, hb1⟩; have hI : Hid _ := hI; have hN : Hid _ := hN)
    go_ret
    exact ⟨_, rfl, hI.out, bt hb hb1⟩
  · rw [if_neg h1]
    clear h hr
    go_enter Try.func14, Try.ntmps14
    go_wp2
    go_ret
    exact ⟨_, rfl, zero_coins _, hb⟩
set_option maxHeartbeats 4000000 in
theorem vested_no {k : Int} (h1 : ¬ k = 1) (h2 : ¬ k = 2) (h3 : ¬ k = 3) (h5 : ¬ k = 5) (w : World) (v1 v2 : Value) :
    Calls Try.prog 14 #[.agg #[.int .u8 k, .int .u64 s, .int .u64 u, v1, v2], .int .u64 t] w fun e w' => ∃ u', e = .returned u' ∧ IsCoins w' u' (lst zeroP 8) ∧ Below w.heap.size w w' := by
  go_enter Try.func14, Try.ntmps14
  go_wp2
  go_ret
  exact ⟨_, rfl, zero_coins _, ba (Below.refl _ _) _⟩
set_option maxHeartbeats 4000000 in
theorem vested_1 (w : World) (h : PnAt w ⟨1, s, u, .slice a1 al.length c1, .slice a2 pl.length c2, al, pl⟩) (ho : PnOk ⟨1, s, u, .slice a1 al.length c1, .slice a2 pl.length c2, al, pl⟩) (hr : PnR ⟨1, s, u, .slice a1 al.length c1, .slice a2 pl.length c2, al, pl⟩) :
    Calls Try.prog 14 #[.agg #[.int .u8 1, .int .u64 s, .int .u64 u, .slice a1 al.length c1, .slice a2 pl.length c2], .int .u64 t] w fun e w' => ∃ u', e = .returned u' ∧ IsCoins w' u' (lst (vestP ⟨1, s, u, .slice a1 al.length c1, .slice a2 pl.length c2, al, pl⟩ t) 8) ∧ Below w.heap.size w w' := by
  have hb : Below w.heap.size w (w.alloc (.cells #[.int .u8 1, .int .u64 s, .int .u64 u, .slice a1 al.length c1, .slice a2 pl.length c2] 33)) := ba (Below.refl _ _) _
  have hE := GivesI.of (evenly_any (t := t) _ (h.below hb) ho hr rfl)
  unfold GivesI at hE
  have hE' : Calls Try.prog 40 #[.agg #[.int .u8 1, .int .u64 s, .int .u64 u, .slice a1 al.length c1, .slice a2 pl.length c2], .int .u64 t] _ _ := hE
  generalize vestP ⟨1, s, u, .slice a1 al.length c1, .slice a2 pl.length c2, al, pl⟩ t = z at *
  clear hE h ho hr
  go_enter Try.func14, Try.ntmps14
  go_wp2_with (go_at_call 40; refine hE'.mono ?_; rintro e w1 ⟨au, n, cu, rfl, hI, hb1⟩; have hI : Hid _ := hI)
  go_ret
  exact ⟨_, rfl, hI.out, bt hb hb1⟩
set_option maxHeartbeats 4000000 in
theorem vested_3 (w : World) (h : PnAt w ⟨3, s, u, .slice a1 al.length c1, .slice a2 pl.length c2, al, pl⟩) (ho : PnOk ⟨3, s, u, .slice a1 al.length c1, .slice a2 pl.length c2, al, pl⟩) (hr : PnR ⟨3, s, u, .slice a1 al.length c1, .slice a2 pl.length c2, al, pl⟩) (ht : 0 ≤ t ∧ t < 18446744073709551616) (hcc : pl.length ≤ c2) :
    Calls Try.prog 14 #[.agg #[.int .u8 3, .int .u64 s, .int .u64 u, .slice a1 al.length c1, .slice a2 pl.length c2], .int .u64 t] w fun e w' => ∃ u', e = .returned u' ∧ IsCoins w' u' (lst (sumP (pl.take (ovN pl s t).1)) 8) ∧ Below w.heap.size w w' := by
  have hb : Below w.heap.size w (w.alloc (.cells #[.int .u8 3, .int .u64 s, .int .u64 u, .slice a1 al.length c1, .slice a2 pl.length c2] 33)) := ba (Below.refl _ _) _
  have hO := over_any (t := t) _ (h.below hb) ho ht
  have hO' : Calls Try.prog 34 #[.agg #[.int .u8 3, .int .u64 s, .int .u64 u, .slice a1 al.length c1, .slice a2 pl.length c2], .int .u64 t] _ _ := hO
  have hle := ovN_le pl s t
  have hst := steps_facts (hr.st (by simp))
  have hlo := fun (d : Nat) (hd : d < 8) => al_lo ho hd
  have htot := hst.tot
  have hlen := h.2.len
  have hok := hst.ok
  have hwf := ho.p
  have hh2 := h.2
  simp only at htot hlo hlen hok hwf hh2 hO'
  have hkeep : Hid (∀ X, Below (w.alloc (.cells #[.int .u8 3, .int .u64 s, .int .u64 u, .slice a1 al.length c1, .slice a2 pl.length c2] 33)).heap.size (w.alloc (.cells #[.int .u8 3, .int .u64 s, .int .u64 u, .slice a1 al.length c1, .slice a2 pl.length c2] 33)) X → X.cell? ⟨w.heap.size, 4, none⟩ = some (.slice a2 pl.length c2)) := fun X hX => by
    have q1 := (hX.block w.heap.size (by simp)).trans (al_at rfl)
    exact (cells_of_block q1).1 4
  clear hO h ho hr hst
  generalize hm : (ovN pl s t).1 = m at *
  have hwt : ∀ q ∈ pl.take m, PdWf q := fun q hq => hwf q (List.mem_of_mem_take hq)
  have hrt : ∀ q ∈ pl.take m, rightFrom 0 q.l = true := fun q hq => some_right (hok q (List.mem_of_mem_take hq)).2
  have hft : ∀ d, d < 8 → tot (pl.take m) d < 115792089237316195423570985008687907853269984665640564039457584007913129639936 := fun d hd => by
    have h1 := tot_take hwf m hd
    have h2 := htot d hd
    have h3 := hlo d hd
    omega
  have hT : Hid (∀ X, Below w.heap.size w X → Calls Try.prog 41 #[.slice a2 m c2] X fun e w' => ∃ a n c, e = .returned (.tuple #[.slice a n c, .int .i64 0]) ∧ IsCoins w' (.slice a n c) (lst (sumP (pl.take m)) 8) ∧ Below X.heap.size X w') := fun X hX => together_gives X (pds_take (hh2.below hX) hle) hwt hrt hft
  have hmc : ¬ (c2 : Int) < (m : Int) := by omega
  clear hh2 hwf hok htot hlo hwt hrt hft hm
  generalize pl.take m = pm at *
  go_enter Try.func14, Try.ntmps14
  go_wp2_with (first
    | (go_at_call 34; refine hO'.mono ?_; rintro e w1 ⟨rfl, hb1⟩; have q := hkeep.out _ hb1)
    | (go_at_call 41; refine (hT.out _ (bt hb hb1)).mono ?_; rintro e w2 ⟨au, n, cu, rfl, hI, hb2⟩; have hI : Hid _ := hI))
  go_ret
  exact ⟨_, rfl, hI.out, bt (bt hb hb1) hb2⟩
set_option maxHeartbeats 4000000 in
theorem vested_5 (w : World) (h : PnAt w ⟨5, s, u, .slice a1 al.length c1, .slice a2 pl.length c2, al, pl⟩) (ho : PnOk ⟨5, s, u, .slice a1 al.length c1, .slice a2 pl.length c2, al, pl⟩) (hr : PnR ⟨5, s, u, .slice a1 al.length c1, .slice a2 pl.length c2, al, pl⟩) (ht : 0 ≤ t ∧ t < 18446744073709551616) (hcc : pl.length ≤ c2) :
    Calls Try.prog 14 #[.agg #[.int .u8 5, .int .u64 s, .int .u64 u, .slice a1 al.length c1, .slice a2 pl.length c2], .int .u64 t] w fun e w' => ∃ u', e = .returned u' ∧ IsCoins w' u' (lst (sumP (pl.take (ovN pl s t).1)) 8) ∧ Below w.heap.size w w' := by
  have hb : Below w.heap.size w (w.alloc (.cells #[.int .u8 5, .int .u64 s, .int .u64 u, .slice a1 al.length c1, .slice a2 pl.length c2] 33)) := ba (Below.refl _ _) _
  have hO := over_any (t := t) _ (h.below hb) ho ht
  have hO' : Calls Try.prog 34 #[.agg #[.int .u8 5, .int .u64 s, .int .u64 u, .slice a1 al.length c1, .slice a2 pl.length c2], .int .u64 t] _ _ := hO
  have hle := ovN_le pl s t
  have hst := steps_facts (hr.st (by simp))
  have hlo := fun (d : Nat) (hd : d < 8) => al_lo ho hd
  have htot := hst.tot
  have hlen := h.2.len
  have hok := hst.ok
  have hwf := ho.p
  have hh2 := h.2
  simp only at htot hlo hlen hok hwf hh2 hO'
  have hkeep : Hid (∀ X, Below (w.alloc (.cells #[.int .u8 5, .int .u64 s, .int .u64 u, .slice a1 al.length c1, .slice a2 pl.length c2] 33)).heap.size (w.alloc (.cells #[.int .u8 5, .int .u64 s, .int .u64 u, .slice a1 al.length c1, .slice a2 pl.length c2] 33)) X → X.cell? ⟨w.heap.size, 4, none⟩ = some (.slice a2 pl.length c2)) := fun X hX => by
    have q1 := (hX.block w.heap.size (by simp)).trans (al_at rfl)
    exact (cells_of_block q1).1 4
  clear hO h ho hr hst
  generalize hm : (ovN pl s t).1 = m at *
  have hwt : ∀ q ∈ pl.take m, PdWf q := fun q hq => hwf q (List.mem_of_mem_take hq)
  have hrt : ∀ q ∈ pl.take m, rightFrom 0 q.l = true := fun q hq => some_right (hok q (List.mem_of_mem_take hq)).2
  have hft : ∀ d, d < 8 → tot (pl.take m) d < 115792089237316195423570985008687907853269984665640564039457584007913129639936 := fun d hd => by
    have h1 := tot_take hwf m hd
    have h2 := htot d hd
    have h3 := hlo d hd
    omega
  have hT : Hid (∀ X, Below w.heap.size w X → Calls Try.prog 41 #[.slice a2 m c2] X fun e w' => ∃ a n c, e = .returned (.tuple #[.slice a n c, .int .i64 0]) ∧ IsCoins w' (.slice a n c) (lst (sumP (pl.take m)) 8) ∧ Below X.heap.size X w') := fun X hX => together_gives X (pds_take (hh2.below hX) hle) hwt hrt hft
  have hmc : ¬ (c2 : Int) < (m : Int) := by omega
  clear hh2 hwf hok htot hlo hwt hrt hft hm
  generalize pl.take m = pm at *
  go_enter Try.func14, Try.ntmps14
  go_wp2_with (first
    | (go_at_call 34; refine hO'.mono ?_; rintro e w1 ⟨rfl, hb1⟩; have q := hkeep.out _ hb1)
    | (go_at_call 41; refine (hT.out _ (bt hb hb1)).mono ?_; rintro e w2 ⟨au, n, cu, rfl, hI, hb2⟩; have hI : Hid _ := hI))
  go_ret
  exact ⟨_, rfl, hI.out, bt (bt hb hb1) hb2⟩
end
theorem vested_any {x : Pn} {t : Int} (w : World) (h : PnAt w x) (ho : PnOk x) (hr : PnR x) (ht : 0 ≤ t ∧ t < 18446744073709551616) (hc : ∃ a n c, x.pv = .slice a n c ∧ n ≤ c) :
    GivesI 14 #[pnV x, .int .u64 t] w (lst (vestP x t) 8) := by
  apply GivesI.of
  obtain ⟨k, s, u, av, pv, al, pl⟩ := x
  obtain ⟨a1, c1, e1⟩ := h.1.slice
  obtain ⟨a2, c2, e2⟩ := h.2.slice
  simp only at e1 e2
  subst e1 e2
  have hk := hr.k
  simp only at hk
  have hcc : pl.length ≤ c2 := by
    obtain ⟨a, n, c, e, hl⟩ := hc
    simp at e
    omega
  rcases hk with rfl | rfl | rfl | rfl | rfl | rfl
  · exact vested_no (k := 0) (by omega) (by omega) (by omega) (by omega) w _ _
  · exact vested_1 w h ho hr
  · exact vested_2 w h hr
  · exact vested_3 w h ho hr ht hcc
  · exact vested_no (k := 4) (by omega) (by omega) (by omega) (by omega) w _ _
  · exact vested_5 w h ho hr ht hcc
end Go.Proofs.Ytjhjgncnadhbhaa

/- Plans that are made: a row of periods, a period added. -/
namespace Go.Proofs.Ytjhjgncnadhbhaa
open Go.ChangeShapes Go.WideShapes Go.ChangeAt Go.RowKit

def cellsP (l : List Pd) : List Value := l.flatMap fun q => [.int .u64 q.n, q.v]
theorem cellsP_app (l m : List Pd) : cellsP (l ++ m) = cellsP l ++ cellsP m := by simp [cellsP, List.flatMap_append]
theorem cellsP_length (l : List Pd) : (cellsP l).length = l.length * 2 := by
  induction l with
  | nil => rfl
  | cons q l ih => simp only [cellsP, List.flatMap_cons] at ih ⊢; rw [List.length_append, ih]; simp; omega
theorem cellsP_at {l : List Pd} {i : Nat} {q : Pd} (hi : l[i]? = some q) : (cellsP l)[i * 2]? = some (.int .u64 q.n) ∧ (cellsP l)[i * 2 + 1]? = some q.v := by
  induction l generalizing i with
  | nil => simp at hi
  | cons p l ih =>
    cases i with
    | zero => simp at hi; subst hi; exact ⟨rfl, rfl⟩
    | succ i =>
      have h := ih (i := i) (by simpa using hi)
      have e : cellsP (p :: l) = [Value.int .u64 p.n, p.v] ++ cellsP l := rfl
      rw [e, List.getElem?_append_right (by simp; omega), List.getElem?_append_right (by simp; omega)]
      have e1 : (i + 1) * 2 - [Value.int .u64 p.n, p.v].length = i * 2 := by simp; omega
      have e2 : (i + 1) * 2 + 1 - [Value.int .u64 p.n, p.v].length = i * 2 + 1 := by simp; omega
      rw [e1, e2]
      exact h
theorem period_info : (Try.prog.info? 71).map (fun i => (i.zero, i.size, i.bytes)) = some (some (.agg #[.int .u64 0, .slice none 0 0]), 2, 32) := by kernel_rfl
theorem IsCL.keep {W W' : World} {v : Value} {l : List Cn} (h : IsCL W v l) (e : ∀ g, v.ownBlock = some g → W'.heap[g]? = W.heap[g]?) (hs : W.heap.size ≤ W'.heap.size) : IsCL W' v l := by
  rcases h with h | ⟨blk, off, cap, hv, hne, hlen, hlt, hall⟩
  · exact .inl h
  · have hb := e blk (by rw [hv]; rfl)
    refine .inr ⟨blk, off, cap, hv, hne, hlen, Nat.lt_of_lt_of_le hlt hs, fun i x hi => ?_⟩
    obtain ⟨h0, h1, h2, h3, h4⟩ := hall i x hi
    exact ⟨(World.cell?_of_block (a := ⟨blk, _, none⟩) hb).trans h0, (World.cell?_of_block (a := ⟨blk, _, none⟩) hb).trans h1, (World.cell?_of_block (a := ⟨blk, _, none⟩) hb).trans h2, (World.cell?_of_block (a := ⟨blk, _, none⟩) hb).trans h3, (World.cell?_of_block (a := ⟨blk, _, none⟩) hb).trans h4⟩
/-- A row of periods that is a function's own, with each one's coins elsewhere (and not in block bp). -/
structure QsAt (X : World) (lo bp : Nat) (pv : Value) (qs : List Pd) : Prop where
  row : X.ownsRow lo 71 2 pv qs.length (cellsP qs)
  nb : pv.ownBlock ≠ some bp
  all : ∀ q ∈ qs, IsCL X q.v q.l ∧ ∀ g, q.v.ownBlock = some g → g < X.heap.size ∧ pv.ownBlock ≠ some g ∧ bp < g
theorem QsAt.kept {X X' : World} {lo bp j : Nat} {pv : Value} {qs : List Pd} (h : QsAt X lo bp pv qs) (hj : j ≤ bp) (hn : pv.ownBlock ≠ some j) (hg : X.grownBy X' (some j)) : QsAt X' lo bp pv qs :=
  ⟨h.row.kept hg (.inr hn), h.nb, fun q hq => ⟨(h.all q hq).1.keep (fun g hv => hg.block g ((h.all q hq).2 g hv).1 (by have := ((h.all q hq).2 g hv).2.2; simp; omega)) hg.size, fun g hv => ⟨Nat.lt_of_lt_of_le ((h.all q hq).2 g hv).1 hg.size, ((h.all q hq).2 g hv).2⟩⟩⟩
theorem QsAt.below {X X' : World} {lo bp : Nat} {pv : Value} {qs : List Pd} (h : QsAt X lo bp pv qs) (hb : Below X.heap.size X X') : QsAt X' lo bp pv qs := h.kept (Nat.le_refl _) h.nb (grown_up (grown_none hb))
theorem QsAt.nil (X : World) (lo bp : Nat) : QsAt X lo bp (.slice none 0 0) [] := ⟨World.ownsRow_nil _ _ _ _, by simp [Value.ownBlock], by simp⟩
theorem QsAt.pds {X : World} {lo bp : Nat} {pv : Value} {qs : List Pd} (h : QsAt X lo bp pv qs) (hl : qs.length ≤ 1048576) : IsPds X pv qs := by
  by_cases hq : qs = []
  · subst hq
    obtain ⟨a, c, rfl⟩ := row_slice h.row
    exact .inl ⟨rfl, a, c, rfl⟩
  · rcases h.row.2 with ⟨_, h0⟩ | ⟨g, cap, cur, rfl, h1, h2, h3⟩
    · exact absurd (List.eq_nil_of_length_eq_zero h0) hq
    · refine .inr ⟨g, 0, cap, rfl, hq, by omega, (Array.getElem?_eq_some_iff.1 h2).1, fun i q hi => ?_⟩
      have key : ∀ (j : Nat) u, (cellsP qs)[j]? = some u → X.cell? ⟨g, j, none⟩ = some u := fun j u hj => by
        have := h.row.cells (g := g) rfl j u hj
        rwa [add_cell, Nat.zero_add] at this
      obtain ⟨e1, e2⟩ := cellsP_at hi
      exact ⟨by rw [Nat.zero_add]; exact key _ _ e1, by rw [Nat.zero_add]; exact key _ _ e2, (h.all q (List.mem_of_getElem? hi)).1⟩
theorem QsAt.cap {X : World} {lo bp : Nat} {pv : Value} {qs : List Pd} (h : QsAt X lo bp pv qs) : ∃ a n c, pv = .slice a n c ∧ n ≤ c := by
  rcases h.row.2 with ⟨rfl, _⟩ | ⟨g, cap, cur, rfl, h1, h2, h3, -⟩
  · exact ⟨_, _, _, rfl, Nat.le_refl _⟩
  · exact ⟨_, _, _, rfl, h3⟩
/-- One period more. -/
theorem per_app {W X : World} {lo bp : Nat} {v : Value} {qs : List Pd} (hr : QsAt X lo bp v qs) (hlo : lo ≤ X.heap.size) (hbp : bp < X.heap.size) (hb : Below W.heap.size W X) (hW : W.heap.size ≤ lo) (hl : qs.length ≤ 1000) (q : Pd) (h1 : q.v.oneCell' = true) (hq : IsCL X q.v q.l) (hqn : ∀ g, q.v.ownBlock = some g → g < X.heap.size ∧ v.ownBlock ≠ some g ∧ bp < g) {ops : Array Oper} {rest : List Oper} {o : Oper} {a : Act} {Q : Exit → Act → World → Prop} (hgd : o.guard = none) (s y : Operand)
    (ho : o.op = .call { callee := .builtin .append, args := #[s, y], argTypes := #[31, 31] }) (hs : a.eval s = v) {g : Nat} (hx : a.eval y = .slice (some ⟨g, 0, none⟩) 1 1) (hc : X.heap[g]? = some (.cells #[.int .u64 q.n, q.v] 71 (0, 0)))
    (k : ∀ qs' v' w', Hid (qs' = qs ++ [q]) → QsAt w' lo bp v' qs' → Below W.heap.size W w' → (∀ n, n < X.heap.size → v.ownBlock ≠ some n → w'.heap[n]? = X.heap[n]?) → X.heap.size ≤ w'.heap.size → (∀ n, n < X.heap.size → v.ownBlock ≠ some n → v'.ownBlock ≠ some n) → wpList Try.prog ops Q rest (a.put o.dst v') w') : wpList Try.prog ops Q (o :: rest) a X := by
  obtain ⟨i0, hi, hz0, hz1, hz2⟩ := info_parts period_info
  refine wpList_append_own_at X hgd s y 31 ho lo 71 i0 _ 2 32 Try.underlying31 hi hz0 hz1 hz2 rfl (by decide) v qs.length (cellsP qs) hs hr.row ⟨g, 0, none⟩ 1 1 [.int .u64 q.n, q.v] hx rfl (fun j u hj => by rw [add_cell, Nat.zero_add, (cells_of_block hc).1]; simpa using hj) (fun u hu => by simp at hu; rcases hu with rfl | rfl; rfl; exact h1) (by unfold maxLen; omega) (by omega) hlo ?_
  intro u' w' hown hg _ hat
  have kk : ∀ g, g < X.heap.size → v.ownBlock ≠ some g → w'.heap[g]? = X.heap[g]? := fun n hn hne => hg.block n hn (Ne.symm hne)
  have nn : ∀ g, g < X.heap.size → v.ownBlock ≠ some g → u'.ownBlock ≠ some g := fun n hn hne e => by
    rcases hat with h4 | h4
    · rw [h4] at e; exact hne e
    · rw [h4] at e; injection e with e; omega
  refine k (qs ++ [q]) u' w' rfl ⟨by rw [List.length_append, cellsP_app]; exact hown, nn bp hbp hr.nb, fun x hx => ?_⟩ (hb.grown hg hb.size (fun k hk => by have := (hr.row.lt k hk).1; omega)) kk hg.size nn
  rcases List.mem_append.1 hx with hx | hx
  · obtain ⟨q1, q2⟩ := hr.all x hx
    exact ⟨q1.keep (fun g hv => kk g (q2 g hv).1 (q2 g hv).2.1) hg.size, fun g hv => ⟨Nat.lt_of_lt_of_le (q2 g hv).1 hg.size, nn g (q2 g hv).1 (q2 g hv).2.1, (q2 g hv).2.2⟩⟩
  · rw [List.mem_singleton] at hx
    subst hx
    exact ⟨hq.keep (fun g hv => kk g (hqn g hv).1 (hqn g hv).2.1) hg.size, fun g hv => ⟨Nat.lt_of_lt_of_le (hqn g hv).1 hg.size, nn g (hqn g hv).1 (hqn g hv).2.1, (hqn g hv).2.2⟩⟩
end Go.Proofs.Ytjhjgncnadhbhaa

/- jointurelaw06.plans of kinds without periods. -/
namespace Go.Proofs.Ytjhjgncnadhbhaa
open Go.ChangeShapes Go.WideShapes Go.ChangeAt Go.RowKit

/-- A plan that was made: it may be. -/
def MadeOk (W w' : World) (e : Ending) : Prop := ∃ x : Pn, e = .returned (pnV x) ∧ PnAt w' x ∧ PnOk x ∧ rightB x = true ∧ (∃ a n c, x.pv = .slice a n c ∧ n ≤ c) ∧ Below W.heap.size W w'
theorem of6_gives {v : Value} {l : List Cn} (w : World) (h : IsCoins w v l) (hwf : ∀ x ∈ l, CnWf x) :
    Calls Try.prog 32 #[v] w fun e w' => ∃ a c, e = .returned (.slice a (mkL l).length c) ∧ IsCoins w' (.slice a (mkL l).length c) (mkL l) ∧ NewV w w' (.slice a (mkL l).length c) ∧ Below w.heap.size w w' := by
  refine (of6_any w h hwf).mono ?_
  rintro e w' ⟨u, rfl, h1, h2, h3⟩
  obtain ⟨a, c, rfl⟩ := h1.sl
  exact ⟨a, c, rfl, h1, h2, h3⟩
theorem pad_high {A B : World} {m : Nat} {g : Nat → Obj} {d e k : Nat} (hs : A.heap.size = B.heap.size) (hk : A.heap.size ≤ k) : (pad A m g d).heap[k]? = (pad B m g e).heap[k]? := by
  have h1 : ¬ k < A.heap.size := by omega
  have h2 : ¬ k < B.heap.size := by omega
  by_cases h : k < m <;> simp [pad, h, h1, h2]
section
variable {w : World} {k s n : Int} {a1 a2 : Option Addr} {n1 c1 n2 c2 : Nat} {l : List Cn} {ps : List Pa}
set_option maxRecDepth 20000 in
set_option maxHeartbeats 4000000 in
theorem plans_0 (h : MdIn w ⟨k, s, n, a1, n1, c1, a2, n2, c2, l, ps⟩) (hk : k % 6 = 0) (hf : n1 ≤ 20) (W : World) (hB : Below w.heap.size w W) :
    Calls Try.prog 8 #[.agg #[.int .u8 k, .int .u32 s, .int .u16 n, .slice a1 n1 c1, .slice a2 n2 c2]] W fun e w' => MadeOk W w' e := by
  have hpad := pads
  have hk0 := h.k
  have hs := h.s
  have hn := h.n
  have hcl := h.cl
  have hwf := h.wf
  have hlen := h.len
  simp only at hk0 hs hn hcl hwf hlen
  have hkm : k.tmod 6 = 0 := by rw [Int.tmod_eq_emod_of_nonneg hk0.1, hk]
  have hw1 : IntKind.u64.wrap s = s := by rw [IntKind.wrap_u64]; omega
  have hw2 : IntKind.u64.wrap n = n := by rw [IntKind.wrap_u64]; omega
  have hw3 : IntKind.u64.wrap (n + 1) = n + 1 := by rw [IntKind.wrap_u64]; omega
  have hw4 : IntKind.u64.wrap (s + (n + 1)) = s + (n + 1) := by rw [IntKind.wrap_u64]; omega
  clear h
  clear hcl hwf hlen
  go_enter Try.func8, Try.ntmps8
  go_upto_region 2 with fail
  go_region
  all_goals go_wp2
  all_goals refine bodyPost_ret (v := pnV pnZ) (by simp only [results, Try.results8]; go_simp; rfl) rfl ⟨pnZ, rfl, pnZ_at _, ⟨⟨by simp [pnZ], by simp [pnZ], by simp [pnZ], by simp [pnZ]⟩, by simp [pnZ]⟩, rfl, ⟨none, 0, 0, rfl, Nat.le_refl _⟩, ?_⟩
  all_goals (repeat (first | (with_reducible exact Below.refl _ _) | (with_reducible assumption) | (with_reducible apply bd) | (with_reducible apply ba) | (with_reducible refine bp ?_ (by first | omega | (simp [pad_size]; done) | (simp [pad_size]; omega)) _ _) | (with_reducible refine bs ?_ (by first | omega | (simp [pad_size]; done) | (simp [pad_size]; omega)) _) | (with_reducible refine bt ?_ (by assumption))))
set_option maxRecDepth 20000 in
set_option maxHeartbeats 4000000 in
theorem plans_1 (h : MdIn w ⟨k, s, n, a1, n1, c1, a2, n2, c2, l, ps⟩) (hk : k % 6 = 1) (hf : n1 ≤ 20) (W : World) (hB : Below w.heap.size w W) :
    Calls Try.prog 8 #[.agg #[.int .u8 k, .int .u32 s, .int .u16 n, .slice a1 n1 c1, .slice a2 n2 c2]] W fun e w' => MadeOk W w' e := by
  have hpad := pads
  have hk0 := h.k
  have hs := h.s
  have hn := h.n
  have hcl := h.cl
  have hwf := h.wf
  have hlen := h.len
  simp only at hk0 hs hn hcl hwf hlen
  have hkm : k.tmod 6 = 1 := by rw [Int.tmod_eq_emod_of_nonneg hk0.1, hk]
  have hw1 : IntKind.u64.wrap s = s := by rw [IntKind.wrap_u64]; omega
  have hw2 : IntKind.u64.wrap n = n := by rw [IntKind.wrap_u64]; omega
  have hw3 : IntKind.u64.wrap (n + 1) = n + 1 := by rw [IntKind.wrap_u64]; omega
  have hw4 : IntKind.u64.wrap (s + (n + 1)) = s + (n + 1) := by rw [IntKind.wrap_u64]; omega
  clear h
  have hO : Hid (∀ X, Below W.heap.size W X → Calls Try.prog 32 #[.slice a1 n1 c1] X fun e w' => ∃ a c, e = .returned (.slice a (mkL l).length c) ∧ IsCoins w' (.slice a (mkL l).length c) (mkL l) ∧ NewV X w' (.slice a (mkL l).length c) ∧ Below X.heap.size X w') := fun X hX => of6_gives X ((hcl.below (bt hB hX)).coins (by omega)) hwf
  have hmk := mkL_facts (l := l) (fun x hx => (hwf x hx).2)
  generalize mkL l = ml at *
  clear hcl hwf hlen
  go_enter Try.func8, Try.ntmps8
  go_upto_region 2 with fail
  obtain ⟨P1, hP1⟩ : ∃ P1 : World, Hid (P1 = W) := ⟨W, rfl⟩
  go_region
  all_goals go_wp2_with (go_at_call 32; refine (hO.out _ (by (repeat (first | (with_reducible exact Below.refl _ _) | (with_reducible assumption) | (with_reducible apply bd) | (with_reducible apply ba) | (with_reducible refine bp ?_ (by first | omega | (simp [pad_size]; done) | (simp [pad_size]; omega)) _ _) | (with_reducible refine bs ?_ (by first | omega | (simp [pad_size]; done) | (simp [pad_size]; omega)) _) | (with_reducible refine bt ?_ (by assumption)))))).mono ?_; rintro e w1 ⟨a, c, rfl, hI, hN, hb⟩; obtain ⟨m1, g1, d1, hm1, rfl⟩ := pad_of hb; replace hI : Hid (IsCoins _ (.slice a ml.length c) ml) := hI; replace hN : Hid (NewV _ _ (.slice a ml.length c)) := hN; clear hb; simp [pad_size] at hm1; have st1 := sz3 (n := W.heap.size) (m := m1) (by omega))
  all_goals refine bodyPost_ret (v := pnV ⟨1, s, s + (n + 1), .slice a ml.length c, .slice none 0 0, ml, []⟩) (by simp only [results, Try.results8]; go_simp; rfl) rfl ⟨⟨1, s, s + (n + 1), .slice a ml.length c, .slice none 0 0, ml, []⟩, rfl, ⟨IsCL.keep (IsCoins.cl hI.out) (fun g' hg => pad_high (by simp) (by have := (hN.out g' hg).1; simp at this ⊢; omega)) (by simp [pad_size]), .inl ⟨rfl, none, 0, rfl⟩⟩, ⟨⟨by simp, (by show 0 ≤ s ∧ s < 18446744073709551616; omega), (by show 0 ≤ s + (n + 1) ∧ s + (n + 1) < 18446744073709551616; omega), hmk.1⟩, by simp⟩, ?_, ⟨none, 0, 0, rfl, Nat.le_refl _⟩, by (repeat (first | (with_reducible exact Below.refl _ _) | (with_reducible assumption) | (with_reducible apply bd) | (with_reducible apply ba) | (with_reducible refine bp ?_ (by first | omega | (simp [pad_size]; done) | (simp [pad_size]; omega)) _ _) | (with_reducible refine bs ?_ (by first | omega | (simp [pad_size]; done) | (simp [pad_size]; omega)) _) | (with_reducible refine bt ?_ (by assumption))))⟩
  all_goals
    have h1 : someB ml = true := hmk.2.1
    have h2 : decide (s + (n + 1) ≤ 1099511627776) = true := decide_eq_true (by omega)
    simp [rightB, rightN, givesB, h1]
    try omega
set_option maxRecDepth 20000 in
set_option maxHeartbeats 4000000 in
theorem plans_2 (h : MdIn w ⟨k, s, n, a1, n1, c1, a2, n2, c2, l, ps⟩) (hk : k % 6 = 2) (hf : n1 ≤ 20) (W : World) (hB : Below w.heap.size w W) :
    Calls Try.prog 8 #[.agg #[.int .u8 k, .int .u32 s, .int .u16 n, .slice a1 n1 c1, .slice a2 n2 c2]] W fun e w' => MadeOk W w' e := by
  have hpad := pads
  have hk0 := h.k
  have hs := h.s
  have hn := h.n
  have hcl := h.cl
  have hwf := h.wf
  have hlen := h.len
  simp only at hk0 hs hn hcl hwf hlen
  have hkm : k.tmod 6 = 2 := by rw [Int.tmod_eq_emod_of_nonneg hk0.1, hk]
  have hw1 : IntKind.u64.wrap s = s := by rw [IntKind.wrap_u64]; omega
  have hw2 : IntKind.u64.wrap n = n := by rw [IntKind.wrap_u64]; omega
  have hw3 : IntKind.u64.wrap (n + 1) = n + 1 := by rw [IntKind.wrap_u64]; omega
  have hw4 : IntKind.u64.wrap (s + (n + 1)) = s + (n + 1) := by rw [IntKind.wrap_u64]; omega
  clear h
  have hO : Hid (∀ X, Below W.heap.size W X → Calls Try.prog 32 #[.slice a1 n1 c1] X fun e w' => ∃ a c, e = .returned (.slice a (mkL l).length c) ∧ IsCoins w' (.slice a (mkL l).length c) (mkL l) ∧ NewV X w' (.slice a (mkL l).length c) ∧ Below X.heap.size X w') := fun X hX => of6_gives X ((hcl.below (bt hB hX)).coins (by omega)) hwf
  have hmk := mkL_facts (l := l) (fun x hx => (hwf x hx).2)
  generalize mkL l = ml at *
  clear hcl hwf hlen
  go_enter Try.func8, Try.ntmps8
  go_upto_region 2 with fail
  obtain ⟨P1, hP1⟩ : ∃ P1 : World, Hid (P1 = W) := ⟨W, rfl⟩
  go_region
  all_goals go_wp2_with (go_at_call 32; refine (hO.out _ (by (repeat (first | (with_reducible exact Below.refl _ _) | (with_reducible assumption) | (with_reducible apply bd) | (with_reducible apply ba) | (with_reducible refine bp ?_ (by first | omega | (simp [pad_size]; done) | (simp [pad_size]; omega)) _ _) | (with_reducible refine bs ?_ (by first | omega | (simp [pad_size]; done) | (simp [pad_size]; omega)) _) | (with_reducible refine bt ?_ (by assumption)))))).mono ?_; rintro e w1 ⟨a, c, rfl, hI, hN, hb⟩; obtain ⟨m1, g1, d1, hm1, rfl⟩ := pad_of hb; replace hI : Hid (IsCoins _ (.slice a ml.length c) ml) := hI; replace hN : Hid (NewV _ _ (.slice a ml.length c)) := hN; clear hb; simp [pad_size] at hm1; have st1 := sz3 (n := W.heap.size) (m := m1) (by omega))
  all_goals refine bodyPost_ret (v := pnV ⟨2, 0, s, .slice a ml.length c, .slice none 0 0, ml, []⟩) (by simp only [results, Try.results8]; go_simp; rfl) rfl ⟨⟨2, 0, s, .slice a ml.length c, .slice none 0 0, ml, []⟩, rfl, ⟨IsCL.keep (IsCoins.cl hI.out) (fun g' hg => pad_high (by simp) (by have := (hN.out g' hg).1; simp at this ⊢; omega)) (by simp [pad_size]), .inl ⟨rfl, none, 0, rfl⟩⟩, ⟨⟨by simp, (by show 0 ≤ 0 ∧ 0 < 18446744073709551616; omega), (by show 0 ≤ s ∧ s < 18446744073709551616; omega), hmk.1⟩, by simp⟩, ?_, ⟨none, 0, 0, rfl, Nat.le_refl _⟩, by (repeat (first | (with_reducible exact Below.refl _ _) | (with_reducible assumption) | (with_reducible apply bd) | (with_reducible apply ba) | (with_reducible refine bp ?_ (by first | omega | (simp [pad_size]; done) | (simp [pad_size]; omega)) _ _) | (with_reducible refine bs ?_ (by first | omega | (simp [pad_size]; done) | (simp [pad_size]; omega)) _) | (with_reducible refine bt ?_ (by assumption))))⟩
  all_goals
    have h1 : someB ml = true := hmk.2.1
    have h2 : decide (s ≤ 1099511627776) = true := decide_eq_true (by omega)
    simp [rightB, rightN, givesB, h1]
    try omega
set_option maxRecDepth 20000 in
set_option maxHeartbeats 4000000 in
theorem plans_4 (h : MdIn w ⟨k, s, n, a1, n1, c1, a2, n2, c2, l, ps⟩) (hk : k % 6 = 4) (hf : n1 ≤ 20) (W : World) (hB : Below w.heap.size w W) :
    Calls Try.prog 8 #[.agg #[.int .u8 k, .int .u32 s, .int .u16 n, .slice a1 n1 c1, .slice a2 n2 c2]] W fun e w' => MadeOk W w' e := by
  have hpad := pads
  have hk0 := h.k
  have hs := h.s
  have hn := h.n
  have hcl := h.cl
  have hwf := h.wf
  have hlen := h.len
  simp only at hk0 hs hn hcl hwf hlen
  have hkm : k.tmod 6 = 4 := by rw [Int.tmod_eq_emod_of_nonneg hk0.1, hk]
  have hw1 : IntKind.u64.wrap s = s := by rw [IntKind.wrap_u64]; omega
  have hw2 : IntKind.u64.wrap n = n := by rw [IntKind.wrap_u64]; omega
  have hw3 : IntKind.u64.wrap (n + 1) = n + 1 := by rw [IntKind.wrap_u64]; omega
  have hw4 : IntKind.u64.wrap (s + (n + 1)) = s + (n + 1) := by rw [IntKind.wrap_u64]; omega
  clear h
  have hO : Hid (∀ X, Below W.heap.size W X → Calls Try.prog 32 #[.slice a1 n1 c1] X fun e w' => ∃ a c, e = .returned (.slice a (mkL l).length c) ∧ IsCoins w' (.slice a (mkL l).length c) (mkL l) ∧ NewV X w' (.slice a (mkL l).length c) ∧ Below X.heap.size X w') := fun X hX => of6_gives X ((hcl.below (bt hB hX)).coins (by omega)) hwf
  have hmk := mkL_facts (l := l) (fun x hx => (hwf x hx).2)
  generalize mkL l = ml at *
  clear hcl hwf hlen
  go_enter Try.func8, Try.ntmps8
  go_upto_region 2 with fail
  obtain ⟨P1, hP1⟩ : ∃ P1 : World, Hid (P1 = W) := ⟨W, rfl⟩
  go_region
  all_goals go_wp2_with (go_at_call 32; refine (hO.out _ (by (repeat (first | (with_reducible exact Below.refl _ _) | (with_reducible assumption) | (with_reducible apply bd) | (with_reducible apply ba) | (with_reducible refine bp ?_ (by first | omega | (simp [pad_size]; done) | (simp [pad_size]; omega)) _ _) | (with_reducible refine bs ?_ (by first | omega | (simp [pad_size]; done) | (simp [pad_size]; omega)) _) | (with_reducible refine bt ?_ (by assumption)))))).mono ?_; rintro e w1 ⟨a, c, rfl, hI, hN, hb⟩; obtain ⟨m1, g1, d1, hm1, rfl⟩ := pad_of hb; replace hI : Hid (IsCoins _ (.slice a ml.length c) ml) := hI; replace hN : Hid (NewV _ _ (.slice a ml.length c)) := hN; clear hb; simp [pad_size] at hm1; have st1 := sz3 (n := W.heap.size) (m := m1) (by omega))
  all_goals refine bodyPost_ret (v := pnV ⟨4, 0, 0, .slice a ml.length c, .slice none 0 0, ml, []⟩) (by simp only [results, Try.results8]; go_simp; rfl) rfl ⟨⟨4, 0, 0, .slice a ml.length c, .slice none 0 0, ml, []⟩, rfl, ⟨IsCL.keep (IsCoins.cl hI.out) (fun g' hg => pad_high (by simp) (by have := (hN.out g' hg).1; simp at this ⊢; omega)) (by simp [pad_size]), .inl ⟨rfl, none, 0, rfl⟩⟩, ⟨⟨by simp, (by show 0 ≤ 0 ∧ 0 < 18446744073709551616; omega), (by show 0 ≤ 0 ∧ 0 < 18446744073709551616; omega), hmk.1⟩, by simp⟩, ?_, ⟨none, 0, 0, rfl, Nat.le_refl _⟩, by (repeat (first | (with_reducible exact Below.refl _ _) | (with_reducible assumption) | (with_reducible apply bd) | (with_reducible apply ba) | (with_reducible refine bp ?_ (by first | omega | (simp [pad_size]; done) | (simp [pad_size]; omega)) _ _) | (with_reducible refine bs ?_ (by first | omega | (simp [pad_size]; done) | (simp [pad_size]; omega)) _) | (with_reducible refine bt ?_ (by assumption))))⟩
  all_goals
    have h1 : someB ml = true := hmk.2.1
    have h2 : decide (0 ≤ 1099511627776) = true := decide_eq_true (by omega)
    simp [rightB, rightN, givesB, h1]
    try omega
end
end Go.Proofs.Ytjhjgncnadhbhaa

/- jointurelaw06.plans of kinds with periods. -/
namespace Go.Proofs.Ytjhjgncnadhbhaa
open Go.ChangeShapes Go.WideShapes Go.ChangeAt Go.RowKit

/-- A period that was made. -/
structure PdM (q : Pd) : Prop where
  wf : PdWf q
  r : pdR q = true
  n : q.n ≤ 65536
  v : ∀ d : Nat, d < 8 → vl (amP q.l d) < 1809251394333065553493296640760748560207343510400633813116524750123642650624
theorem PdM.right {q : Pd} (h : PdM q) : rightFrom 0 q.l = true := by
  have := h.r; simp only [pdR, Bool.and_eq_true] at this; exact some_right this.2
theorem made_tot : ∀ {qs : List Pd} (_ : ∀ q ∈ qs, PdM q) {d : Nat} (_ : d < 8), 0 ≤ tot qs d ∧ tot qs d ≤ qs.length * 1809251394333065553493296640760748560207343510400633813116524750123642650624
  | [], _, _, _ => by simp [tot]
  | q :: qs, h, d, hd => by
    have h1 := made_tot (qs := qs) (fun x hx => h x (by simp [hx])) hd
    have h2 := (h q (by simp)).v d hd
    have h3 := vl_lo (amP_purse (h q (by simp)).wf.l) hd
    simp only [tot, List.length_cons]
    have e : ((qs.length + 1 : Nat) : Int) = (qs.length : Int) + 1 := by omega
    rw [e, Int.add_mul]
    omega
theorem made_fits {qs : List Pd} (h : ∀ q ∈ qs, PdM q) (hl : qs.length ≤ 17) : ∀ d, d < 8 → tot qs d < 115792089237316195423570985008687907853269984665640564039457584007913129639936 := fun d hd => by
  have h1 := made_tot h hd
  have h2 : (qs.length : Int) ≤ 17 := by omega
  omega
theorem made_len : ∀ {qs : List Pd} (_ : ∀ q ∈ qs, PdM q), 0 ≤ lenS qs ∧ lenS qs ≤ qs.length * 65536
  | [], _ => by simp [lenS]
  | q :: qs, h => by
    have h1 := made_len (qs := qs) (fun x hx => h x (by simp [hx]))
    have h2 := (h q (by simp)).n
    have h3 := (h q (by simp)).wf.n
    simp only [lenS, List.length_cons]
    omega
/-- Coins that are something have something of some denomination. -/
theorem some_pos {l : List Cn} (hwf : ∀ x ∈ l, CnWf x) (h : someB l = true) : ∃ d, d < 8 ∧ 0 < vl (amP l d) := by
  refine Classical.byContradiction fun hn => ?_
  have h0 : lst (amP l) 8 = [] := lst_nil (amP_purse hwf) fun d hd => by
    have h1 := (vl_lo (amP_purse hwf) hd).1
    have h2 : ¬ 0 < vl (amP l d) := fun e => hn ⟨d, hd, e⟩
    omega
  rw [amP_lst (some_right h)] at h0
  subst h0
  simp [someB] at h
theorem some_lst {z : Nat → Cn} (hz : Purse z) (h : ∃ d, d < 8 ∧ 0 < vl (z d)) : someB (lst z 8) = true := by
  have h1 := right_eq (lst_right hz 8 (Nat.le_refl _)) (lst_wf hz)
  unfold someB
  rw [h1]
  cases e : lst z 8 with
  | nil =>
    obtain ⟨d, hd, hp⟩ := h
    have := amt_full hz hd
    rw [e] at this
    rw [← this] at hp
    simp [amt, vl, val0] at hp
  | cons _ _ => rfl
theorem amP_list {z : Nat → Cn} (hz : Purse z) {d : Nat} (hd : d < 8) : vl (amP (lst z 8) d) = vl (z d) := by
  unfold amP; rw [amt_full hz hd]
/-- What the periods that were made come to is a plan that may be. -/
theorem made_right {k s e : Int} {av pv : Value} {qs : List Pd} (hk : k = 3 ∨ k = 5) (hq : ∀ q ∈ qs, PdM q) (h1 : 1 ≤ qs.length) (h2 : qs.length ≤ 16) (he : e = s + lenS qs) (hs : 0 ≤ s ∧ s ≤ 4294967295) : PnOk ⟨k, s, e, av, pv, lst (sumP qs) 8, qs⟩ ∧ rightB ⟨k, s, e, av, pv, lst (sumP qs) 8, qs⟩ = true := by
  have hf := made_fits hq (by omega)
  have hz := sumP_purse (fun q h => (hq q h).wf) hf
  have hl := made_len hq
  have hsm : someB (lst (sumP qs) 8) = true := by
    refine some_lst hz ?_
    match qs, h1 with
    | q :: qs, _ =>
      have hm := hq q (by simp)
      have := hm.r
      simp only [pdR, Bool.and_eq_true] at this
      obtain ⟨d, hd, hp⟩ := some_pos hm.wf.l this.2
      have ht := tot_lo (l := qs) (fun x hx => (hq x (by simp [hx])).wf) hd
      exact ⟨d, hd, by rw [sumP_vl]; simp only [tot]; omega⟩
  refine ⟨⟨⟨by show 0 ≤ k ∧ k ≤ 255; omega, by show 0 ≤ s ∧ s < _; omega, by show 0 ≤ e ∧ e < _; omega, lst_wf hz⟩, fun q h => (hq q h).wf⟩, ?_⟩
  have hg : givesB ⟨k, s, e, av, pv, lst (sumP qs) 8, qs⟩ = true := by
    unfold givesB
    rw [hsm, decide_eq_true (by omega : e ≤ 1099511627776)]; rfl
  have hst : stepsB ⟨k, s, e, av, pv, lst (sumP qs) 8, qs⟩ = true := steps_of ⟨h1, h2, fun q h => by
    have := (hq q h).r
    simp only [pdR, Bool.and_eq_true, decide_eq_true_eq] at this
    exact this, he.symm, fun d hd => by rw [amP_list hz hd, sumP_vl]⟩
  unfold rightB
  rw [if_pos (by exact hk), hg, hst]; rfl
theorem mk_pd {n : Int} {v : Value} {l : List Cn} (hn : 1 ≤ n ∧ n ≤ 65536) (hwf : ∀ x ∈ l, LimC x) : PdM ⟨n, v, mkL l⟩ := by
  obtain ⟨h1, h2, h3⟩ := mkL_facts hwf
  refine ⟨⟨by show 0 ≤ n ∧ n < _; omega, h1⟩, ?_, hn.2, h3⟩
  unfold pdR
  rw [h2, decide_eq_true hn.1]; rfl
end Go.Proofs.Ytjhjgncnadhbhaa

/- jointurelaw06.plans of kinds with periods: the state in its loop. -/
namespace Go.Proofs.Ytjhjgncnadhbhaa
open Go.ChangeShapes Go.WideShapes Go.ChangeAt Go.RowKit

theorem IsCoins.keepC {W W' : World} {v : Value} {l : List Cn} (h : IsCoins W v l) (e : ∀ g, v.ownBlock = some g → W'.heap[g]? = W.heap[g]?) (hs : W.heap.size ≤ W'.heap.size) : IsCoins W' v l := by
  rcases h with h | ⟨blk, off, cap, hv, hne, hlen, hlt, hall⟩
  · exact .inl h
  · exact ((IsCL.keep (.inr ⟨blk, off, cap, hv, hne, by omega, hlt, hall⟩) e hs : IsCL W' v l)).coins hlen
/-- What lies where in the loop: what the plan is made of, the answer's place, the plan, its periods. -/
structure PSt (W X : World) (md : Array Value) (K s e : Int) (aa : Option Addr) (na ca : Nat) (ap : Option Addr) (cp : Nat) (qs : List Pd) (L : List Cn) : Prop where
  m : X.heap[W.heap.size]? = some (.cells md 27 (0, 0))
  r : X.heap[W.heap.size + 1]? = some (.cells #[.int .u8 0, .int .u64 0, .int .u64 0, .slice none 0 0, .slice none 0 0] 33 (0, 0))
  p : X.heap[W.heap.size + 1 + 1]? = some (.cells #[.int .u8 K, .int .u64 s, .int .u64 e, .slice aa na ca, .slice ap qs.length cp] 33 (0, 0))
  q : QsAt X (W.heap.size + 1 + 1 + 1) (W.heap.size + 1 + 1) (.slice ap qs.length cp) qs
  a : IsCoins X (.slice aa na ca) L
  ab : ∀ g, (Value.slice aa na ca).ownBlock = some g → g < X.heap.size ∧ (Value.slice ap qs.length cp).ownBlock ≠ some g ∧ W.heap.size + 1 + 1 < g
  b : Below W.heap.size W X
  sz : W.heap.size + 1 + 1 < X.heap.size
section
variable {W X X' : World} {md : Array Value} {K s e : Int} {aa ap : Option Addr} {na ca cp : Nat} {qs : List Pd} {L : List Cn}
theorem PSt.below (h : PSt W X md K s e aa na ca ap cp qs L) (hb : Below X.heap.size X X') : PSt W X' md K s e aa na ca ap cp qs L :=
  ⟨(hb.block _ (by have := h.sz; omega)).trans h.m, (hb.block _ (by have := h.sz; omega)).trans h.r, (hb.block _ h.sz).trans h.p, h.q.below hb, h.a.below hb, fun g hg => ⟨Nat.lt_of_lt_of_le (h.ab g hg).1 hb.size, (h.ab g hg).2⟩, bt h.b hb, Nat.lt_of_lt_of_le h.sz hb.size⟩
theorem set_sz (X : World) (b o : Nat) (v : Value) : (X.setCell ⟨b, o, none⟩ v).heap.size = X.heap.size := by simp [World.setCell]
theorem set_blk {X : World} {b o j : Nat} {v : Value} (h : j ≠ b) : (X.setCell ⟨b, o, none⟩ v).heap[j]? = X.heap[j]? := by
  have : ¬ b = j := fun e => h e.symm
  simp [World.setCell, Array.getElem?_modify, this]
theorem PSt.setE (h : PSt W X md K s e aa na ca ap cp qs L) (e' : Int) : PSt W (X.setCell ⟨W.heap.size + 1 + 1, 2, none⟩ (.int .u64 e')) md K s e' aa na ca ap cp qs L := by
  have hg := grown_se (grown_ref X (some (W.heap.size + 1 + 1))) 2 (.int .u64 e')
  refine ⟨(set_blk (by omega)).trans h.m, (set_blk (by omega)).trans h.r, by rw [block_set _ h.p]; rfl, h.q.kept (Nat.le_refl _) h.q.nb hg, h.a.keepC (fun g hv => set_blk (by have := (h.ab g hv).2.2; omega)) (by rw [set_sz]; exact Nat.le_refl _), fun g hv => ?_, bs h.b (by show W.heap.size ≤ W.heap.size + 1 + 1; omega) _, by rw [set_sz]; exact h.sz⟩
  rw [set_sz]; exact h.ab g hv
theorem PSt.setA (h : PSt W X md K s e aa na ca ap cp qs L) {a' : Option Addr} {n' c' : Nat} {L' : List Cn} (hI : IsCoins X (.slice a' n' c') L') (hab : ∀ g, (Value.slice a' n' c').ownBlock = some g → g < X.heap.size ∧ (Value.slice ap qs.length cp).ownBlock ≠ some g ∧ W.heap.size + 1 + 1 < g) : PSt W (X.setCell ⟨W.heap.size + 1 + 1, 3, none⟩ (.slice a' n' c')) md K s e a' n' c' ap cp qs L' := by
  have hg := grown_se (grown_ref X (some (W.heap.size + 1 + 1))) 3 (.slice a' n' c')
  refine ⟨(set_blk (by omega)).trans h.m, (set_blk (by omega)).trans h.r, by rw [block_set _ h.p]; rfl, h.q.kept (Nat.le_refl _) h.q.nb hg, hI.keepC (fun g hv => set_blk (by have := (hab g hv).2.2; omega)) (by rw [set_sz]; exact Nat.le_refl _), fun g hv => ?_, bs h.b (by show W.heap.size ≤ W.heap.size + 1 + 1; omega) _, by rw [set_sz]; exact h.sz⟩
  rw [set_sz]; exact hab g hv
theorem PSt.notRow (h : PSt W X md K s e aa na ca ap cp qs L) {j : Nat} (hj : j ≤ W.heap.size + 1 + 1) : (Value.slice ap qs.length cp).ownBlock ≠ some j := fun e => by
  have := (h.q.row.lt j e).1; omega
/-- The row of periods has grown, and is laid into the plan anew. -/
theorem PSt.grow (h : PSt W X md K s e aa na ca ap cp qs L) {Y : World} {ap' : Option Addr} {cp' : Nat} {qs' : List Pd} (hQ : QsAt Y (W.heap.size + 1 + 1 + 1) (W.heap.size + 1 + 1) (.slice ap' qs'.length cp') qs')
    (hk : ∀ j, j < X.heap.size → (Value.slice ap qs.length cp).ownBlock ≠ some j → Y.heap[j]? = X.heap[j]?) (hs : X.heap.size ≤ Y.heap.size) (hb : Below W.heap.size W Y) (hn : ∀ j, j < X.heap.size → (Value.slice ap qs.length cp).ownBlock ≠ some j → (Value.slice ap' qs'.length cp').ownBlock ≠ some j) :
    PSt W (Y.setCell ⟨W.heap.size + 1 + 1, 4, none⟩ (.slice ap' qs'.length cp')) md K s e aa na ca ap' cp' qs' L := by
  have hz := h.sz
  have hp : Y.heap[W.heap.size + 1 + 1]? = _ := (hk _ h.sz (h.notRow (Nat.le_refl _))).trans h.p
  have hg := grown_se (grown_ref Y (some (W.heap.size + 1 + 1))) 4 (.slice ap' qs'.length cp')
  refine ⟨(set_blk (by omega)).trans ((hk _ (by omega) (h.notRow (by omega))).trans h.m), (set_blk (by omega)).trans ((hk _ (by omega) (h.notRow (by omega))).trans h.r), by rw [block_set _ hp]; rfl, hQ.kept (Nat.le_refl _) hQ.nb hg, h.a.keepC (fun g hv => (set_blk (by have := (h.ab g hv).2.2; omega)).trans (hk g (h.ab g hv).1 (h.ab g hv).2.1)) (by rw [set_sz]; exact hs), fun g hv => ?_, bs hb (by show W.heap.size ≤ W.heap.size + 1 + 1; omega) _, by rw [set_sz]; omega⟩
  rw [set_sz]
  exact ⟨Nat.lt_of_lt_of_le (h.ab g hv).1 hs, hn g (h.ab g hv).1 (h.ab g hv).2.1, (h.ab g hv).2.2⟩
theorem PSt.done (h : PSt W X md K s e aa na ca ap cp qs L) (hl : qs.length ≤ 1048576) (hg : X.grownBy X' (some (W.heap.size + 1))) : PnAt X' ⟨K, s, e, .slice aa na ca, .slice ap qs.length cp, L, qs⟩ :=
  ⟨(h.a.keepC (fun g hv => hg.block g (h.ab g hv).1 (by have := (h.ab g hv).2.2; simp; omega)) hg.size).cl, (h.q.kept (Nat.le_succ _) (h.notRow (by omega)) hg).pds hl⟩
theorem PSt.froz (h : PSt W X md K s e aa na ca ap cp qs L) : (∀ o, X.frozen? ⟨W.heap.size + 1 + 1, o, none⟩ = false) ∧ (∀ o, X.frozen? ⟨W.heap.size + 1, o, none⟩ = false) := ⟨fun o => (cells_of_block h.p).2 o, fun o => (cells_of_block h.r).2 o⟩
theorem PSt.cells (h : PSt W X md K s e aa na ca ap cp qs L) : (∀ o, X.cell? ⟨W.heap.size, o, none⟩ = md[o]?) ∧ (∀ o, X.cell? ⟨W.heap.size + 1, o, none⟩ = (#[.int .u8 0, .int .u64 0, .int .u64 0, .slice none 0 0, .slice none 0 0] : Array Value)[o]?) ∧ (∀ o, X.cell? ⟨W.heap.size + 1 + 1, o, none⟩ = (#[.int .u8 K, .int .u64 s, .int .u64 e, .slice aa na ca, .slice ap qs.length cp] : Array Value)[o]?) :=
  ⟨(cells_of_block h.m).1, (cells_of_block h.r).1, (cells_of_block h.p).1⟩
end
end Go.Proofs.Ytjhjgncnadhbhaa

/- r02.Add of what periods have and one more. -/
namespace Go.Proofs.Ytjhjgncnadhbhaa
open Go.ChangeShapes Go.WideShapes Go.ChangeAt Go.RowKit

theorem addRC_gives {va vb : Value} {qs : List Pd} {q : Pd} (hz : Purse (sumP qs)) (hm : PdM q) (hf : ∀ d, d < 8 → tot qs d + vl (amP q.l d) < 115792089237316195423570985008687907853269984665640564039457584007913129639936) (X : World) (hA : IsCoins X va (lst (sumP qs) 8)) (hB : IsCoins X vb (lst (amP q.l) 8)) :
    Calls Try.prog 33 #[va, vb] X fun e w' => ∃ a n c, e = .returned (.tuple #[.slice a n c, .bool true]) ∧ IsCoins w' (.slice a n c) (lst (sumP (qs ++ [q])) 8) ∧ NewV X w' (.slice a n c) ∧ Below X.heap.size X w' := by
  refine (addRC_new hz (amP_purse hm.wf.l) X hA hB).mono ?_
  rintro e w' (⟨-, u, rfl, h1, h2, h3⟩ | ⟨⟨d, hd, h1⟩, -⟩)
  · rw [sumP_snoc] at h1
    obtain ⟨a, c, rfl⟩ := h1.sl
    exact ⟨a, _, c, rfl, h1, h2, h3⟩
  · have := hf d hd
    rw [sumP_vl] at h1
    omega
end Go.Proofs.Ytjhjgncnadhbhaa

/- jointurelaw06.plans of kinds with periods: the walk. -/
namespace Go.Proofs.Ytjhjgncnadhbhaa
open Go.ChangeShapes Go.WideShapes Go.ChangeAt Go.RowKit
section
variable {w : World} {k s n : Int} {a1 a2 : Option Addr} {n1 c1 n2 c2 : Nat} {l : List Cn} {ps : List Pa}
set_option maxRecDepth 20000 in
set_option maxHeartbeats 16000000 in
theorem plans_3 (h : MdIn w ⟨k, s, n, a1, n1, c1, a2, n2, c2, l, ps⟩) (hk : k % 6 = 3) (hfm : fewM ⟨k, s, n, a1, n1, c1, a2, n2, c2, l, ps⟩ = true) (W : World) (hB : Below w.heap.size w W) :
    Calls Try.prog 8 #[.agg #[.int .u8 k, .int .u32 s, .int .u16 n, .slice a1 n1 c1, .slice a2 n2 c2]] W fun e w' => MadeOk W w' e := by
  have hpad := pads
  have hk0 := h.k
  have hs := h.s
  have hn := h.n
  have hnum : Hid _ := h.num
  have hpc : Hid (∀ X, Below w.heap.size w X → ∀ i (hi : i < ps.length), ∃ blk off, a2 = some ⟨blk, off, none⟩ ∧ blk < w.heap.size ∧ X.cell? ⟨blk, off + i * 2, none⟩ = some (.int .u16 ps[i].n) ∧ X.cell? ⟨blk, off + i * 2 + 1, none⟩ = some (.slice ps[i].a ps[i].m ps[i].cap)) := fun X hX i hi => pc_at h hX hi
  have hfm1 : n2 ≤ 20 ∧ ∀ q ∈ ps, q.m ≤ 20 := by
    simp only [fewM, Bool.and_eq_true, decide_eq_true_eq, List.all_eq_true] at hfm
    exact ⟨hfm.1.2, hfm.2⟩
  have hok : Hid (∀ i (hi : i < ps.length), (0 ≤ ps[i].n ∧ ps[i].n ≤ 65535) ∧ (∀ x ∈ ps[i].l, LimC x)) := fun i hi => ⟨(h.ok _ (List.getElem_mem hi)).n, fun x hx => ((h.ok _ (List.getElem_mem hi)).wf x hx).2⟩
  have hO : Hid (∀ X, Below w.heap.size w X → ∀ i (hi : i < ps.length), Calls Try.prog 32 #[.slice ps[i].a ps[i].m ps[i].cap] X fun e w' => ∃ a c, e = .returned (.slice a (mkL ps[i].l).length c) ∧ IsCoins w' (.slice a (mkL ps[i].l).length c) (mkL ps[i].l) ∧ NewV X w' (.slice a (mkL ps[i].l).length c) ∧ Below X.heap.size X w') := fun X hX i hi => of6_gives X (((h.ok _ (List.getElem_mem hi)).cl.below hX).coins (by have h1 := (h.ok _ (List.getElem_mem hi)).len; have h2 := hfm1.2 _ (List.getElem_mem hi); omega)) (h.ok _ (List.getElem_mem hi)).wf
  have hO0 : Hid (∀ X, Calls Try.prog 32 #[.slice none 0 0] X fun e w' => ∃ a c, e = .returned (.slice a (mkL []).length c) ∧ IsCoins w' (.slice a (mkL []).length c) (mkL []) ∧ NewV X w' (.slice a (mkL []).length c) ∧ Below X.heap.size X w') := fun X => of6_gives X (.inl ⟨rfl, _, _, rfl⟩) (by simp)
  have hmk0 : Hid (∀ v, PdM ⟨n + 1, v, mkL []⟩) := fun v => mk_pd (by simp only at hn; omega) (by simp)
  generalize mkL [] = L0 at hO0 hmk0
  simp only at hk0 hs hn hnum
  have hn20 := hfm1.1
  have hkm : k.tmod 6 = 3 := by rw [Int.tmod_eq_emod_of_nonneg hk0.1, hk]
  have hw1 : IntKind.u64.wrap s = s := by rw [IntKind.wrap_u64]; omega
  have hw2 : IntKind.u64.wrap n = n := by rw [IntKind.wrap_u64]; omega
  have hw3 : IntKind.u64.wrap (n + 1) = n + 1 := by rw [IntKind.wrap_u64]; omega
  clear h hfm hfm1
  go_enter Try.func8, Try.ntmps8
  go_upto_region 2 with fail
  go_cut [4, 5] from 12 to 18 (fun s4 s5 wx => s4 = .int .u64 s ∧ s5 = .int .u64 (n + 1) ∧ wx.heap[W.heap.size]? = some (.cells #[.int .u8 k, .int .u32 s, .int .u16 n, .slice a1 n1 c1, .slice a2 n2 c2] 27 (0, 0)) ∧ wx.heap[W.heap.size + 1]? = some (.cells #[.int .u8 0, .int .u64 0, .int .u64 0, .slice none 0 0, .slice none 0 0] 33 (0, 0)) ∧ wx.heap[W.heap.size + 1 + 1]? = some (.cells #[.int .u8 3, .int .u64 0, .int .u64 0, .slice none 0 0, .slice none 0 0] 33 (0, 0)) ∧ W.heap.size + 1 + 1 < wx.heap.size ∧ Below W.heap.size W wx)
  case first =>
    go_region
    all_goals (go_wp2_with fail; go_meet)
    all_goals exact ⟨rfl, rfl, by (repeat (first | (with_reducible exact al_at (by simp [pad_size])) | (with_reducible refine Eq.trans (dr_blk _ _) ?_) | (with_reducible refine Eq.trans (al_old (by first | omega | (simp [pad_size]; done) | (simp [pad_size]; omega))) ?_) | (with_reducible refine Eq.trans (pad_block (by first | omega | (simp [pad_size]; done) | (simp [pad_size]; omega)) (by first | omega | (simp [pad_size]; done) | (simp [pad_size]; omega))) ?_) | (with_reducible assumption))), by (repeat (first | (with_reducible exact al_at (by simp [pad_size])) | (with_reducible refine Eq.trans (dr_blk _ _) ?_) | (with_reducible refine Eq.trans (al_old (by first | omega | (simp [pad_size]; done) | (simp [pad_size]; omega))) ?_) | (with_reducible refine Eq.trans (pad_block (by first | omega | (simp [pad_size]; done) | (simp [pad_size]; omega)) (by first | omega | (simp [pad_size]; done) | (simp [pad_size]; omega))) ?_) | (with_reducible assumption))), by (repeat (first | (with_reducible exact al_at (by simp [pad_size])) | (with_reducible refine Eq.trans (dr_blk _ _) ?_) | (with_reducible refine Eq.trans (al_old (by first | omega | (simp [pad_size]; done) | (simp [pad_size]; omega))) ?_) | (with_reducible refine Eq.trans (pad_block (by first | omega | (simp [pad_size]; done) | (simp [pad_size]; omega)) (by first | omega | (simp [pad_size]; done) | (simp [pad_size]; omega))) ?_) | (with_reducible assumption))), by simp, by (repeat (first | (with_reducible exact Below.refl _ _) | (with_reducible assumption) | (with_reducible apply bd) | (with_reducible apply ba) | (with_reducible refine bp ?_ (by first | omega | (simp [pad_size]; done) | (simp [pad_size]; omega)) _ _) | (with_reducible refine bs ?_ (by first | omega | (simp [pad_size]; done) | (simp [pad_size]; omega)) _) | (with_reducible refine bt ?_ (by assumption))))⟩
  case rest =>
    obtain ⟨rfl, rfl, hm0, hr0, hp0, hz0, hb0⟩ := hcut
    obtain ⟨cp0, fp0⟩ := cells_of_block hp0
    go_wp2
    go_loopw [6] (fun iv X => ∃ (i : Nat) (qs : List Pd) (e : Int) (aa : Option Addr) (na ca : Nat) (ap : Option Addr) (cp : Nat), i ≤ 16 ∧ (i ≤ n2 ∨ i ≤ 1) ∧ iv = .int .i64 (i : Int) ∧ qs.length = i ∧ Hid (e = s + lenS qs) ∧ (0 ≤ e ∧ e ≤ 4296081407) ∧ Hid (∀ q ∈ qs, PdM q) ∧ Hid (PSt W X #[.int .u8 k, .int .u32 s, .int .u16 n, .slice a1 n1 c1, .slice a2 n2 c2] 3 s e aa na ca ap cp qs (lst (sumP qs) 8))) (fun iv _ => 17 - (intOf iv).toNat)
    case atStart =>
      refine ⟨0, [], s, none, 0, 0, none, 0, by omega, by omega, rfl, rfl, by unfold Hid; simp [lenS], by omega, by unfold Hid; simp, ?_⟩
      exact ⟨(set_blk (by omega)).trans ((set_blk (by omega)).trans hm0), (set_blk (by omega)).trans ((set_blk (by omega)).trans hr0), by rw [block_set _ (block_set _ hp0)]; rfl, QsAt.nil _ _ _, by rw [sumP_nil]; exact .inl ⟨rfl, none, 0, rfl⟩, by simp [Value.ownBlock], bs (bs hb0 (by show W.heap.size ≤ W.heap.size + 1 + 1; omega) _) (by show W.heap.size ≤ W.heap.size + 1 + 1; omega) _, by rw [set_sz, set_sz]; exact hz0⟩
    case round =>
      clear hm0 hr0 hp0 hz0 hb0 cp0 fp0
      obtain ⟨i, qs, e, aa, na, ca, ap, cp, hi16, hin, rfl, hql, hee, he, hq, hP⟩ := hrel
      have hqh : Hid (qs.length = i) := hql
      have hl16 : qs.length ≤ 16 := by omega
      have hl1 : 1 ≤ i → 1 ≤ qs.length := fun _ => by omega
      clear hql
      obtain ⟨cM, cR, cP⟩ := hP.out.cells
      obtain ⟨fP, fR⟩ := hP.out.froz
      have hgo : (i < 16 ∧ i < n2) ∨ (i = 0 ∧ n2 = 0) ∨ (1 ≤ i ∧ (n2 ≤ i ∨ i = 16)) := by omega
      by_cases hx : 1 ≤ i ∧ (n2 ≤ i ∨ i = 16)
      · obtain ⟨hx1, hx2⟩ := hx
        have hne : ((i : Int) == 0) = false := beq_eq_false_iff_ne.2 (by omega)
        have hne2 : ¬ (i : Int) = 0 := by omega
        have hmade := made_right (av := .slice aa na ca) (pv := .slice ap qs.length cp) (k := 3) (by omega) hq.out (hl1 hx1) hl16 hee.out hs
        have hlq : qs.length ≤ 1048576 := by omega
        have hXb := hP.out.b
        clear hpc hok hO hO0 hgo
        by_cases hni : n2 ≤ i
        · have hni' : ¬ (i : Int) < (n2 : Int) := by omega
          go_wp2
          refine bodyPost_ret (v := pnV ⟨3, s, e, .slice aa na ca, .slice ap qs.length cp, lst (sumP qs) 8, qs⟩) (by simp only [results, Try.results8]; go_simp; rfl) rfl ⟨_, rfl, hP.out.done hlq (by repeat (first | exact grown_ref _ _ | refine grown_se ?_ _ _ | refine grown_dr ?_)), hmade.1, hmade.2, hP.out.q.cap, by (repeat (first | (with_reducible exact Below.refl _ _) | (with_reducible assumption) | (with_reducible apply bd) | (with_reducible apply ba) | (with_reducible refine bp ?_ (by first | omega | (simp [pad_size]; done) | (simp [pad_size]; omega)) _ _) | (with_reducible refine bs ?_ (by first | omega | (simp [pad_size]; done) | (simp [pad_size]; omega)) _) | (with_reducible refine bt ?_ (by assumption))))⟩
        · have hni' : (i : Int) < (n2 : Int) := by omega
          have h16 : ¬ (i : Int) < 16 := by omega
          go_wp2
          refine bodyPost_ret (v := pnV ⟨3, s, e, .slice aa na ca, .slice ap qs.length cp, lst (sumP qs) 8, qs⟩) (by simp only [results, Try.results8]; go_simp; rfl) rfl ⟨_, rfl, hP.out.done hlq (by repeat (first | exact grown_ref _ _ | refine grown_se ?_ _ _ | refine grown_dr ?_)), hmade.1, hmade.2, hP.out.q.cap, by (repeat (first | (with_reducible exact Below.refl _ _) | (with_reducible assumption) | (with_reducible apply bd) | (with_reducible apply ba) | (with_reducible refine bp ?_ (by first | omega | (simp [pad_size]; done) | (simp [pad_size]; omega)) _ _) | (with_reducible refine bs ?_ (by first | omega | (simp [pad_size]; done) | (simp [pad_size]; omega)) _) | (with_reducible refine bt ?_ (by assumption))))⟩
      · have hAB : (i < 16 ∧ i < n2) ∨ (i = 0 ∧ n2 = 0) := by omega
        clear hgo hx
        rcases hAB with ⟨h16, hi2⟩ | ⟨rfl, rfl⟩
        · have h16' : (i : Int) < 16 := by omega
          have hi2' : (i : Int) < (n2 : Int) := by omega
          go_upto_region 16 with fail
          go_cut [7] from 58 to 60 (fun s7 wx => ∃ (Bx : Nat) (a : Option Addr) (c : Nat), s7 = .pointer (some ⟨Bx, 0, none⟩) ∧ wx.heap[Bx]? = some (.cells #[.int .u64 (n + 1), .slice a L0.length c] 71 (0, 0)) ∧ Hid (IsCoins wx (.slice a L0.length c) L0) ∧ Hid (∀ g, (Value.slice a L0.length c).ownBlock = some g → wr.heap.size ≤ g ∧ g < Bx) ∧ wr.heap.size ≤ Bx ∧ Bx < wx.heap.size ∧ Below wr.heap.size wr wx)
          case first =>
            go_wp2_with (go_at_call 32; refine (hO0.out _).mono ?_; rintro e w1 ⟨a, c, rfl, hI, hN, hb⟩; replace hI : Hid (IsCoins w1 (.slice a L0.length c) L0) := hI; replace hN : Hid (NewV wr w1 (.slice a L0.length c)) := hN)
            go_meet
            exact ⟨_, a, c, rfl, by (repeat (first | (with_reducible exact al_at (by simp [pad_size])) | (with_reducible refine Eq.trans (dr_blk _ _) ?_) | (with_reducible refine Eq.trans (al_old (by first | omega | (simp [pad_size]; done) | (simp [pad_size]; omega))) ?_) | (with_reducible refine Eq.trans (pad_block (by first | omega | (simp [pad_size]; done) | (simp [pad_size]; omega)) (by first | omega | (simp [pad_size]; done) | (simp [pad_size]; omega))) ?_) | (with_reducible assumption))), IsCoins.below hI.out (ba (Below.refl _ _) _), fun g hg => hN.out g hg, hb.size, by simp, ba hb _⟩
          case rest =>
            obtain ⟨Bx, av, cv, rfl, hBx, hIv, hNv, hBl, hBz, hb1⟩ := hcut
            have hP1 : Hid _ := PSt.below hP.out hb1
            obtain ⟨cM1, cR1, cP1⟩ := hP1.out.cells
            have hip : i < ps.length := by have := hnum.out; omega
            obtain ⟨pblk, poff, rfl, hpl, p0, p1⟩ := hpc.out wc (bt hB (bt hP.out.b hb1)) i hip
            obtain ⟨⟨hq0, hq1⟩, hql'⟩ := hok.out i hip
            have hOi : Hid (∀ X, Below wr.heap.size wr X → _) := fun X hX => hO.out X (bt hB (bt hP.out.b hX)) i hip
            have hw5 : IntKind.u64.wrap ps[i].n = ps[i].n := by rw [IntKind.wrap_u64]; omega
            have hw6 : IntKind.u64.wrap (ps[i].n + 1) = ps[i].n + 1 := by rw [IntKind.wrap_u64]; omega
            have hpm : Hid (∀ v, PdM ⟨ps[i].n + 1, v, mkL ps[i].l⟩) := fun v => mk_pd (by omega) hql'
            have hWz := hP.out.sz
            have hpw : pblk < wr.heap.size := Nat.lt_of_lt_of_le hpl (Nat.le_trans hB.size hP.out.b.size)
            have hkp : Hid (∀ X, Below wr.heap.size wr X → X.cell? ⟨W.heap.size, 4, none⟩ = some (.slice (some ⟨pblk, poff, none⟩) n2 c2) ∧ X.cell? ⟨pblk, poff + i * 2, none⟩ = some (.int .u16 ps[i].n) ∧ X.cell? ⟨pblk, poff + i * 2 + 1, none⟩ = some (.slice ps[i].a ps[i].m ps[i].cap)) := fun X hX =>
              ⟨((PSt.below hP.out hX).cells.1 4), ((hpc.out X (bt hB (bt hP.out.b hX)) i hip).elim fun b h => h.elim fun o h => by obtain ⟨e1, _, e2, _⟩ := h; simp at e1; obtain ⟨rfl, rfl⟩ := e1; exact e2), ((hpc.out X (bt hB (bt hP.out.b hX)) i hip).elim fun b h => h.elim fun o h => by obtain ⟨e1, _, _, e2⟩ := h; simp at e1; obtain ⟨rfl, rfl⟩ := e1; exact e2)⟩
            obtain ⟨cBx, fBx⟩ := cells_of_block hBx
            clear hpc hok hO hql'
            generalize mkL ps[i].l = ml at *
            generalize ps[i] = pc at *
            go_upto_region 18 with fail
            go_cut [7] from 66 to 81 (fun s7 wx => ∃ (m' : Int) (a' : Option Addr) (c' : Nat) (l' : List Cn), s7 = .pointer (some ⟨Bx, 0, none⟩) ∧ wx.heap[Bx]? = some (.cells #[.int .u64 m', .slice a' l'.length c'] 71 (0, 0)) ∧ Hid (IsCoins wx (.slice a' l'.length c') l') ∧ Hid (PdM ⟨m', .slice a' l'.length c', l'⟩) ∧ Hid (∀ g, (Value.slice a' l'.length c').ownBlock = some g → wr.heap.size ≤ g ∧ g < wx.heap.size ∧ g ≠ Bx) ∧ Bx < wx.heap.size ∧ Below wr.heap.size wr wx)
            case first =>
              go_region_held2 (fun X => X.cell? ⟨W.heap.size, 4, none⟩ = some (.slice (some ⟨pblk, poff, none⟩) n2 c2) ∧ X.cell? ⟨pblk, poff + i * 2, none⟩ = some (.int .u16 pc.n) ∧ X.cell? ⟨pblk, poff + i * 2 + 1, none⟩ = some (.slice pc.a pc.m pc.cap)) (exact hkp.out _ (by (repeat (first | (with_reducible exact Below.refl _ _) | (with_reducible assumption) | (with_reducible apply bd) | (with_reducible apply ba) | (with_reducible refine bp ?_ (by first | omega | (simp [pad_size]; done) | (simp [pad_size]; omega)) _ _) | (with_reducible refine bs ?_ (by first | omega | (simp [pad_size]; done) | (simp [pad_size]; omega)) _) | (with_reducible refine bt ?_ (by assumption)))))) (first | (go_at_call 32; refine (hOi.out _ (by (repeat (first | (with_reducible exact Below.refl _ _) | (with_reducible assumption) | (with_reducible apply bd) | (with_reducible apply ba) | (with_reducible refine bp ?_ (by first | omega | (simp [pad_size]; done) | (simp [pad_size]; omega)) _ _) | (with_reducible refine bs ?_ (by first | omega | (simp [pad_size]; done) | (simp [pad_size]; omega)) _) | (with_reducible refine bt ?_ (by assumption)))))).mono ?_; rintro e w1 ⟨a, c, rfl, hI, hN, hb⟩; obtain ⟨m1, g1, d1, hm1, rfl⟩ := pad_of hb; replace hI : Hid (IsCoins _ (.slice a ml.length c) ml) := hI; replace hN : Hid (NewV _ _ (.slice a ml.length c)) := hN; clear hb; simp [pad_size] at hm1; have hBm : Bx < m1 := by omega))
              all_goals (go_wp2_with fail; go_meet)
              all_goals
                have hNg : Hid (∀ g, (Value.slice a ml.length c).ownBlock = some g → wc.heap.size ≤ g ∧ g < m1) := fun g hg => by
                  have := hN.out g hg
                  simp [pad_size] at this
                  omega
                have hwm : wr.heap.size ≤ wc.heap.size := hb1.size
                exact ⟨pc.n + 1, a, c, ml, rfl, (pad_block (by rw [set_sz, set_sz]; exact hBz) hBm).trans (by rw [block_set _ (block_set _ hBx)]; rfl), IsCoins.keepC hI.out (fun g hg => pad_high (by simp [set_sz]) (by rw [set_sz, set_sz]; exact (hNg.out g hg).1)) (by simp [pad_size]), hpm.out _, fun g hg => by have := hNg.out g hg; simp only [pad_size]; omega, by simp only [pad_size]; exact hBm, by (repeat (first | (with_reducible exact Below.refl _ _) | (with_reducible assumption) | (with_reducible apply bd) | (with_reducible apply ba) | (with_reducible refine bp ?_ (by first | omega | (simp [pad_size]; done) | (simp [pad_size]; omega)) _ _) | (with_reducible refine bs ?_ (by first | omega | (simp [pad_size]; done) | (simp [pad_size]; omega)) _) | (with_reducible refine bt ?_ (by assumption))))⟩
            case rest =>
              obtain ⟨m', a', c', l', rfl, hBx2, hI2, hM2, hN2, hBs, hb2⟩ := hcut
              clear hBx hIv hNv hb1 hP1 cM1 cR1 cP1
              have hP2 : Hid (PSt W wc #[.int .u8 k, .int .u32 s, .int .u16 n, .slice a1 n1 c1, .slice (some ⟨pblk, poff, none⟩) n2 c2] 3 s e aa na ca ap cp qs (lst (sumP qs) 8)) := PSt.below hP.out hb2
              have hPz := hP.out.sz
              have hPr : Hid (∀ g, (Value.slice ap qs.length cp).ownBlock = some g → g < wr.heap.size) := fun g hg => (hP.out.q.row.lt g hg).2
              obtain ⟨cM2, cR2, cP2⟩ := hP2.out.cells
              obtain ⟨cB, fB⟩ := cells_of_block hBx2
              go_upto_region 19 with fail
              have hBr : (Value.slice ap qs.length cp).ownBlock ≠ some Bx := fun e => by have := hPr.out Bx e; omega
              have hOwn : Hid (∀ g, (Value.slice a' l'.length c').ownBlock = some g → g < wc.heap.size + 1 ∧ (Value.slice ap qs.length cp).ownBlock ≠ some g ∧ W.heap.size + 1 + 1 < g) := fun g hg => by
                have h1 := hN2.out g hg
                exact ⟨by omega, fun e => by have := hPr.out g e; omega, by omega⟩
              have hwz := hP2.out.sz
              go_cut [7] from 82 to 87 (fun s7 wx => ∃ (ap' : Option Addr) (cp' : Nat) (qs' : List Pd), s7 = .pointer (some ⟨Bx, 0, none⟩) ∧ Hid (qs' = qs ++ [⟨m', .slice a' l'.length c', l'⟩]) ∧ Hid (PSt W wx #[.int .u8 k, .int .u32 s, .int .u16 n, .slice a1 n1 c1, .slice (some ⟨pblk, poff, none⟩) n2 c2] 3 s e aa na ca ap' cp' qs' (lst (sumP qs) 8)) ∧ wx.heap[Bx]? = some (.cells #[.int .u64 m', .slice a' l'.length c'] 71 (0, 0)) ∧ Bx < wx.heap.size)
              case first =>
                go_wp2_with (at_builtin; go_loud (refine per_app (W := W) (lo := W.heap.size + 1 + 1 + 1) (bp := W.heap.size + 1 + 1) (hP2.out.q.below (ba (Below.refl _ _) _)) (by simp; omega) (by simp; omega) (bt hP2.out.b (ba (Below.refl _ _) _)) (by omega) (by omega) ⟨m', .slice a' l'.length c', l'⟩ rfl (IsCL.below (IsCoins.cl hI2.out) (ba (Below.refl _ _) _)) (fun g hg => ⟨by have := (hOwn.out g hg).1; simp; omega, (hOwn.out g hg).2⟩) rfl _ _ rfl rfl rfl (by (repeat (first | (with_reducible exact al_at (by simp [pad_size])) | (with_reducible refine Eq.trans (dr_blk _ _) ?_) | (with_reducible refine Eq.trans (al_old (by first | omega | (simp [pad_size]; done) | (simp [pad_size]; omega))) ?_) | (with_reducible refine Eq.trans (pad_block (by first | omega | (simp [pad_size]; done) | (simp [pad_size]; omega)) (by first | omega | (simp [pad_size]; done) | (simp [pad_size]; omega))) ?_) | (with_reducible assumption)))) ?_; intro qs4 v4 w4 hO4 hQ4 hb4 hk4 hs4 hn4; obtain ⟨a4, c4, rfl⟩ := row_slice hQ4.row; have hp4 := (hk4 _ (by simp; omega) (hP2.out.notRow (Nat.le_refl _))).trans ((al_old hP2.out.sz).trans hP2.out.p); obtain ⟨cP4, fP4⟩ := cells_of_block hp4; replace hn4 : Hid _ := hn4; replace hk4 : Hid _ := hk4; replace hQ4 : Hid _ := hQ4; clear hp4))
                go_meet
                exact ⟨a4, c4, qs4, rfl, hO4, PSt.grow (PSt.below hP2.out (ba (Below.refl _ _) _)) hQ4.out hk4.out hs4 hb4 hn4.out, (set_blk (by omega)).trans ((hk4.out Bx (by simp; omega) hBr).trans ((al_old hBs).trans hBx2)), by rw [set_sz]; simp at hs4; omega⟩
              case rest =>
                obtain ⟨ap', cp', qs', rfl, hq', hP3, hBx3, hz3⟩ := hcut
                clear cM2 cR2 cP2 cB fB hP2 hOwn hBr hI2 hN2 hBx2
                have hqm : Hid (∀ q ∈ qs', PdM q) := fun q hq2 => by
                  rw [hq'.out] at hq2
                  rcases List.mem_append.1 hq2 with h | h
                  · exact hq.out q h
                  · rw [List.mem_singleton] at h; subst h; exact hM2.out
                have hql2 : Hid (qs'.length = i + 1) := by unfold Hid; rw [hq'.out]; simp; exact hqh.out
                have hl17 : qs'.length ≤ 17 := by have := hql2.out; omega
                have hee2 : Hid (e + m' = s + lenS qs') := by unfold Hid; rw [hq'.out, lenS_snoc, ← Int.add_assoc, ← hee.out]
                have hm1 : 1 ≤ m' ∧ m' ≤ 65536 := by
                  have h1 := hM2.out.r
                  have h2 := hM2.out.n
                  simp only [pdR, Bool.and_eq_true, decide_eq_true_eq] at h1
                  exact ⟨h1.1, h2⟩
                have hlb : lenS qs' ≤ 17 * 65536 := by have := (made_len hqm.out).2; omega
                have hw7 : IntKind.u64.wrap (e + m') = e + m' := by rw [IntKind.wrap_u64]; omega
                have hP4 : Hid (PSt W (wc.setCell ⟨W.heap.size + 1 + 1, 2, none⟩ (.int .u64 (e + m'))) #[.int .u8 k, .int .u32 s, .int .u16 n, .slice a1 n1 c1, .slice (some ⟨pblk, poff, none⟩) n2 c2] 3 s (e + m') aa na ca ap' cp' qs' (lst (sumP qs) 8)) := PSt.setE hP3.out (e + m')
                have hfit := made_fits hqm.out (by omega)
                have hz := sumP_purse (fun q h => (hq.out q h).wf) (made_fits hq.out (by omega))
                have hC := addRC_gives (qs := qs) hz hM2.out (fun d hd => by have := hfit d hd; rw [hq'.out, tot_snoc] at this; exact this) _ hP4.out.a ((hP4.out.q.all _ (by rw [hq'.out]; simp)).1.lst hM2.out.right)
                rw [← hq'.out] at hC
                replace hC : Hid (True → _) := fun _ => hC
                obtain ⟨cM3, cR3, cP3⟩ := hP3.out.cells
                obtain ⟨fP3, fR3⟩ := hP3.out.froz
                obtain ⟨cB3, fB3⟩ := cells_of_block hBx3
                have hBp : ¬ Bx = W.heap.size + 1 + 1 := by omega
                have hBp' : ¬ W.heap.size + 1 + 1 = Bx := by omega
                clear hee hfit hz
                go_wp2_with (go_at_call 33; refine (hC.out trivial).mono ?_; rintro e6 w6 ⟨a6, n6, c6, rfl, hI6, hN6, hb6⟩; have hP6 : Hid _ := PSt.below hP4.out hb6; obtain ⟨cM6, cR6, cP6⟩ := hP6.out.cells; obtain ⟨fP6, fR6⟩ := hP6.out.froz; replace hI6 : Hid (IsCoins w6 (.slice a6 n6 c6) (lst (sumP qs') 8)) := hI6; replace hN6 : Hid (NewV _ w6 (.slice a6 n6 c6)) := hN6)
                all_goals go_roundw
                case rel =>
                  refine ⟨i + 1, qs', e + m', a6, n6, c6, ap', cp', by omega, by omega, by go_num, hql2.out, hee2, ?_, hqm, PSt.setA hP6.out hI6.out (fun g hg => ?_)⟩
                  · have := hee2.out; omega
                  · have h1 := hN6.out g hg
                    rw [set_sz] at h1
                    have h2 := hP3.out.sz
                    exact ⟨h1.2, fun e8 => by have := (hP3.out.q.row.lt g e8).2; omega, by omega⟩
                case measure => (simp [intOf] <;> omega)
        · skip
          go_upto_region 16 with fail
          go_cut [7] from 58 to 60 (fun s7 wx => ∃ (Bx : Nat) (a : Option Addr) (c : Nat), s7 = .pointer (some ⟨Bx, 0, none⟩) ∧ wx.heap[Bx]? = some (.cells #[.int .u64 (n + 1), .slice a L0.length c] 71 (0, 0)) ∧ Hid (IsCoins wx (.slice a L0.length c) L0) ∧ Hid (∀ g, (Value.slice a L0.length c).ownBlock = some g → wr.heap.size ≤ g ∧ g < Bx) ∧ wr.heap.size ≤ Bx ∧ Bx < wx.heap.size ∧ Below wr.heap.size wr wx)
          case first =>
            go_wp2_with (go_at_call 32; refine (hO0.out _).mono ?_; rintro e w1 ⟨a, c, rfl, hI, hN, hb⟩; replace hI : Hid (IsCoins w1 (.slice a L0.length c) L0) := hI; replace hN : Hid (NewV wr w1 (.slice a L0.length c)) := hN)
            go_meet
            exact ⟨_, a, c, rfl, by (repeat (first | (with_reducible exact al_at (by simp [pad_size])) | (with_reducible refine Eq.trans (dr_blk _ _) ?_) | (with_reducible refine Eq.trans (al_old (by first | omega | (simp [pad_size]; done) | (simp [pad_size]; omega))) ?_) | (with_reducible refine Eq.trans (pad_block (by first | omega | (simp [pad_size]; done) | (simp [pad_size]; omega)) (by first | omega | (simp [pad_size]; done) | (simp [pad_size]; omega))) ?_) | (with_reducible assumption))), IsCoins.below hI.out (ba (Below.refl _ _) _), fun g hg => hN.out g hg, hb.size, by simp, ba hb _⟩
          case rest =>
            obtain ⟨Bx, av, cv, rfl, hBx, hIv, hNv, hBl, hBz, hb1⟩ := hcut
            have hP1 : Hid _ := PSt.below hP.out hb1
            obtain ⟨cM1, cR1, cP1⟩ := hP1.out.cells
            go_upto_region 19 with fail
            have hXX : ∃ (m' : Int) (a' : Option Addr) (c' : Nat) (l' : List Cn), wc.heap[Bx]? = some (.cells #[.int .u64 m', .slice a' l'.length c'] 71 (0, 0)) ∧ Hid (IsCoins wc (.slice a' l'.length c') l') ∧ Hid (PdM ⟨m', .slice a' l'.length c', l'⟩) ∧ Hid (∀ g, (Value.slice a' l'.length c').ownBlock = some g → wr.heap.size ≤ g ∧ g < wc.heap.size ∧ g ≠ Bx) ∧ Bx < wc.heap.size ∧ Below wr.heap.size wr wc := ⟨n + 1, av, cv, L0, hBx, hIv, hmk0.out _, fun g hg => by have := hNv.out g hg; omega, hBz, hb1⟩
            clear hBx hIv hNv hb1 hP1 cM1 cR1 cP1
            obtain ⟨m', a', c', l', hBx2, hI2, hM2, hN2, hBs, hb2⟩ := hXX
            have hP2 : Hid (PSt W wc #[.int .u8 k, .int .u32 s, .int .u16 n, .slice a1 n1 c1, .slice a2 0 c2] 3 s e aa na ca ap cp qs (lst (sumP qs) 8)) := PSt.below hP.out hb2
            have hPz := hP.out.sz
            have hPr : Hid (∀ g, (Value.slice ap qs.length cp).ownBlock = some g → g < wr.heap.size) := fun g hg => (hP.out.q.row.lt g hg).2
            obtain ⟨cM2, cR2, cP2⟩ := hP2.out.cells
            obtain ⟨cB, fB⟩ := cells_of_block hBx2
            go_upto_region 19 with fail
            have hBr : (Value.slice ap qs.length cp).ownBlock ≠ some Bx := fun e => by have := hPr.out Bx e; omega
            have hOwn : Hid (∀ g, (Value.slice a' l'.length c').ownBlock = some g → g < wc.heap.size + 1 ∧ (Value.slice ap qs.length cp).ownBlock ≠ some g ∧ W.heap.size + 1 + 1 < g) := fun g hg => by
              have h1 := hN2.out g hg
              exact ⟨by omega, fun e => by have := hPr.out g e; omega, by omega⟩
            have hwz := hP2.out.sz
            go_cut [7] from 82 to 87 (fun s7 wx => ∃ (ap' : Option Addr) (cp' : Nat) (qs' : List Pd), s7 = .pointer (some ⟨Bx, 0, none⟩) ∧ Hid (qs' = qs ++ [⟨m', .slice a' l'.length c', l'⟩]) ∧ Hid (PSt W wx #[.int .u8 k, .int .u32 s, .int .u16 n, .slice a1 n1 c1, .slice a2 0 c2] 3 s e aa na ca ap' cp' qs' (lst (sumP qs) 8)) ∧ wx.heap[Bx]? = some (.cells #[.int .u64 m', .slice a' l'.length c'] 71 (0, 0)) ∧ Bx < wx.heap.size)
            case first =>
              go_wp2_with (at_builtin; go_loud (refine per_app (W := W) (lo := W.heap.size + 1 + 1 + 1) (bp := W.heap.size + 1 + 1) (hP2.out.q.below (ba (Below.refl _ _) _)) (by simp; omega) (by simp; omega) (bt hP2.out.b (ba (Below.refl _ _) _)) (by omega) (by omega) ⟨m', .slice a' l'.length c', l'⟩ rfl (IsCL.below (IsCoins.cl hI2.out) (ba (Below.refl _ _) _)) (fun g hg => ⟨by have := (hOwn.out g hg).1; simp; omega, (hOwn.out g hg).2⟩) rfl _ _ rfl rfl rfl (by (repeat (first | (with_reducible exact al_at (by simp [pad_size])) | (with_reducible refine Eq.trans (dr_blk _ _) ?_) | (with_reducible refine Eq.trans (al_old (by first | omega | (simp [pad_size]; done) | (simp [pad_size]; omega))) ?_) | (with_reducible refine Eq.trans (pad_block (by first | omega | (simp [pad_size]; done) | (simp [pad_size]; omega)) (by first | omega | (simp [pad_size]; done) | (simp [pad_size]; omega))) ?_) | (with_reducible assumption)))) ?_; intro qs4 v4 w4 hO4 hQ4 hb4 hk4 hs4 hn4; obtain ⟨a4, c4, rfl⟩ := row_slice hQ4.row; have hp4 := (hk4 _ (by simp; omega) (hP2.out.notRow (Nat.le_refl _))).trans ((al_old hP2.out.sz).trans hP2.out.p); obtain ⟨cP4, fP4⟩ := cells_of_block hp4; replace hn4 : Hid _ := hn4; replace hk4 : Hid _ := hk4; replace hQ4 : Hid _ := hQ4; clear hp4))
              go_meet
              exact ⟨a4, c4, qs4, rfl, hO4, PSt.grow (PSt.below hP2.out (ba (Below.refl _ _) _)) hQ4.out hk4.out hs4 hb4 hn4.out, (set_blk (by omega)).trans ((hk4.out Bx (by simp; omega) hBr).trans ((al_old hBs).trans hBx2)), by rw [set_sz]; simp at hs4; omega⟩
            case rest =>
              obtain ⟨ap', cp', qs', rfl, hq', hP3, hBx3, hz3⟩ := hcut
              clear cM2 cR2 cP2 cB fB hP2 hOwn hBr hI2 hN2 hBx2
              have hqm : Hid (∀ q ∈ qs', PdM q) := fun q hq2 => by
                rw [hq'.out] at hq2
                rcases List.mem_append.1 hq2 with h | h
                · exact hq.out q h
                · rw [List.mem_singleton] at h; subst h; exact hM2.out
              have hql2 : Hid (qs'.length = 0 + 1) := by unfold Hid; rw [hq'.out]; simp; exact List.eq_nil_of_length_eq_zero hqh.out
              have hl17 : qs'.length ≤ 17 := by have := hql2.out; omega
              have hee2 : Hid (e + m' = s + lenS qs') := by unfold Hid; rw [hq'.out, lenS_snoc, ← Int.add_assoc, ← hee.out]
              have hm1 : 1 ≤ m' ∧ m' ≤ 65536 := by
                have h1 := hM2.out.r
                have h2 := hM2.out.n
                simp only [pdR, Bool.and_eq_true, decide_eq_true_eq] at h1
                exact ⟨h1.1, h2⟩
              have hlb : lenS qs' ≤ 17 * 65536 := by have := (made_len hqm.out).2; omega
              have hw7 : IntKind.u64.wrap (e + m') = e + m' := by rw [IntKind.wrap_u64]; omega
              have hP4 : Hid (PSt W (wc.setCell ⟨W.heap.size + 1 + 1, 2, none⟩ (.int .u64 (e + m'))) #[.int .u8 k, .int .u32 s, .int .u16 n, .slice a1 n1 c1, .slice a2 0 c2] 3 s (e + m') aa na ca ap' cp' qs' (lst (sumP qs) 8)) := PSt.setE hP3.out (e + m')
              have hfit := made_fits hqm.out (by omega)
              have hz := sumP_purse (fun q h => (hq.out q h).wf) (made_fits hq.out (by omega))
              have hC := addRC_gives (qs := qs) hz hM2.out (fun d hd => by have := hfit d hd; rw [hq'.out, tot_snoc] at this; exact this) _ hP4.out.a ((hP4.out.q.all _ (by rw [hq'.out]; simp)).1.lst hM2.out.right)
              rw [← hq'.out] at hC
              replace hC : Hid (True → _) := fun _ => hC
              obtain ⟨cM3, cR3, cP3⟩ := hP3.out.cells
              obtain ⟨fP3, fR3⟩ := hP3.out.froz
              obtain ⟨cB3, fB3⟩ := cells_of_block hBx3
              have hBp : ¬ Bx = W.heap.size + 1 + 1 := by omega
              have hBp' : ¬ W.heap.size + 1 + 1 = Bx := by omega
              clear hee hfit hz
              go_wp2_with (go_at_call 33; refine (hC.out trivial).mono ?_; rintro e6 w6 ⟨a6, n6, c6, rfl, hI6, hN6, hb6⟩; have hP6 : Hid _ := PSt.below hP4.out hb6; obtain ⟨cM6, cR6, cP6⟩ := hP6.out.cells; obtain ⟨fP6, fR6⟩ := hP6.out.froz; replace hI6 : Hid (IsCoins w6 (.slice a6 n6 c6) (lst (sumP qs') 8)) := hI6; replace hN6 : Hid (NewV _ w6 (.slice a6 n6 c6)) := hN6)
              all_goals go_roundw
              case rel =>
                refine ⟨0 + 1, qs', e + m', a6, n6, c6, ap', cp', by omega, by omega, by go_num, hql2.out, hee2, ?_, hqm, PSt.setA hP6.out hI6.out (fun g hg => ?_)⟩
                · have := hee2.out; omega
                · have h1 := hN6.out g hg
                  rw [set_sz] at h1
                  have h2 := hP3.out.sz
                  exact ⟨h1.2, fun e8 => by have := (hP3.out.q.row.lt g e8).2; omega, by omega⟩
              case measure => (simp [intOf] <;> omega)
end
end Go.Proofs.Ytjhjgncnadhbhaa

/- jointurelaw06.plans of kinds with periods: the walk. -/
namespace Go.Proofs.Ytjhjgncnadhbhaa
open Go.ChangeShapes Go.WideShapes Go.ChangeAt Go.RowKit
section
variable {w : World} {k s n : Int} {a1 a2 : Option Addr} {n1 c1 n2 c2 : Nat} {l : List Cn} {ps : List Pa}
set_option maxRecDepth 20000 in
set_option maxHeartbeats 16000000 in
theorem plans_5 (h : MdIn w ⟨k, s, n, a1, n1, c1, a2, n2, c2, l, ps⟩) (hk : k % 6 = 5) (hfm : fewM ⟨k, s, n, a1, n1, c1, a2, n2, c2, l, ps⟩ = true) (W : World) (hB : Below w.heap.size w W) :
    Calls Try.prog 8 #[.agg #[.int .u8 k, .int .u32 s, .int .u16 n, .slice a1 n1 c1, .slice a2 n2 c2]] W fun e w' => MadeOk W w' e := by
  have hpad := pads
  have hk0 := h.k
  have hs := h.s
  have hn := h.n
  have hnum : Hid _ := h.num
  have hpc : Hid (∀ X, Below w.heap.size w X → ∀ i (hi : i < ps.length), ∃ blk off, a2 = some ⟨blk, off, none⟩ ∧ blk < w.heap.size ∧ X.cell? ⟨blk, off + i * 2, none⟩ = some (.int .u16 ps[i].n) ∧ X.cell? ⟨blk, off + i * 2 + 1, none⟩ = some (.slice ps[i].a ps[i].m ps[i].cap)) := fun X hX i hi => pc_at h hX hi
  have hfm1 : n2 ≤ 20 ∧ ∀ q ∈ ps, q.m ≤ 20 := by
    simp only [fewM, Bool.and_eq_true, decide_eq_true_eq, List.all_eq_true] at hfm
    exact ⟨hfm.1.2, hfm.2⟩
  have hok : Hid (∀ i (hi : i < ps.length), (0 ≤ ps[i].n ∧ ps[i].n ≤ 65535) ∧ (∀ x ∈ ps[i].l, LimC x)) := fun i hi => ⟨(h.ok _ (List.getElem_mem hi)).n, fun x hx => ((h.ok _ (List.getElem_mem hi)).wf x hx).2⟩
  have hO : Hid (∀ X, Below w.heap.size w X → ∀ i (hi : i < ps.length), Calls Try.prog 32 #[.slice ps[i].a ps[i].m ps[i].cap] X fun e w' => ∃ a c, e = .returned (.slice a (mkL ps[i].l).length c) ∧ IsCoins w' (.slice a (mkL ps[i].l).length c) (mkL ps[i].l) ∧ NewV X w' (.slice a (mkL ps[i].l).length c) ∧ Below X.heap.size X w') := fun X hX i hi => of6_gives X (((h.ok _ (List.getElem_mem hi)).cl.below hX).coins (by have h1 := (h.ok _ (List.getElem_mem hi)).len; have h2 := hfm1.2 _ (List.getElem_mem hi); omega)) (h.ok _ (List.getElem_mem hi)).wf
  have hO0 : Hid (∀ X, Calls Try.prog 32 #[.slice none 0 0] X fun e w' => ∃ a c, e = .returned (.slice a (mkL []).length c) ∧ IsCoins w' (.slice a (mkL []).length c) (mkL []) ∧ NewV X w' (.slice a (mkL []).length c) ∧ Below X.heap.size X w') := fun X => of6_gives X (.inl ⟨rfl, _, _, rfl⟩) (by simp)
  have hmk0 : Hid (∀ v, PdM ⟨n + 1, v, mkL []⟩) := fun v => mk_pd (by simp only at hn; omega) (by simp)
  generalize mkL [] = L0 at hO0 hmk0
  simp only at hk0 hs hn hnum
  have hn20 := hfm1.1
  have hkm : k.tmod 6 = 5 := by rw [Int.tmod_eq_emod_of_nonneg hk0.1, hk]
  have hw1 : IntKind.u64.wrap s = s := by rw [IntKind.wrap_u64]; omega
  have hw2 : IntKind.u64.wrap n = n := by rw [IntKind.wrap_u64]; omega
  have hw3 : IntKind.u64.wrap (n + 1) = n + 1 := by rw [IntKind.wrap_u64]; omega
  clear h hfm hfm1
  go_enter Try.func8, Try.ntmps8
  go_upto_region 2 with fail
  go_cut [4, 5] from 12 to 18 (fun s4 s5 wx => s4 = .int .u64 s ∧ s5 = .int .u64 (n + 1) ∧ wx.heap[W.heap.size]? = some (.cells #[.int .u8 k, .int .u32 s, .int .u16 n, .slice a1 n1 c1, .slice a2 n2 c2] 27 (0, 0)) ∧ wx.heap[W.heap.size + 1]? = some (.cells #[.int .u8 0, .int .u64 0, .int .u64 0, .slice none 0 0, .slice none 0 0] 33 (0, 0)) ∧ wx.heap[W.heap.size + 1 + 1]? = some (.cells #[.int .u8 5, .int .u64 0, .int .u64 0, .slice none 0 0, .slice none 0 0] 33 (0, 0)) ∧ W.heap.size + 1 + 1 < wx.heap.size ∧ Below W.heap.size W wx)
  case first =>
    go_region
    all_goals (go_wp2_with fail; go_meet)
    all_goals exact ⟨rfl, rfl, by (repeat (first | (with_reducible exact al_at (by simp [pad_size])) | (with_reducible refine Eq.trans (dr_blk _ _) ?_) | (with_reducible refine Eq.trans (al_old (by first | omega | (simp [pad_size]; done) | (simp [pad_size]; omega))) ?_) | (with_reducible refine Eq.trans (pad_block (by first | omega | (simp [pad_size]; done) | (simp [pad_size]; omega)) (by first | omega | (simp [pad_size]; done) | (simp [pad_size]; omega))) ?_) | (with_reducible assumption))), by (repeat (first | (with_reducible exact al_at (by simp [pad_size])) | (with_reducible refine Eq.trans (dr_blk _ _) ?_) | (with_reducible refine Eq.trans (al_old (by first | omega | (simp [pad_size]; done) | (simp [pad_size]; omega))) ?_) | (with_reducible refine Eq.trans (pad_block (by first | omega | (simp [pad_size]; done) | (simp [pad_size]; omega)) (by first | omega | (simp [pad_size]; done) | (simp [pad_size]; omega))) ?_) | (with_reducible assumption))), by (repeat (first | (with_reducible exact al_at (by simp [pad_size])) | (with_reducible refine Eq.trans (dr_blk _ _) ?_) | (with_reducible refine Eq.trans (al_old (by first | omega | (simp [pad_size]; done) | (simp [pad_size]; omega))) ?_) | (with_reducible refine Eq.trans (pad_block (by first | omega | (simp [pad_size]; done) | (simp [pad_size]; omega)) (by first | omega | (simp [pad_size]; done) | (simp [pad_size]; omega))) ?_) | (with_reducible assumption))), by simp, by (repeat (first | (with_reducible exact Below.refl _ _) | (with_reducible assumption) | (with_reducible apply bd) | (with_reducible apply ba) | (with_reducible refine bp ?_ (by first | omega | (simp [pad_size]; done) | (simp [pad_size]; omega)) _ _) | (with_reducible refine bs ?_ (by first | omega | (simp [pad_size]; done) | (simp [pad_size]; omega)) _) | (with_reducible refine bt ?_ (by assumption))))⟩
  case rest =>
    obtain ⟨rfl, rfl, hm0, hr0, hp0, hz0, hb0⟩ := hcut
    obtain ⟨cp0, fp0⟩ := cells_of_block hp0
    go_wp2
    go_loopw [6] (fun iv X => ∃ (i : Nat) (qs : List Pd) (e : Int) (aa : Option Addr) (na ca : Nat) (ap : Option Addr) (cp : Nat), i ≤ 16 ∧ (i ≤ n2 ∨ i ≤ 1) ∧ iv = .int .i64 (i : Int) ∧ qs.length = i ∧ Hid (e = s + lenS qs) ∧ (0 ≤ e ∧ e ≤ 4296081407) ∧ Hid (∀ q ∈ qs, PdM q) ∧ Hid (PSt W X #[.int .u8 k, .int .u32 s, .int .u16 n, .slice a1 n1 c1, .slice a2 n2 c2] 5 s e aa na ca ap cp qs (lst (sumP qs) 8))) (fun iv _ => 17 - (intOf iv).toNat)
    case atStart =>
      refine ⟨0, [], s, none, 0, 0, none, 0, by omega, by omega, rfl, rfl, by unfold Hid; simp [lenS], by omega, by unfold Hid; simp, ?_⟩
      exact ⟨(set_blk (by omega)).trans ((set_blk (by omega)).trans hm0), (set_blk (by omega)).trans ((set_blk (by omega)).trans hr0), by rw [block_set _ (block_set _ hp0)]; rfl, QsAt.nil _ _ _, by rw [sumP_nil]; exact .inl ⟨rfl, none, 0, rfl⟩, by simp [Value.ownBlock], bs (bs hb0 (by show W.heap.size ≤ W.heap.size + 1 + 1; omega) _) (by show W.heap.size ≤ W.heap.size + 1 + 1; omega) _, by rw [set_sz, set_sz]; exact hz0⟩
    case round =>
      clear hm0 hr0 hp0 hz0 hb0 cp0 fp0
      obtain ⟨i, qs, e, aa, na, ca, ap, cp, hi16, hin, rfl, hql, hee, he, hq, hP⟩ := hrel
      have hqh : Hid (qs.length = i) := hql
      have hl16 : qs.length ≤ 16 := by omega
      have hl1 : 1 ≤ i → 1 ≤ qs.length := fun _ => by omega
      clear hql
      obtain ⟨cM, cR, cP⟩ := hP.out.cells
      obtain ⟨fP, fR⟩ := hP.out.froz
      have hgo : (i < 16 ∧ i < n2) ∨ (i = 0 ∧ n2 = 0) ∨ (1 ≤ i ∧ (n2 ≤ i ∨ i = 16)) := by omega
      by_cases hx : 1 ≤ i ∧ (n2 ≤ i ∨ i = 16)
      · obtain ⟨hx1, hx2⟩ := hx
        have hne : ((i : Int) == 0) = false := beq_eq_false_iff_ne.2 (by omega)
        have hne2 : ¬ (i : Int) = 0 := by omega
        have hmade := made_right (av := .slice aa na ca) (pv := .slice ap qs.length cp) (k := 5) (by omega) hq.out (hl1 hx1) hl16 hee.out hs
        have hlq : qs.length ≤ 1048576 := by omega
        have hXb := hP.out.b
        clear hpc hok hO hO0 hgo
        by_cases hni : n2 ≤ i
        · have hni' : ¬ (i : Int) < (n2 : Int) := by omega
          go_wp2
          refine bodyPost_ret (v := pnV ⟨5, s, e, .slice aa na ca, .slice ap qs.length cp, lst (sumP qs) 8, qs⟩) (by simp only [results, Try.results8]; go_simp; rfl) rfl ⟨_, rfl, hP.out.done hlq (by repeat (first | exact grown_ref _ _ | refine grown_se ?_ _ _ | refine grown_dr ?_)), hmade.1, hmade.2, hP.out.q.cap, by (repeat (first | (with_reducible exact Below.refl _ _) | (with_reducible assumption) | (with_reducible apply bd) | (with_reducible apply ba) | (with_reducible refine bp ?_ (by first | omega | (simp [pad_size]; done) | (simp [pad_size]; omega)) _ _) | (with_reducible refine bs ?_ (by first | omega | (simp [pad_size]; done) | (simp [pad_size]; omega)) _) | (with_reducible refine bt ?_ (by assumption))))⟩
        · have hni' : (i : Int) < (n2 : Int) := by omega
          have h16 : ¬ (i : Int) < 16 := by omega
          go_wp2
          refine bodyPost_ret (v := pnV ⟨5, s, e, .slice aa na ca, .slice ap qs.length cp, lst (sumP qs) 8, qs⟩) (by simp only [results, Try.results8]; go_simp; rfl) rfl ⟨_, rfl, hP.out.done hlq (by repeat (first | exact grown_ref _ _ | refine grown_se ?_ _ _ | refine grown_dr ?_)), hmade.1, hmade.2, hP.out.q.cap, by (repeat (first | (with_reducible exact Below.refl _ _) | (with_reducible assumption) | (with_reducible apply bd) | (with_reducible apply ba) | (with_reducible refine bp ?_ (by first | omega | (simp [pad_size]; done) | (simp [pad_size]; omega)) _ _) | (with_reducible refine bs ?_ (by first | omega | (simp [pad_size]; done) | (simp [pad_size]; omega)) _) | (with_reducible refine bt ?_ (by assumption))))⟩
      · have hAB : (i < 16 ∧ i < n2) ∨ (i = 0 ∧ n2 = 0) := by omega
        clear hgo hx
        rcases hAB with ⟨h16, hi2⟩ | ⟨rfl, rfl⟩
        · have h16' : (i : Int) < 16 := by omega
          have hi2' : (i : Int) < (n2 : Int) := by omega
          go_upto_region 16 with fail
          go_cut [7] from 58 to 60 (fun s7 wx => ∃ (Bx : Nat) (a : Option Addr) (c : Nat), s7 = .pointer (some ⟨Bx, 0, none⟩) ∧ wx.heap[Bx]? = some (.cells #[.int .u64 (n + 1), .slice a L0.length c] 71 (0, 0)) ∧ Hid (IsCoins wx (.slice a L0.length c) L0) ∧ Hid (∀ g, (Value.slice a L0.length c).ownBlock = some g → wr.heap.size ≤ g ∧ g < Bx) ∧ wr.heap.size ≤ Bx ∧ Bx < wx.heap.size ∧ Below wr.heap.size wr wx)
          case first =>
            go_wp2_with (go_at_call 32; refine (hO0.out _).mono ?_; rintro e w1 ⟨a, c, rfl, hI, hN, hb⟩; replace hI : Hid (IsCoins w1 (.slice a L0.length c) L0) := hI; replace hN : Hid (NewV wr w1 (.slice a L0.length c)) := hN)
            go_meet
            exact ⟨_, a, c, rfl, by (repeat (first | (with_reducible exact al_at (by simp [pad_size])) | (with_reducible refine Eq.trans (dr_blk _ _) ?_) | (with_reducible refine Eq.trans (al_old (by first | omega | (simp [pad_size]; done) | (simp [pad_size]; omega))) ?_) | (with_reducible refine Eq.trans (pad_block (by first | omega | (simp [pad_size]; done) | (simp [pad_size]; omega)) (by first | omega | (simp [pad_size]; done) | (simp [pad_size]; omega))) ?_) | (with_reducible assumption))), IsCoins.below hI.out (ba (Below.refl _ _) _), fun g hg => hN.out g hg, hb.size, by simp, ba hb _⟩
          case rest =>
            obtain ⟨Bx, av, cv, rfl, hBx, hIv, hNv, hBl, hBz, hb1⟩ := hcut
            have hP1 : Hid _ := PSt.below hP.out hb1
            obtain ⟨cM1, cR1, cP1⟩ := hP1.out.cells
            have hip : i < ps.length := by have := hnum.out; omega
            obtain ⟨pblk, poff, rfl, hpl, p0, p1⟩ := hpc.out wc (bt hB (bt hP.out.b hb1)) i hip
            obtain ⟨⟨hq0, hq1⟩, hql'⟩ := hok.out i hip
            have hOi : Hid (∀ X, Below wr.heap.size wr X → _) := fun X hX => hO.out X (bt hB (bt hP.out.b hX)) i hip
            have hw5 : IntKind.u64.wrap ps[i].n = ps[i].n := by rw [IntKind.wrap_u64]; omega
            have hw6 : IntKind.u64.wrap (ps[i].n + 1) = ps[i].n + 1 := by rw [IntKind.wrap_u64]; omega
            have hpm : Hid (∀ v, PdM ⟨ps[i].n + 1, v, mkL ps[i].l⟩) := fun v => mk_pd (by omega) hql'
            have hWz := hP.out.sz
            have hpw : pblk < wr.heap.size := Nat.lt_of_lt_of_le hpl (Nat.le_trans hB.size hP.out.b.size)
            have hkp : Hid (∀ X, Below wr.heap.size wr X → X.cell? ⟨W.heap.size, 4, none⟩ = some (.slice (some ⟨pblk, poff, none⟩) n2 c2) ∧ X.cell? ⟨pblk, poff + i * 2, none⟩ = some (.int .u16 ps[i].n) ∧ X.cell? ⟨pblk, poff + i * 2 + 1, none⟩ = some (.slice ps[i].a ps[i].m ps[i].cap)) := fun X hX =>
              ⟨((PSt.below hP.out hX).cells.1 4), ((hpc.out X (bt hB (bt hP.out.b hX)) i hip).elim fun b h => h.elim fun o h => by obtain ⟨e1, _, e2, _⟩ := h; simp at e1; obtain ⟨rfl, rfl⟩ := e1; exact e2), ((hpc.out X (bt hB (bt hP.out.b hX)) i hip).elim fun b h => h.elim fun o h => by obtain ⟨e1, _, _, e2⟩ := h; simp at e1; obtain ⟨rfl, rfl⟩ := e1; exact e2)⟩
            obtain ⟨cBx, fBx⟩ := cells_of_block hBx
            clear hpc hok hO hql'
            generalize mkL ps[i].l = ml at *
            generalize ps[i] = pc at *
            go_upto_region 18 with fail
            go_cut [7] from 66 to 81 (fun s7 wx => ∃ (m' : Int) (a' : Option Addr) (c' : Nat) (l' : List Cn), s7 = .pointer (some ⟨Bx, 0, none⟩) ∧ wx.heap[Bx]? = some (.cells #[.int .u64 m', .slice a' l'.length c'] 71 (0, 0)) ∧ Hid (IsCoins wx (.slice a' l'.length c') l') ∧ Hid (PdM ⟨m', .slice a' l'.length c', l'⟩) ∧ Hid (∀ g, (Value.slice a' l'.length c').ownBlock = some g → wr.heap.size ≤ g ∧ g < wx.heap.size ∧ g ≠ Bx) ∧ Bx < wx.heap.size ∧ Below wr.heap.size wr wx)
            case first =>
              go_region_held2 (fun X => X.cell? ⟨W.heap.size, 4, none⟩ = some (.slice (some ⟨pblk, poff, none⟩) n2 c2) ∧ X.cell? ⟨pblk, poff + i * 2, none⟩ = some (.int .u16 pc.n) ∧ X.cell? ⟨pblk, poff + i * 2 + 1, none⟩ = some (.slice pc.a pc.m pc.cap)) (exact hkp.out _ (by (repeat (first | (with_reducible exact Below.refl _ _) | (with_reducible assumption) | (with_reducible apply bd) | (with_reducible apply ba) | (with_reducible refine bp ?_ (by first | omega | (simp [pad_size]; done) | (simp [pad_size]; omega)) _ _) | (with_reducible refine bs ?_ (by first | omega | (simp [pad_size]; done) | (simp [pad_size]; omega)) _) | (with_reducible refine bt ?_ (by assumption)))))) (first | (go_at_call 32; refine (hOi.out _ (by (repeat (first | (with_reducible exact Below.refl _ _) | (with_reducible assumption) | (with_reducible apply bd) | (with_reducible apply ba) | (with_reducible refine bp ?_ (by first | omega | (simp [pad_size]; done) | (simp [pad_size]; omega)) _ _) | (with_reducible refine bs ?_ (by first | omega | (simp [pad_size]; done) | (simp [pad_size]; omega)) _) | (with_reducible refine bt ?_ (by assumption)))))).mono ?_; rintro e w1 ⟨a, c, rfl, hI, hN, hb⟩; obtain ⟨m1, g1, d1, hm1, rfl⟩ := pad_of hb; replace hI : Hid (IsCoins _ (.slice a ml.length c) ml) := hI; replace hN : Hid (NewV _ _ (.slice a ml.length c)) := hN; clear hb; simp [pad_size] at hm1; have hBm : Bx < m1 := by omega))
              all_goals (go_wp2_with fail; go_meet)
              all_goals
                have hNg : Hid (∀ g, (Value.slice a ml.length c).ownBlock = some g → wc.heap.size ≤ g ∧ g < m1) := fun g hg => by
                  have := hN.out g hg
                  simp [pad_size] at this
                  omega
                have hwm : wr.heap.size ≤ wc.heap.size := hb1.size
                exact ⟨pc.n + 1, a, c, ml, rfl, (pad_block (by rw [set_sz, set_sz]; exact hBz) hBm).trans (by rw [block_set _ (block_set _ hBx)]; rfl), IsCoins.keepC hI.out (fun g hg => pad_high (by simp [set_sz]) (by rw [set_sz, set_sz]; exact (hNg.out g hg).1)) (by simp [pad_size]), hpm.out _, fun g hg => by have := hNg.out g hg; simp only [pad_size]; omega, by simp only [pad_size]; exact hBm, by (repeat (first | (with_reducible exact Below.refl _ _) | (with_reducible assumption) | (with_reducible apply bd) | (with_reducible apply ba) | (with_reducible refine bp ?_ (by first | omega | (simp [pad_size]; done) | (simp [pad_size]; omega)) _ _) | (with_reducible refine bs ?_ (by first | omega | (simp [pad_size]; done) | (simp [pad_size]; omega)) _) | (with_reducible refine bt ?_ (by assumption))))⟩
            case rest =>
              obtain ⟨m', a', c', l', rfl, hBx2, hI2, hM2, hN2, hBs, hb2⟩ := hcut
              clear hBx hIv hNv hb1 hP1 cM1 cR1 cP1
              have hP2 : Hid (PSt W wc #[.int .u8 k, .int .u32 s, .int .u16 n, .slice a1 n1 c1, .slice (some ⟨pblk, poff, none⟩) n2 c2] 5 s e aa na ca ap cp qs (lst (sumP qs) 8)) := PSt.below hP.out hb2
              have hPz := hP.out.sz
              have hPr : Hid (∀ g, (Value.slice ap qs.length cp).ownBlock = some g → g < wr.heap.size) := fun g hg => (hP.out.q.row.lt g hg).2
              obtain ⟨cM2, cR2, cP2⟩ := hP2.out.cells
              obtain ⟨cB, fB⟩ := cells_of_block hBx2
              go_upto_region 19 with fail
              have hBr : (Value.slice ap qs.length cp).ownBlock ≠ some Bx := fun e => by have := hPr.out Bx e; omega
              have hOwn : Hid (∀ g, (Value.slice a' l'.length c').ownBlock = some g → g < wc.heap.size + 1 ∧ (Value.slice ap qs.length cp).ownBlock ≠ some g ∧ W.heap.size + 1 + 1 < g) := fun g hg => by
                have h1 := hN2.out g hg
                exact ⟨by omega, fun e => by have := hPr.out g e; omega, by omega⟩
              have hwz := hP2.out.sz
              go_cut [7] from 82 to 87 (fun s7 wx => ∃ (ap' : Option Addr) (cp' : Nat) (qs' : List Pd), s7 = .pointer (some ⟨Bx, 0, none⟩) ∧ Hid (qs' = qs ++ [⟨m', .slice a' l'.length c', l'⟩]) ∧ Hid (PSt W wx #[.int .u8 k, .int .u32 s, .int .u16 n, .slice a1 n1 c1, .slice (some ⟨pblk, poff, none⟩) n2 c2] 5 s e aa na ca ap' cp' qs' (lst (sumP qs) 8)) ∧ wx.heap[Bx]? = some (.cells #[.int .u64 m', .slice a' l'.length c'] 71 (0, 0)) ∧ Bx < wx.heap.size)
              case first =>
                go_wp2_with (at_builtin; go_loud (refine per_app (W := W) (lo := W.heap.size + 1 + 1 + 1) (bp := W.heap.size + 1 + 1) (hP2.out.q.below (ba (Below.refl _ _) _)) (by simp; omega) (by simp; omega) (bt hP2.out.b (ba (Below.refl _ _) _)) (by omega) (by omega) ⟨m', .slice a' l'.length c', l'⟩ rfl (IsCL.below (IsCoins.cl hI2.out) (ba (Below.refl _ _) _)) (fun g hg => ⟨by have := (hOwn.out g hg).1; simp; omega, (hOwn.out g hg).2⟩) rfl _ _ rfl rfl rfl (by (repeat (first | (with_reducible exact al_at (by simp [pad_size])) | (with_reducible refine Eq.trans (dr_blk _ _) ?_) | (with_reducible refine Eq.trans (al_old (by first | omega | (simp [pad_size]; done) | (simp [pad_size]; omega))) ?_) | (with_reducible refine Eq.trans (pad_block (by first | omega | (simp [pad_size]; done) | (simp [pad_size]; omega)) (by first | omega | (simp [pad_size]; done) | (simp [pad_size]; omega))) ?_) | (with_reducible assumption)))) ?_; intro qs4 v4 w4 hO4 hQ4 hb4 hk4 hs4 hn4; obtain ⟨a4, c4, rfl⟩ := row_slice hQ4.row; have hp4 := (hk4 _ (by simp; omega) (hP2.out.notRow (Nat.le_refl _))).trans ((al_old hP2.out.sz).trans hP2.out.p); obtain ⟨cP4, fP4⟩ := cells_of_block hp4; replace hn4 : Hid _ := hn4; replace hk4 : Hid _ := hk4; replace hQ4 : Hid _ := hQ4; clear hp4))
                go_meet
                exact ⟨a4, c4, qs4, rfl, hO4, PSt.grow (PSt.below hP2.out (ba (Below.refl _ _) _)) hQ4.out hk4.out hs4 hb4 hn4.out, (set_blk (by omega)).trans ((hk4.out Bx (by simp; omega) hBr).trans ((al_old hBs).trans hBx2)), by rw [set_sz]; simp at hs4; omega⟩
              case rest =>
                obtain ⟨ap', cp', qs', rfl, hq', hP3, hBx3, hz3⟩ := hcut
                clear cM2 cR2 cP2 cB fB hP2 hOwn hBr hI2 hN2 hBx2
                have hqm : Hid (∀ q ∈ qs', PdM q) := fun q hq2 => by
                  rw [hq'.out] at hq2
                  rcases List.mem_append.1 hq2 with h | h
                  · exact hq.out q h
                  · rw [List.mem_singleton] at h; subst h; exact hM2.out
                have hql2 : Hid (qs'.length = i + 1) := by unfold Hid; rw [hq'.out]; simp; exact hqh.out
                have hl17 : qs'.length ≤ 17 := by have := hql2.out; omega
                have hee2 : Hid (e + m' = s + lenS qs') := by unfold Hid; rw [hq'.out, lenS_snoc, ← Int.add_assoc, ← hee.out]
                have hm1 : 1 ≤ m' ∧ m' ≤ 65536 := by
                  have h1 := hM2.out.r
                  have h2 := hM2.out.n
                  simp only [pdR, Bool.and_eq_true, decide_eq_true_eq] at h1
                  exact ⟨h1.1, h2⟩
                have hlb : lenS qs' ≤ 17 * 65536 := by have := (made_len hqm.out).2; omega
                have hw7 : IntKind.u64.wrap (e + m') = e + m' := by rw [IntKind.wrap_u64]; omega
                have hP4 : Hid (PSt W (wc.setCell ⟨W.heap.size + 1 + 1, 2, none⟩ (.int .u64 (e + m'))) #[.int .u8 k, .int .u32 s, .int .u16 n, .slice a1 n1 c1, .slice (some ⟨pblk, poff, none⟩) n2 c2] 5 s (e + m') aa na ca ap' cp' qs' (lst (sumP qs) 8)) := PSt.setE hP3.out (e + m')
                have hfit := made_fits hqm.out (by omega)
                have hz := sumP_purse (fun q h => (hq.out q h).wf) (made_fits hq.out (by omega))
                have hC := addRC_gives (qs := qs) hz hM2.out (fun d hd => by have := hfit d hd; rw [hq'.out, tot_snoc] at this; exact this) _ hP4.out.a ((hP4.out.q.all _ (by rw [hq'.out]; simp)).1.lst hM2.out.right)
                rw [← hq'.out] at hC
                replace hC : Hid (True → _) := fun _ => hC
                obtain ⟨cM3, cR3, cP3⟩ := hP3.out.cells
                obtain ⟨fP3, fR3⟩ := hP3.out.froz
                obtain ⟨cB3, fB3⟩ := cells_of_block hBx3
                have hBp : ¬ Bx = W.heap.size + 1 + 1 := by omega
                have hBp' : ¬ W.heap.size + 1 + 1 = Bx := by omega
                clear hee hfit hz
                go_wp2_with (go_at_call 33; refine (hC.out trivial).mono ?_; rintro e6 w6 ⟨a6, n6, c6, rfl, hI6, hN6, hb6⟩; have hP6 : Hid _ := PSt.below hP4.out hb6; obtain ⟨cM6, cR6, cP6⟩ := hP6.out.cells; obtain ⟨fP6, fR6⟩ := hP6.out.froz; replace hI6 : Hid (IsCoins w6 (.slice a6 n6 c6) (lst (sumP qs') 8)) := hI6; replace hN6 : Hid (NewV _ w6 (.slice a6 n6 c6)) := hN6)
                all_goals go_roundw
                case rel =>
                  refine ⟨i + 1, qs', e + m', a6, n6, c6, ap', cp', by omega, by omega, by go_num, hql2.out, hee2, ?_, hqm, PSt.setA hP6.out hI6.out (fun g hg => ?_)⟩
                  · have := hee2.out; omega
                  · have h1 := hN6.out g hg
                    rw [set_sz] at h1
                    have h2 := hP3.out.sz
                    exact ⟨h1.2, fun e8 => by have := (hP3.out.q.row.lt g e8).2; omega, by omega⟩
                case measure => (simp [intOf] <;> omega)
        · skip
          go_upto_region 16 with fail
          go_cut [7] from 58 to 60 (fun s7 wx => ∃ (Bx : Nat) (a : Option Addr) (c : Nat), s7 = .pointer (some ⟨Bx, 0, none⟩) ∧ wx.heap[Bx]? = some (.cells #[.int .u64 (n + 1), .slice a L0.length c] 71 (0, 0)) ∧ Hid (IsCoins wx (.slice a L0.length c) L0) ∧ Hid (∀ g, (Value.slice a L0.length c).ownBlock = some g → wr.heap.size ≤ g ∧ g < Bx) ∧ wr.heap.size ≤ Bx ∧ Bx < wx.heap.size ∧ Below wr.heap.size wr wx)
          case first =>
            go_wp2_with (go_at_call 32; refine (hO0.out _).mono ?_; rintro e w1 ⟨a, c, rfl, hI, hN, hb⟩; replace hI : Hid (IsCoins w1 (.slice a L0.length c) L0) := hI; replace hN : Hid (NewV wr w1 (.slice a L0.length c)) := hN)
            go_meet
            exact ⟨_, a, c, rfl, by (repeat (first | (with_reducible exact al_at (by simp [pad_size])) | (with_reducible refine Eq.trans (dr_blk _ _) ?_) | (with_reducible refine Eq.trans (al_old (by first | omega | (simp [pad_size]; done) | (simp [pad_size]; omega))) ?_) | (with_reducible refine Eq.trans (pad_block (by first | omega | (simp [pad_size]; done) | (simp [pad_size]; omega)) (by first | omega | (simp [pad_size]; done) | (simp [pad_size]; omega))) ?_) | (with_reducible assumption))), IsCoins.below hI.out (ba (Below.refl _ _) _), fun g hg => hN.out g hg, hb.size, by simp, ba hb _⟩
          case rest =>
            obtain ⟨Bx, av, cv, rfl, hBx, hIv, hNv, hBl, hBz, hb1⟩ := hcut
            have hP1 : Hid _ := PSt.below hP.out hb1
            obtain ⟨cM1, cR1, cP1⟩ := hP1.out.cells
            go_upto_region 19 with fail
            have hXX : ∃ (m' : Int) (a' : Option Addr) (c' : Nat) (l' : List Cn), wc.heap[Bx]? = some (.cells #[.int .u64 m', .slice a' l'.length c'] 71 (0, 0)) ∧ Hid (IsCoins wc (.slice a' l'.length c') l') ∧ Hid (PdM ⟨m', .slice a' l'.length c', l'⟩) ∧ Hid (∀ g, (Value.slice a' l'.length c').ownBlock = some g → wr.heap.size ≤ g ∧ g < wc.heap.size ∧ g ≠ Bx) ∧ Bx < wc.heap.size ∧ Below wr.heap.size wr wc := ⟨n + 1, av, cv, L0, hBx, hIv, hmk0.out _, fun g hg => by have := hNv.out g hg; omega, hBz, hb1⟩
            clear hBx hIv hNv hb1 hP1 cM1 cR1 cP1
            obtain ⟨m', a', c', l', hBx2, hI2, hM2, hN2, hBs, hb2⟩ := hXX
            have hP2 : Hid (PSt W wc #[.int .u8 k, .int .u32 s, .int .u16 n, .slice a1 n1 c1, .slice a2 0 c2] 5 s e aa na ca ap cp qs (lst (sumP qs) 8)) := PSt.below hP.out hb2
            have hPz := hP.out.sz
            have hPr : Hid (∀ g, (Value.slice ap qs.length cp).ownBlock = some g → g < wr.heap.size) := fun g hg => (hP.out.q.row.lt g hg).2
            obtain ⟨cM2, cR2, cP2⟩ := hP2.out.cells
            obtain ⟨cB, fB⟩ := cells_of_block hBx2
            go_upto_region 19 with fail
            have hBr : (Value.slice ap qs.length cp).ownBlock ≠ some Bx := fun e => by have := hPr.out Bx e; omega
            have hOwn : Hid (∀ g, (Value.slice a' l'.length c').ownBlock = some g → g < wc.heap.size + 1 ∧ (Value.slice ap qs.length cp).ownBlock ≠ some g ∧ W.heap.size + 1 + 1 < g) := fun g hg => by
              have h1 := hN2.out g hg
              exact ⟨by omega, fun e => by have := hPr.out g e; omega, by omega⟩
            have hwz := hP2.out.sz
            go_cut [7] from 82 to 87 (fun s7 wx => ∃ (ap' : Option Addr) (cp' : Nat) (qs' : List Pd), s7 = .pointer (some ⟨Bx, 0, none⟩) ∧ Hid (qs' = qs ++ [⟨m', .slice a' l'.length c', l'⟩]) ∧ Hid (PSt W wx #[.int .u8 k, .int .u32 s, .int .u16 n, .slice a1 n1 c1, .slice a2 0 c2] 5 s e aa na ca ap' cp' qs' (lst (sumP qs) 8)) ∧ wx.heap[Bx]? = some (.cells #[.int .u64 m', .slice a' l'.length c'] 71 (0, 0)) ∧ Bx < wx.heap.size)
            case first =>
              go_wp2_with (at_builtin; go_loud (refine per_app (W := W) (lo := W.heap.size + 1 + 1 + 1) (bp := W.heap.size + 1 + 1) (hP2.out.q.below (ba (Below.refl _ _) _)) (by simp; omega) (by simp; omega) (bt hP2.out.b (ba (Below.refl _ _) _)) (by omega) (by omega) ⟨m', .slice a' l'.length c', l'⟩ rfl (IsCL.below (IsCoins.cl hI2.out) (ba (Below.refl _ _) _)) (fun g hg => ⟨by have := (hOwn.out g hg).1; simp; omega, (hOwn.out g hg).2⟩) rfl _ _ rfl rfl rfl (by (repeat (first | (with_reducible exact al_at (by simp [pad_size])) | (with_reducible refine Eq.trans (dr_blk _ _) ?_) | (with_reducible refine Eq.trans (al_old (by first | omega | (simp [pad_size]; done) | (simp [pad_size]; omega))) ?_) | (with_reducible refine Eq.trans (pad_block (by first | omega | (simp [pad_size]; done) | (simp [pad_size]; omega)) (by first | omega | (simp [pad_size]; done) | (simp [pad_size]; omega))) ?_) | (with_reducible assumption)))) ?_; intro qs4 v4 w4 hO4 hQ4 hb4 hk4 hs4 hn4; obtain ⟨a4, c4, rfl⟩ := row_slice hQ4.row; have hp4 := (hk4 _ (by simp; omega) (hP2.out.notRow (Nat.le_refl _))).trans ((al_old hP2.out.sz).trans hP2.out.p); obtain ⟨cP4, fP4⟩ := cells_of_block hp4; replace hn4 : Hid _ := hn4; replace hk4 : Hid _ := hk4; replace hQ4 : Hid _ := hQ4; clear hp4))
              go_meet
              exact ⟨a4, c4, qs4, rfl, hO4, PSt.grow (PSt.below hP2.out (ba (Below.refl _ _) _)) hQ4.out hk4.out hs4 hb4 hn4.out, (set_blk (by omega)).trans ((hk4.out Bx (by simp; omega) hBr).trans ((al_old hBs).trans hBx2)), by rw [set_sz]; simp at hs4; omega⟩
            case rest =>
              obtain ⟨ap', cp', qs', rfl, hq', hP3, hBx3, hz3⟩ := hcut
              clear cM2 cR2 cP2 cB fB hP2 hOwn hBr hI2 hN2 hBx2
              have hqm : Hid (∀ q ∈ qs', PdM q) := fun q hq2 => by
                rw [hq'.out] at hq2
                rcases List.mem_append.1 hq2 with h | h
                · exact hq.out q h
                · rw [List.mem_singleton] at h; subst h; exact hM2.out
              have hql2 : Hid (qs'.length = 0 + 1) := by unfold Hid; rw [hq'.out]; simp; exact List.eq_nil_of_length_eq_zero hqh.out
              have hl17 : qs'.length ≤ 17 := by have := hql2.out; omega
              have hee2 : Hid (e + m' = s + lenS qs') := by unfold Hid; rw [hq'.out, lenS_snoc, ← Int.add_assoc, ← hee.out]
              have hm1 : 1 ≤ m' ∧ m' ≤ 65536 := by
                have h1 := hM2.out.r
                have h2 := hM2.out.n
                simp only [pdR, Bool.and_eq_true, decide_eq_true_eq] at h1
                exact ⟨h1.1, h2⟩
              have hlb : lenS qs' ≤ 17 * 65536 := by have := (made_len hqm.out).2; omega
              have hw7 : IntKind.u64.wrap (e + m') = e + m' := by rw [IntKind.wrap_u64]; omega
              have hP4 : Hid (PSt W (wc.setCell ⟨W.heap.size + 1 + 1, 2, none⟩ (.int .u64 (e + m'))) #[.int .u8 k, .int .u32 s, .int .u16 n, .slice a1 n1 c1, .slice a2 0 c2] 5 s (e + m') aa na ca ap' cp' qs' (lst (sumP qs) 8)) := PSt.setE hP3.out (e + m')
              have hfit := made_fits hqm.out (by omega)
              have hz := sumP_purse (fun q h => (hq.out q h).wf) (made_fits hq.out (by omega))
              have hC := addRC_gives (qs := qs) hz hM2.out (fun d hd => by have := hfit d hd; rw [hq'.out, tot_snoc] at this; exact this) _ hP4.out.a ((hP4.out.q.all _ (by rw [hq'.out]; simp)).1.lst hM2.out.right)
              rw [← hq'.out] at hC
              replace hC : Hid (True → _) := fun _ => hC
              obtain ⟨cM3, cR3, cP3⟩ := hP3.out.cells
              obtain ⟨fP3, fR3⟩ := hP3.out.froz
              obtain ⟨cB3, fB3⟩ := cells_of_block hBx3
              have hBp : ¬ Bx = W.heap.size + 1 + 1 := by omega
              have hBp' : ¬ W.heap.size + 1 + 1 = Bx := by omega
              clear hee hfit hz
              go_wp2_with (go_at_call 33; refine (hC.out trivial).mono ?_; rintro e6 w6 ⟨a6, n6, c6, rfl, hI6, hN6, hb6⟩; have hP6 : Hid _ := PSt.below hP4.out hb6; obtain ⟨cM6, cR6, cP6⟩ := hP6.out.cells; obtain ⟨fP6, fR6⟩ := hP6.out.froz; replace hI6 : Hid (IsCoins w6 (.slice a6 n6 c6) (lst (sumP qs') 8)) := hI6; replace hN6 : Hid (NewV _ w6 (.slice a6 n6 c6)) := hN6)
              all_goals go_roundw
              case rel =>
                refine ⟨0 + 1, qs', e + m', a6, n6, c6, ap', cp', by omega, by omega, by go_num, hql2.out, hee2, ?_, hqm, PSt.setA hP6.out hI6.out (fun g hg => ?_)⟩
                · have := hee2.out; omega
                · have h1 := hN6.out g hg
                  rw [set_sz] at h1
                  have h2 := hP3.out.sz
                  exact ⟨h1.2, fun e8 => by have := (hP3.out.q.row.lt g e8).2; omega, by omega⟩
              case measure => (simp [intOf] <;> omega)
end
end Go.Proofs.Ytjhjgncnadhbhaa

/- plan.Locked. -/
namespace Go.Proofs.Ytjhjgncnadhbhaa
open Go.RowKit
theorem vested_hid {x : Pn} {t : Int} (w : World) (h : PnAt w x) (ho : PnOk x) (hr : PnR x) (ht : 0 ≤ t ∧ t < 18446744073709551616) (hc : ∃ a n c, x.pv = .slice a n c ∧ n ≤ c) :
    Hid (∀ X, Below w.heap.size w X → Calls Try.prog 14 #[pnV x, .int .u64 t] X fun e w' => ∃ a n c, e = .returned (.slice a n c) ∧ IsCoins w' (.slice a n c) (lst (vestP x t) 8) ∧ Below X.heap.size X w') := fun X hX => vested_any X (h.below hX) ho hr ht hc
theorem restC_gives {va vb : Value} {z y : Nat → Cn} (hz : Purse z) (hy : Purse y) (w : World) (hA : IsCoins w va (lst z 8)) (hB : IsCoins w vb (lst y 8)) :
    Calls Try.prog 42 #[va, vb] w fun e w' => ∃ a n c, e = .returned (.slice a n c) ∧ IsCoins w' (.slice a n c) (lst (opP restI z y) 8) ∧ Below w.heap.size w w' := by
  refine (restC_any hz hy w hA hB).mono ?_
  rintro e w' ⟨u, rfl, h1, h2⟩
  obtain ⟨a, c, rfl⟩ := h1.sl
  exact ⟨a, _, c, rfl, h1, h2⟩
theorem restK {va vb : Value} {z y : Nat → Cn} {w : World} {Q : Ending → World → Prop} (hz : Purse z) (hy : Purse y) (hA : IsCoins w va (lst z 8)) (hB : IsCoins w vb (lst y 8))
    (hQ : ∀ e w', (∃ a n c, e = .returned (.slice a n c) ∧ IsCoins w' (.slice a n c) (lst (opP restI z y) 8) ∧ Below w.heap.size w w') → Q e w') : Calls Try.prog 42 #[va, vb] w Q :=
  (restC_gives hz hy w hA hB).mono hQ
set_option maxRecDepth 20000 in
set_option maxHeartbeats 8000000 in
theorem locked_any {x : Pn} {t : Int} (w : World) (h : PnAt w x) (ho : PnOk x) (hr : PnR x) (ht : 0 ≤ t ∧ t < 18446744073709551616) (hc : ∃ a n c, x.pv = .slice a n c ∧ n ≤ c) :
    GivesI 15 #[pnV x, .int .u64 t] w (lst (lockP x t) 8) := by
  have hpad := pads
  unfold GivesI
  have hV := vested_hid w h ho hr ht hc
  have hA : Hid (∀ X, Below w.heap.size w X → IsCoins X x.av (lst (amP x.al) 8)) := fun X hX => al_coins (h.below hX) hr
  have hz : Hid (Purse (amP x.al)) := amP_purse ho.w.al
  have hy : Hid (Purse (vestP x t)) := vest_purse ho hr t
  have hlk : Hid (opP restI (amP x.al) (vestP x t) = lockP x t) := rfl
  generalize lockP x t = LK at *
  generalize vestP x t = VP at *
  obtain ⟨k, s, u, av, pv, al, pl⟩ := x
  obtain ⟨h1, h2⟩ := h
  simp only at h1 h2 hV hA hz hy hlk
  obtain ⟨a1, c1, rfl⟩ := h1.slice
  obtain ⟨a2, c2, rfl⟩ := h2.slice
  clear ho hr hc h1 h2
  show Calls Try.prog 15 #[.agg #[.int .u8 k, .int .u64 s, .int .u64 u, .slice a1 al.length c1, .slice a2 pl.length c2], .int .u64 t] w _
  have hV : Hid (∀ X, Below w.heap.size w X → Calls Try.prog 14 #[.agg #[.int .u8 k, .int .u64 s, .int .u64 u, .slice a1 al.length c1, .slice a2 pl.length c2], .int .u64 t] X fun e w' => ∃ a n c, e = .returned (.slice a n c) ∧ IsCoins w' (.slice a n c) (lst VP 8) ∧ Below X.heap.size X w') := hV
  have hb : Below w.heap.size w (w.alloc (.cells #[.int .u8 k, .int .u64 s, .int .u64 u, .slice a1 al.length c1, .slice a2 pl.length c2] 33)) := ba (Below.refl _ _) _
  have hkeep : Hid (∀ X, Below (w.alloc (.cells #[.int .u8 k, .int .u64 s, .int .u64 u, .slice a1 al.length c1, .slice a2 pl.length c2] 33)).heap.size (w.alloc (.cells #[.int .u8 k, .int .u64 s, .int .u64 u, .slice a1 al.length c1, .slice a2 pl.length c2] 33)) X → X.cell? ⟨w.heap.size, 0, none⟩ = some (.int .u8 k) ∧ X.cell? ⟨w.heap.size, 1, none⟩ = some (.int .u64 s) ∧ X.cell? ⟨w.heap.size, 2, none⟩ = some (.int .u64 u) ∧ X.cell? ⟨w.heap.size, 3, none⟩ = some (.slice a1 al.length c1) ∧ X.cell? ⟨w.heap.size, 4, none⟩ = some (.slice a2 pl.length c2)) := fun X hX => by
    have q1 := (hX.block w.heap.size (by simp)).trans (al_at rfl)
    exact ⟨(cells_of_block q1).1 0, (cells_of_block q1).1 1, (cells_of_block q1).1 2, (cells_of_block q1).1 3, (cells_of_block q1).1 4⟩
  go_enter Try.func15, Try.ntmps15
  go_upto_region 1 with fail
  generalize w.alloc (.cells #[.int .u8 k, .int .u64 s, .int .u64 u, .slice a1 al.length c1, .slice a2 pl.length c2] 33) = U at *
  have hbb : Hid (∀ X, Below U.heap.size U X → Below w.heap.size w X) := fun X hX => bt hb hX
  go_region_held2 (fun X => X.cell? ⟨w.heap.size, 0, none⟩ = some (.int .u8 k) ∧ X.cell? ⟨w.heap.size, 1, none⟩ = some (.int .u64 s) ∧ X.cell? ⟨w.heap.size, 2, none⟩ = some (.int .u64 u) ∧ X.cell? ⟨w.heap.size, 3, none⟩ = some (.slice a1 al.length c1) ∧ X.cell? ⟨w.heap.size, 4, none⟩ = some (.slice a2 pl.length c2)) (exact hkeep.out _ (by (repeat (first | (with_reducible exact Below.refl _ _) | (with_reducible assumption) | (with_reducible apply bd) | (with_reducible apply ba) | (with_reducible refine bp ?_ (by first | omega | (simp [pad_size]; done) | (simp [pad_size]; omega)) _ _) | (with_reducible refine bs ?_ (by first | omega | (simp [pad_size]; done) | (simp [pad_size]; omega)) _) | (with_reducible refine bt ?_ (by assumption)))))) (first
    | (go_at_call 14; refine (hV.out _ (hbb.out _ (by (repeat (first | (with_reducible exact Below.refl _ _) | (with_reducible assumption) | (with_reducible apply bd) | (with_reducible apply ba) | (with_reducible refine bp ?_ (by first | omega | (simp [pad_size]; done) | (simp [pad_size]; omega)) _ _) | (with_reducible refine bs ?_ (by first | omega | (simp [pad_size]; done) | (simp [pad_size]; omega)) _) | (with_reducible refine bt ?_ (by assumption))))))).mono ?_; rintro e w1 ⟨a, n, c, rfl, hI, hb⟩; obtain ⟨m1, g1, d1, hm1, rfl⟩ := pad_of hb; (try rw [hpad.2.2.2.2.2] at hI); have hI : Hid (IsCoins _ (.slice a n c) (lst VP 8)) := hI; clear hb; simp [pad_size] at hm1)
    | (go_at_call 42; refine restK hz.out hy.out ?_ ?_ ?_; exact hA.out _ (hbb.out _ (by (repeat (first | (with_reducible exact Below.refl _ _) | (with_reducible assumption) | (with_reducible apply bd) | (with_reducible apply ba) | (with_reducible refine bp ?_ (by first | omega | (simp [pad_size]; done) | (simp [pad_size]; omega)) _ _) | (with_reducible refine bs ?_ (by first | omega | (simp [pad_size]; done) | (simp [pad_size]; omega)) _) | (with_reducible refine bt ?_ (by assumption)))))); exact IsCoins.below hI.out (by (repeat (first | (with_reducible exact Below.refl _ _) | (with_reducible assumption) | (with_reducible apply bd) | (with_reducible apply ba) | (with_reducible refine bp ?_ (by first | omega | (simp [pad_size]; done) | (simp [pad_size]; omega)) _ _) | (with_reducible refine bs ?_ (by first | omega | (simp [pad_size]; done) | (simp [pad_size]; omega)) _) | (with_reducible refine bt ?_ (by assumption))))); rintro e w1 ⟨a', n', c', rfl, hJ, hb⟩; obtain ⟨m2, g2, d2, hm2, rfl⟩ := pad_of hb; rw [hlk.out] at hJ; (try rw [hpad.2.2.2.2.2] at hJ); have hJ : Hid (IsCoins _ (.slice a' n' c') (lst LK 8)) := hJ; clear hb; simp [pad_size] at hm2))
  all_goals go_wp2_with fail
  all_goals go_ret
  all_goals exact ⟨_, _, _, rfl, IsCoins.below hJ.out (by (repeat (first | (with_reducible exact Below.refl _ _) | (with_reducible assumption) | (with_reducible apply bd) | (with_reducible apply ba) | (with_reducible refine bp ?_ (by first | omega | (simp [pad_size]; done) | (simp [pad_size]; omega)) _ _) | (with_reducible refine bs ?_ (by first | omega | (simp [pad_size]; done) | (simp [pad_size]; omega)) _) | (with_reducible refine bt ?_ (by assumption))))), hbb.out _ (by (repeat (first | (with_reducible exact Below.refl _ _) | (with_reducible assumption) | (with_reducible apply bd) | (with_reducible apply ba) | (with_reducible refine bp ?_ (by first | omega | (simp [pad_size]; done) | (simp [pad_size]; omega)) _ _) | (with_reducible refine bs ?_ (by first | omega | (simp [pad_size]; done) | (simp [pad_size]; omega)) _) | (with_reducible refine bt ?_ (by assumption)))))⟩
end Go.Proofs.Ytjhjgncnadhbhaa
