
/- Several texts, one behind the other: G22, G23, G25, G26, PA, PL1, PL2, PO1, PO2. -/
import Derived.Test.YtafcianpajheiaaPQ3
import Derived.Deep.RegionHeld2
import Derived.Deep.CutRange
import Derived.Test.YtafcianpajheiaaU
import Derived.Test.YtafcianpajheiaaR
import Derived.Lib.SlBytesConst
/- jointurelaw04.lay. -/
set_option linter.unusedSimpArgs false
set_option linter.unusedVariables false
set_option maxRecDepth 20000
namespace Go.Proofs.Ytafcianpajheiaa
open Go.RowKit

/-- A writer and a list, apart from one another; nothing that was there at first has turned. -/
structure LO (w0 W : World) (b : Nat) (v u : Value) (p q : List Int) : Prop where
  wr : WrAt W b w0.heap.size v p
  row : W.ownsRow w0.heap.size 5 1 u q.length (encB q)
  apart : u.ownBlock = none ∨ u.ownBlock ≠ v.ownBlock
  below : Below w0.heap.size w0 W
  bb : w0.heap.size ≤ b
/-- A truth as a byte. -/
def flI (x : Bool) : Int := if x then 1 else 0
section
variable {w0 W : World} {b c : Nat} {cs : Array Value} {L : List Cn} {v u : Value} {p q : List Int} {ys : Option (Value × List Int)} {zs : List Value}
end

end Go.Proofs.Ytafcianpajheiaa

/- What was laid is read, and what is cut short is a fault: plain facts. -/
namespace Go.Proofs.Ytafcianpajheiaa
open Go.RowKit

theorem takeS_app (a r : List Int) : takeS (some (a ++ r)) a.length = (a, some r) := by simp [takeS]
theorem takeS_short {a : List Int} {n : Nat} (h : a.length < n) : takeS (some a) n = ([], none) := by simp [takeS]; omega
theorem byteS_app (x : Int) (r : List Int) : byteS (some (x :: r)) = (x, some r) := by
  have h := takeS_app [x] r
  unfold byteS
  simp only [List.length_cons, List.length_nil, List.cons_append, List.nil_append] at h
  rw [h]; simp [rd]
theorem byteS_nil : byteS (some []) = (0, none) := by
  unfold byteS; rw [takeS_short (by simp)]; rfl
theorem nS_none : nS none = (0, none) := by decide
theorem numS_be (n : Int) (k : Nat) (r : List Int) : (numS (some (be n k ++ r)) k).2 = some r := by
  have h := takeS_app (be n k) r
  rw [be_len] at h
  unfold numS; rw [h]
theorem numS_cut {a : List Int} {k : Nat} (h : a.length < k) : (numS (some a) k).2 = none := by unfold numS; rw [takeS_short h]
theorem flagS_app (b : Bool) (r : List Int) : (flagS (some (flI b :: r))).2 = some r := by
  unfold flagS; rw [byteS_app]; cases b <;> simp [flI]
theorem flagS_nil : (flagS (some [])).2 = none := by unfold flagS; rw [byteS_nil]; simp
theorem goodB_byL (n : Int) : goodB (byL n 32) = true := by
  have h := byL_good n 32
  have hl := byL_len n 32
  unfold goodB
  simp only [Bool.and_eq_true, decide_eq_true_eq, bne_iff_ne, ne_eq]
  refine ⟨hl, fun e => ?_⟩
  have := h.2 0 (by rw [List.head?_eq_getElem?]; exact e)
  omega
theorem nS_app {n : Int} (h0 : 0 ≤ n) (h1 : n < 115792089237316195423570985008687907853269984665640564039457584007913129639936) (r : List Int) : nS (some (layN n ++ r)) = (n, some r) := by
  unfold nS layN
  rw [List.cons_append, byteS_app]
  simp only [Int.toNat_natCast]
  rw [takeS_app, if_pos (goodB_byL n), rd_byL32 h0 h1]
theorem nS_cut {n : Int} {m : Nat} (h : m < (layN n).length) : nS (some ((layN n).take m)) = (0, none) ∨ (nS (some ((layN n).take m))).2 = none := by
  right
  cases m with
  | zero => simp only [List.take_zero]; unfold nS; rw [byteS_nil]; decide
  | succ m =>
    have hl : m < (byL n 32).length := by simp [layN] at h; omega
    unfold nS layN
    rw [List.take_succ_cons, byteS_app]
    simp only [Int.toNat_natCast]
    rw [takeS_short (by simp; omega)]
    simp [goodB]
theorem nS_cut2 {n : Int} {m : Nat} (h : m < (layN n).length) : (nS (some ((layN n).take m))).2 = none := by
  rcases nS_cut h with h | h
  · rw [h]
  · exact h
theorem cnI_vl {c : Cn} (h : CnWf c) : cnI c.d (vl c) = c := by
  obtain ⟨-, h⟩ := h
  obtain ⟨d, a, b, e, f⟩ := c
  unfold Lim at h
  simp only at h
  unfold cnI vl val
  simp only [Cn.mk.injEq, true_and]
  refine ⟨by omega, by omega, by omega, by omega⟩
theorem vl_lim {c : Cn} (h : CnWf c) : 0 ≤ vl c ∧ vl c < 115792089237316195423570985008687907853269984665640564039457584007913129639936 := ⟨val_lo h.2, val_hi h.2⟩
theorem cl_app : ∀ (L l : List Cn) (r : List Int), (∀ x ∈ L, CnWf x) → cl L.length l (some (layL L ++ r)) = (l ++ L, some r)
  | [], l, r, _ => by simp [cl, layL]
  | c :: L, l, r, h => by
    have hc := h c (by simp)
    rw [List.length_cons, layL_cons, List.append_assoc, layC, List.cons_append, cl, byteS_app, nS_app (vl_lim hc).1 (vl_lim hc).2]
    simp only
    rw [cl_app L _ r (fun x hx => h x (by simp [hx])), cnI_vl hc]
    simp
theorem cl_cut : ∀ (L l : List Cn) (m : Nat), (∀ x ∈ L, CnWf x) → m < (layL L).length → (cl L.length l (some ((layL L).take m))).2 = none
  | [], l, m, _, hm => by simp [layL] at hm
  | c :: L, l, m, h, hm => by
    have hc := h c (by simp)
    rw [List.length_cons, layL_cons, layC, List.cons_append]
    cases m with
    | zero =>
      rw [List.take_zero, cl, byteS_nil]
      simp only
      rw [nS_none]
      simp only
      rw [cl_none]
    | succ m =>
      rw [List.take_succ_cons, cl, byteS_app]
      simp only
      by_cases hh : m < (layN (vl c)).length
      · rw [List.take_append_of_le_length (by omega), nS_cut2 hh, cl_none]
      · obtain ⟨k, hk⟩ : ∃ k, m = (layN (vl c)).length + k := ⟨m - (layN (vl c)).length, by omega⟩
        rw [hk, List.take_length_add_append, nS_app (vl_lim hc).1 (vl_lim hc).2]
        simp only
        refine cl_cut L _ k (fun x hx => h x (by simp [hx])) ?_
        rw [layL_cons, List.length_append, layC, List.length_cons] at hm
        omega
theorem lst_rt {z : Nat → Cn} (hz : Purse z) : ∀ k, k ≤ 8 → RightP (lst z k)
  | 0, _ => by intro i x hi; simp [lst] at hi
  | k + 1, hk => by
    have ih := lst_rt hz k (by omega)
    intro i x hi
    simp only [lst] at hi ⊢
    by_cases hlt : i < (lst z k).length
    · rw [List.getElem?_append_left hlt] at hi
      obtain ⟨h1, h2, h3⟩ := ih i x hi
      refine ⟨h1, h2, fun j y hj hy => h3 j y hj ?_⟩
      rw [List.getElem?_append_left (by omega)] at hy
      exact hy
    · rw [List.getElem?_append_right (by omega)] at hi
      have hm : x ∈ oneL (z k) := List.mem_of_getElem? hi
      have hi0 : i - (lst z k).length = 0 := by
        have h1 : (oneL (z k)).length ≤ 1 := by unfold oneL; split <;> simp
        have h2 := (List.getElem?_eq_some_iff.1 hi).1
        omega
      unfold oneL at hm
      split at hm
      · simp at hm
      · rename_i hq
        rw [List.mem_singleton] at hm
        subst hm
        refine ⟨?_, by simpa using hq, fun j y hj hy => ?_⟩
        · rw [(hz k (by omega)).2]; omega
        · rw [List.getElem?_append_left (by omega)] at hy
          obtain ⟨e, he, rfl, -⟩ := lst_mem k y (List.mem_of_getElem? hy)
          rw [(hz e (by omega)).2, (hz k (by omega)).2]; omega
theorem lst_rf {z : Nat → Cn} (hz : Purse z) : rightFrom 0 (lst z 8) = true :=
  (rightFrom_iff _ 0).2 (fun i x hi => ⟨lst_rt hz 8 (Nat.le_refl _) i x hi, (lst_below hz x (List.mem_of_getElem? hi)).1⟩)
theorem coinsS_app {L : List Cn} (h : ∀ x ∈ L, CnWf x) (hr : rightFrom 0 L = true) (r : List Int) : (coinsS (some (((L.length : Int) :: layL L) ++ r))).2 = some r := by
  unfold coinsS
  rw [List.cons_append, byteS_app]
  simp only [Int.toNat_natCast]
  rw [cl_app L [] r h]
  simp [hr]
theorem coinsS_cut {L : List Cn} (h : ∀ x ∈ L, CnWf x) {m : Nat} (hm : m < ((L.length : Int) :: layL L).length) : (coinsS (some (((L.length : Int) :: layL L).take m))).2 = none := by
  cases m with
  | zero =>
    unfold coinsS
    rw [List.take_zero, byteS_nil]
    simp [cl]
  | succ m =>
    unfold coinsS
    rw [List.take_succ_cons, byteS_app]
    simp only [Int.toNat_natCast]
    rw [cl_cut L [] m h (by simp at hm; omega)]
    simp
/-- A part: its kind, its number, its coins (as they lie, and which they are). -/
structure Pt where
  k : Int
  x0 : Int
  x1 : Int
  x2 : Int
  x3 : Int
  a : Option Addr
  n : Nat
  cap : Nat
  L : List Cn
def layP (y : Pt) : List Int :=
  if y.k % 6 = 0 then [y.x0 % 256] else if y.k % 6 = 1 then [flI (y.x0.tmod 2 == 1)] else if y.k % 6 = 2 then be (y.x0 % 65536) 2 else if y.k % 6 = 3 then be y.x0 8 else if y.k % 6 = 4 then layN (val y.x0 y.x1 y.x2 y.x3)
  else ((lst (ofP y.L) 8).length : Int) :: layL (lst (ofP y.L) 8)
def Ok (y : Pt) : Prop := (0 ≤ y.k ∧ y.k ≤ 255) ∧ Lim y.x0 y.x1 y.x2 y.x3 ∧ ∀ x ∈ y.L, CnWf x
theorem layP_read {y : Pt} (h : Ok y) (r : List Int) : rdS (some (layP y ++ r)) (coinsS (some (layP y ++ r))).2 (y.k % 6) = some r := by
  obtain ⟨hk, hx, hL⟩ := h
  have hp := purse_of y.L (fun x hx => (hL x hx).2)
  unfold rdS layP
  rcases (show y.k % 6 = 0 ∨ y.k % 6 = 1 ∨ y.k % 6 = 2 ∨ y.k % 6 = 3 ∨ y.k % 6 = 4 ∨ y.k % 6 = 5 by omega) with e | e | e | e | e | e <;> rw [e]
  · simp only [if_true, List.cons_append, List.nil_append, byteS_app]
  · simp only [if_true, List.cons_append, List.nil_append]; simp; exact flagS_app _ _
  · simp [numS_be]
  · simp [numS_be]
  · simp [nS_app (val_lo hx) (val_hi hx)]
  · simp only [show ¬ (5 : Int) = 0 by omega, show ¬ (5 : Int) = 1 by omega, show ¬ (5 : Int) = 2 by omega, show ¬ (5 : Int) = 3 by omega, show ¬ (5 : Int) = 4 by omega, if_false]
    exact coinsS_app (lst_wf hp) (lst_rf hp) r
theorem layP_cut {y : Pt} (h : Ok y) {m : Nat} (hm : m < (layP y).length) : rdS (some ((layP y).take m)) (coinsS (some ((layP y).take m))).2 (y.k % 6) = none := by
  obtain ⟨hk, hx, hL⟩ := h
  have hp := purse_of y.L (fun x hx => (hL x hx).2)
  unfold rdS layP at *
  rcases (show y.k % 6 = 0 ∨ y.k % 6 = 1 ∨ y.k % 6 = 2 ∨ y.k % 6 = 3 ∨ y.k % 6 = 4 ∨ y.k % 6 = 5 by omega) with e | e | e | e | e | e <;> rw [e] at hm ⊢
  · obtain rfl : m = 0 := by simpa using hm
    simp only [if_true, List.take_zero, byteS_nil]
  · obtain rfl : m = 0 := by simpa using hm
    simp only [List.take_zero, flagS_nil]; simp
  · simp only [show ¬ (2 : Int) = 0 by omega, show ¬ (2 : Int) = 1 by omega, if_false, if_true] at hm ⊢
    rw [be_len] at hm
    exact numS_cut (by rw [List.length_take]; omega)
  · simp only [show ¬ (3 : Int) = 0 by omega, show ¬ (3 : Int) = 1 by omega, show ¬ (3 : Int) = 2 by omega, if_false, if_true] at hm ⊢
    rw [be_len] at hm
    exact numS_cut (by rw [List.length_take]; omega)
  · simp only [show ¬ (4 : Int) = 0 by omega, show ¬ (4 : Int) = 1 by omega, show ¬ (4 : Int) = 2 by omega, show ¬ (4 : Int) = 3 by omega, if_false, if_true] at hm ⊢
    exact nS_cut2 hm
  · simp only [show ¬ (5 : Int) = 0 by omega, show ¬ (5 : Int) = 1 by omega, show ¬ (5 : Int) = 2 by omega, show ¬ (5 : Int) = 3 by omega, show ¬ (5 : Int) = 4 by omega, if_false] at hm ⊢
    exact coinsS_cut (lst_wf hp) hm
theorem layP_len (y : Pt) : (layP y).length ≤ 300 ∧ 0 < (layP y).length := by
  unfold layP
  have h1 := layN_len (val y.x0 y.x1 y.x2 y.x3)
  have h2 := layL_len (lst (ofP y.L) 8)
  have h3 := lst_len (ofP y.L) 8
  have h4 : 0 < (layN (val y.x0 y.x1 y.x2 y.x3)).length := by simp [layN]
  split
  · simp
  · split
    · simp
    · split
      · rw [be_len]; omega
      · split
        · rw [be_len]; omega
        · split
          · omega
          · rw [List.length_cons]; omega
def layA (l : List Pt) : List Int := l.flatMap layP
theorem layA_cons (y : Pt) (l : List Pt) : layA (y :: l) = layP y ++ layA l := rfl
theorem layA_len (l : List Pt) : (layA l).length ≤ 300 * l.length := by
  induction l with
  | nil => simp [layA]
  | cons y l ih => have := layP_len y; rw [layA_cons, List.length_append, List.length_cons]; omega
theorem layA_pos {l : List Pt} (h : l ≠ []) : 0 < (layA l).length := by
  match l, h with
  | y :: l, _ => have := layP_len y; rw [layA_cons, List.length_append]; omega
/-- What is left of bytes that were cut short, behind some parts: a fault, or some that aren't all. -/
def Cutd (s : Option (List Int)) (l : List Pt) : Prop := s = none ∨ ∃ m, m < (layA l).length ∧ s = some ((layA l).take m)
theorem cut_step {s : Option (List Int)} {y : Pt} {l : List Pt} (hy : Ok y) (h : Cutd s (y :: l)) : Cutd (rdS s (coinsS s).2 (y.k % 6)) l := by
  rcases h with rfl | ⟨m, hm, rfl⟩
  · left
    have e : (coinsS none).2 = none := by decide
    rw [e]; exact rdS_none _
  · rw [layA_cons] at hm ⊢
    by_cases hh : m < (layP y).length
    · left
      rw [List.take_append_of_le_length (by omega)]
      exact layP_cut hy hh
    · right
      obtain ⟨k, hk⟩ : ∃ k, m = (layP y).length + k := ⟨m - (layP y).length, by omega⟩
      refine ⟨k, by rw [List.length_append] at hm; omega, ?_⟩
      rw [hk, List.take_length_add_append]
      exact layP_read hy _
end Go.Proofs.Ytafcianpajheiaa

/- Writer.Coins of any coins that are not the writer's. -/
namespace Go.Proofs.Ytafcianpajheiaa
open Go.RowKit

set_option maxRecDepth 10000 in
set_option maxHeartbeats 4000000 in
theorem wCoinsI_any {W : World} {b base : Nat} {v u : Value} {p : List Int} {L : List Cn} (hW : WrAt W b base v p) (hbase : base ≤ W.heap.size) (hwf : ∀ x ∈ L, CnWf x) (hLn : L.length ≤ 255) (hl : p.length + 9000 ≤ 1048576) (hu : IsCoins W u L) (hub : L ≠ [] → u.ownBlock ≠ some b) (huv : L ≠ [] → u.ownBlock = none ∨ u.ownBlock ≠ v.ownBlock) :
    Calls Try.prog 37 #[.pointer (some ⟨b, 0, none⟩), u] W fun e w' => e = .returned (.pointer (some ⟨b, 0, none⟩)) ∧ ∃ v', WrAt w' b base v' (p ++ ((L.length : Int) :: layL L)) ∧ WF W w' b v v' := by
  have hbl := hW.lt
  have hw8 : IntKind.u8.wrap (L.length : Int) = (L.length : Int) := by rw [IntKind.wrap_u8]; omega
  obtain ⟨au, cu, rfl⟩ : ∃ a c, u = .slice a L.length c := by
    rcases hu with ⟨rfl, a, cap, rfl⟩ | ⟨blk, off, cap, hv, -⟩
    · exact ⟨a, cap, rfl⟩
    · exact ⟨_, _, hv⟩
  have hLn' : (L.length : Int) ≤ 255 := by omega
  go_enter Try.func37, Try.ntmps37
  go_wp2_with (go_at_call 56; refine (wByte_any (L.length : Int) hW hbase (by omega)).mono ?_; rintro e w1 ⟨rfl, v1, hW1, hF1⟩)
  go_loopw [14] (fun i X => ∃ (k : Nat) (vk : Value), k ≤ L.length ∧ i = .int .i64 (k : Int) ∧ WrAt X b base vk (p ++ ((L.length : Int) :: layL (L.take k))) ∧ WF W X b v vk) (fun i _ => L.length - (intOf i).toNat)
  case atStart => exact ⟨0, v1, by omega, rfl, hW1, hF1⟩
  case round =>
    clear hW1 hF1
    obtain ⟨k, vk, hk, rfl, hWk, hFk⟩ := hrel
    by_cases hlt : k < L.length
    · have hsz := hFk.size
      rcases hu with ⟨e, -⟩ | ⟨g, off, cap, hv, -, -, hgl, hall0⟩
      · subst e; simp at hlt
      · simp at hv
        obtain ⟨rfl, rfl⟩ := hv
        have hLne : L ≠ [] := fun e => by subst e; simp at hlt
        have hgb : wr.heap[g]? = W.heap[g]? := hFk.block g hgl (fun e => hub hLne (by rw [e]; rfl)) (fun e => by
          rcases huv hLne with h | h
          · cases h
          · exact h e)
        have hall : ∀ i x, L[i]? = some x → CnAt wr g (off + i * 5) x := fun i x hi => by
          obtain ⟨h0, h1, h2, h3, h4⟩ := hall0 i x hi
          exact ⟨(World.cell?_of_block (a := ⟨g, _, none⟩) hgb).trans h0, (World.cell?_of_block (a := ⟨g, _, none⟩) hgb).trans h1, (World.cell?_of_block (a := ⟨g, _, none⟩) hgb).trans h2, (World.cell?_of_block (a := ⟨g, _, none⟩) hgb).trans h3, (World.cell?_of_block (a := ⟨g, _, none⟩) hgb).trans h4⟩
        have hgw : g < wr.heap.size := by omega
        obtain ⟨k0, k1, k2, k3, k4⟩ := hall k L[k] (by simp [hlt])
        have hxw := hwf L[k] (List.getElem_mem hlt)
        have htk : layL (L.take (k + 1)) = layL (L.take k) ++ layC L[k] := by rw [List.take_succ_eq_append_getElem hlt, layL_snoc]
        have hln := layL_len (L.take k)
        have hlk : (L.take k).length ≤ 255 := by simp; omega
        generalize hxx : L[k] = x at *
        obtain ⟨xd, xa, xb, xc, xe⟩ := x
        have hlt' : (k : Int) < (L.length : Int) := by omega
        have hgA : wr.grownBy (wr.alloc (.cells #[.int .u8 xd, .int .u64 xa, .int .u64 xb, .int .u64 xc, .int .u64 xe] 103)).drew none := grown_dr (World.grownBy_alloc wr _ none)
        have hWa := hWk.kept hgA (by simp) (by cases vk.ownBlock <;> simp)
        have hbk := hWk.lt
        have hne : some wr.heap.size ≠ vk.ownBlock := fun e => by have := (hWk.2.lt _ e.symm).2; omega
        have htk' : Hid _ := htk
        clear hall hall0 hwf htk hxx hgb
        have hlp : (p ++ ((L.length : Int) :: layL (L.take k))).length ≤ p.length + 1 + 34 * 255 := by rw [List.length_append, List.length_cons]; omega
        go_wp2
        go_region_held2 (fun Y => Y.cell? ⟨wr.heap.size, 0, none⟩ = some (.int .u8 xd) ∧ Y.cell? ⟨wr.heap.size, 1, none⟩ = some (.int .u64 xa) ∧ Y.cell? ⟨wr.heap.size, 2, none⟩ = some (.int .u64 xb) ∧ Y.cell? ⟨wr.heap.size, 3, none⟩ = some (.int .u64 xc) ∧ Y.cell? ⟨wr.heap.size, 4, none⟩ = some (.int .u64 xe)) (go_simp) (first
          | (go_at_call 56; refine (wByte_any xd hWa (Nat.le_trans (show base ≤ wr.heap.size by omega) hgA.size) (by omega)).mono ?_; rintro e w2 ⟨rfl, v2, hW2, hF2⟩; have q2 := (hF2.block wr.heap.size (by show wr.heap.size < (wr.alloc _).heap.size; simp) (by omega) hne).trans (show (wr.alloc _).heap[wr.heap.size]? = _ from al_at rfl); obtain ⟨c2, f2⟩ := cells_of_block q2)
          | (go_at_call 36; refine (wNum_any xa xb xc xe hxw.2 hW2 (Nat.le_trans (show base ≤ wr.heap.size by omega) (Nat.le_trans hgA.size hF2.size)) (by rw [List.length_append]; simp only [List.length_cons, List.length_nil]; omega)).mono ?_; rintro e w3 ⟨rfl, v3, hW3, hF3⟩; obtain ⟨c3, f3⟩ := cells_of_block ((hF3.block wr.heap.size (Array.getElem?_eq_some_iff.1 q2).1 (by omega) (hF2.own_ne (by show wr.heap.size < (wr.alloc _).heap.size; simp) hne)).trans q2)))
        all_goals go_wp2
        all_goals go_roundw
        case rel =>
          refine ⟨k + 1, v3, by omega, by go_num, ?_, hFk.trans (WF.pre hgA (hF2.trans hF3))⟩
          rw [htk'.out]
          have e : p ++ ((L.length : Int) :: layL (L.take k)) ++ [xd] ++ (((byL (val xa xb xc xe) 32).length : Int) :: byL (val xa xb xc xe) 32) = p ++ ((L.length : Int) :: (layL (L.take k) ++ layC ⟨xd, xa, xb, xc, xe⟩)) := by
            simp [layC, layN, vl]
          rw [e] at hW3
          exact hW3
        case measure => (simp [intOf]; omega)
    · obtain rfl : k = L.length := by omega
      rw [List.take_length] at hWk
      go_wp2
      go_ret
      exact ⟨rfl, vk, hWk, hFk⟩
end Go.Proofs.Ytafcianpajheiaa

/- plan.Lay of a plan without periods. -/
namespace Go.Proofs.Ytafcianpajheiaa
open Go.RowKit

/-- Coins that are not the writer's are what they were behind a writer's step, and still not its own. -/
theorem coins_wf {W X : World} {b : Nat} {v v' u : Value} {L : List Cn} (hI : IsCoins W u L) (hlt : ∀ g, u.ownBlock = some g → g < W.heap.size) (hub : u.ownBlock ≠ some b) (huv : u.ownBlock = none ∨ u.ownBlock ≠ v.ownBlock) (hF : WF W X b v v') : IsCoins X u L ∧ (u.ownBlock = none ∨ u.ownBlock ≠ v'.ownBlock) := by
  have hne : ∀ g, u.ownBlock = some g → some g ≠ v.ownBlock := fun g hg e => by
    rcases huv with h | h
    · rw [h] at hg; cases hg
    · exact h (hg.trans e)
  constructor
  · rcases hI with h | ⟨blk, off, cap, hv, h1, h2, hbl, hall⟩
    · exact .inl h
    · have hg : u.ownBlock = some blk := by rw [hv]; rfl
      have hgb : X.heap[blk]? = W.heap[blk]? := hF.block blk hbl (fun e => hub (by rw [hg, e])) (hne blk hg)
      refine .inr ⟨blk, off, cap, hv, h1, h2, Nat.lt_of_lt_of_le hbl hF.size, fun i x hi => ?_⟩
      obtain ⟨h0, h1, h2, h3, h4⟩ := hall i x hi
      exact ⟨(World.cell?_of_block (a := ⟨blk, _, none⟩) hgb).trans h0, (World.cell?_of_block (a := ⟨blk, _, none⟩) hgb).trans h1, (World.cell?_of_block (a := ⟨blk, _, none⟩) hgb).trans h2, (World.cell?_of_block (a := ⟨blk, _, none⟩) hgb).trans h3, (World.cell?_of_block (a := ⟨blk, _, none⟩) hgb).trans h4⟩
  · cases hu : u.ownBlock with
    | none => exact .inl rfl
    | some g =>
      right
      exact hF.own_ne (hlt g hu) (hne g hu)
theorem WF.grow0 {W : World} {b : Nat} {v : Value} (o : Obj) : W.grownBy (W.alloc o).drew none := grown_dr (World.grownBy_alloc W o none)
end Go.Proofs.Ytafcianpajheiaa

/- Two lists of coins held against each other, coin by coin: the document's Same, and slices.Equal. -/
namespace Go.Proofs.Ytafcianpajheiaa
open Go.RowKit

def cnB (x y : Cn) : Bool := x.d == y.d && eq4 x.a x.b x.c x.e y.a y.b y.c y.e
def clB : List Cn → List Cn → Bool
  | [], [] => true
  | x :: p, y :: q => cnB x y && clB p q
  | _, _ => false
theorem cnB_true {x y : Cn} : cnB x y = true ↔ x = y := by
  obtain ⟨d, a, b, c, e⟩ := x
  obtain ⟨d', a', b', c', e'⟩ := y
  simp only [cnB, Bool.and_eq_true, beq_iff_eq, eq4_true, Cn.mk.injEq]
theorem clB_true : ∀ {p q : List Cn}, clB p q = true ↔ p = q
  | [], [] => by simp [clB]
  | [], _ :: _ => by simp [clB]
  | _ :: _, [] => by simp [clB]
  | x :: p, y :: q => by simp [clB, cnB_true, clB_true (p := p) (q := q)]
theorem clB_self (p : List Cn) : clB p p = true := clB_true.2 rfl
theorem clB_len {p q : List Cn} (h : p.length ≠ q.length) : clB p q = false := by
  rcases Bool.eq_false_or_eq_true (clB p q) with e | e
  · exact absurd (congrArg List.length (clB_true.1 e)) h
  · exact e
theorem clB_cons {p q : List Cn} {k : Nat} (hp : k < p.length) (hq : k < q.length) : clB (p.drop k) (q.drop k) = (cnB p[k] q[k] && clB (p.drop (k + 1)) (q.drop (k + 1))) := by
  rw [List.drop_eq_getElem_cons hp, List.drop_eq_getElem_cons hq]; rfl
set_option maxHeartbeats 4000000 in
theorem sameCL_some (g h o u c d : Nat) (p q : List Cn) (hlen : p.length ≤ 9223372036854775807) (hpq : p.length = q.length) (w : World) (hg : g < w.heap.size) (hh : h < w.heap.size)
    (hp : ∀ i x, p[i]? = some x → CnAt w g (o + i * 5) x) (hq : ∀ i x, q[i]? = some x → CnAt w h (u + i * 5) x) :
    Calls Try.prog 29 #[.slice (some ⟨g, o, none⟩) p.length c, .slice (some ⟨h, u, none⟩) p.length d] w fun e w' => e = .returned (.bool (clB p q)) ∧ Below w.heap.size w w' := by
  have hpad := pads
  have heq := eq_coin
  have hpq' : Hid _ := hpq
  clear hpq
  go_enter Try.func29, Try.ntmps29
  go_wp2
  go_loopw [5] (fun i wr => ∃ (k m : Nat) (f : Nat → Obj) (dr : Nat), k ≤ p.length ∧ i = .int .i64 k ∧ w.heap.size ≤ m ∧ wr = pad w m f dr ∧ Hid (clB p q = clB (p.drop k) (q.drop k))) (fun i _ => p.length - (intOf i).toNat)
  case atStart =>
    obtain ⟨m, f, dr, hm, e⟩ := pad_of (Below.refl w.heap.size w)
    exact ⟨0, m, f, dr, Nat.zero_le _, rfl, hm, e, by unfold Hid; simp⟩
  case round =>
    obtain ⟨k, m, f, dr, hk, rfl, hm, rfl, hc⟩ := hrel
    by_cases hkl : k < p.length
    · have hkq : k < q.length := by have := hpq'.out; omega
      obtain ⟨a0, a1, a2, a3, a4⟩ := hp k p[k] (by simp [hkl])
      obtain ⟨b0, b1, b2, b3, b4⟩ := hq k q[k] (by simp [hkq])
      have hgm : g < m := by omega
      have hhm : h < m := by omega
      have hkl' : (k : Int) < (p.length : Int) := by omega
      have hc2 : Hid (clB p q = (cnB p[k] q[k] && clB (p.drop (k + 1)) (q.drop (k + 1)))) := by unfold Hid; rw [hc.out, clB_cons hkl hkq]
      generalize p[k] = x at *
      generalize q[k] = y at *
      clear hp hq hc
      cases hb : cnB x y
      · have hb1 : (x.d == y.d && eq4 x.a x.b x.c x.e y.a y.b y.c y.e) = false := hb
        rw [hb] at hc2
        have hc3 : Hid (clB p q = false) := by unfold Hid; rw [hc2.out]; rfl
        clear hb hc2
        go_wp2
        go_region
        all_goals go_wp2
        all_goals go_ret
        all_goals exact ⟨congrArg (fun b => Ending.returned (.bool b)) hc3.out.symm, by (repeat (first | (with_reducible exact Below.refl _ _) | (with_reducible assumption) | (with_reducible apply bd) | (with_reducible apply ba) | (with_reducible refine bp ?_ (by first | omega | (simp [pad_size]; done) | (simp [pad_size]; omega)) _ _) | (with_reducible refine bs ?_ (by first | omega | (simp [pad_size]; done) | (simp [pad_size]; omega)) _) | (with_reducible refine bt ?_ (by assumption))))⟩
      · have hb1 : (x.d == y.d && eq4 x.a x.b x.c x.e y.a y.b y.c y.e) = true := hb
        rw [hb] at hc2
        have hc3 : Hid (clB p q = clB (p.drop (k + 1)) (q.drop (k + 1))) := by unfold Hid; rw [hc2.out]; rfl
        clear hb hc2
        go_wp2
        go_region
        all_goals go_wp2
        all_goals go_roundw
        case rel => exact ⟨k + 1, m, f, dr + 1, by omega, by go_num, hm, by first | rfl | (simp [hpad]; done), hc3⟩
        case measure => (simp [intOf] <;> omega)
    · have hk' : k = p.length := by omega
      subst hk'
      have hc3 : Hid (clB p q = true) := by unfold Hid; rw [hc.out, List.drop_length, List.drop_of_length_le (by have := hpq'.out; omega)]; rfl
      clear hc
      go_wp2
      go_ret
      exact ⟨congrArg (fun b => Ending.returned (.bool b)) hc3.out.symm, by (repeat (first | (with_reducible exact Below.refl _ _) | (with_reducible assumption) | (with_reducible apply bd) | (with_reducible apply ba) | (with_reducible refine bp ?_ (by first | omega | (simp [pad_size]; done) | (simp [pad_size]; omega)) _ _) | (with_reducible refine bs ?_ (by first | omega | (simp [pad_size]; done) | (simp [pad_size]; omega)) _) | (with_reducible refine bt ?_ (by assumption))))⟩
set_option maxHeartbeats 1000000 in
theorem sameCL_nil (a b : Option Addr) (c d : Nat) (w : World) :
    Calls Try.prog 29 #[.slice a 0 c, .slice b 0 d] w fun e w' => e = .returned (.bool true) ∧ Below w.heap.size w w' := by
  go_enter Try.func29, Try.ntmps29
  go_wp2
  apply wp_loop_rounds 1
  simp only [Code.rounds]
  go_wp2
  go_ret
  exact ⟨rfl, by (repeat (first | (with_reducible exact Below.refl _ _) | (with_reducible assumption) | (with_reducible apply bd) | (with_reducible apply ba) | (with_reducible refine bp ?_ (by first | omega | (simp [pad_size]; done) | (simp [pad_size]; omega)) _ _) | (with_reducible refine bs ?_ (by first | omega | (simp [pad_size]; done) | (simp [pad_size]; omega)) _) | (with_reducible refine bt ?_ (by assumption))))⟩
set_option maxHeartbeats 1000000 in
theorem sameCL_len (a b : Option Addr) (m n c d : Nat) (h : m ≠ n) (w : World) :
    Calls Try.prog 29 #[.slice a m c, .slice b n d] w fun e w' => e = .returned (.bool false) ∧ Below w.heap.size w w' := by
  have h' : ¬ (m : Int) = (n : Int) := by omega
  go_enter Try.func29, Try.ntmps29
  go_wp2
  go_ret
  exact ⟨rfl, by (repeat (first | (with_reducible exact Below.refl _ _) | (with_reducible assumption) | (with_reducible apply bd) | (with_reducible apply ba) | (with_reducible refine bp ?_ (by first | omega | (simp [pad_size]; done) | (simp [pad_size]; omega)) _ _) | (with_reducible refine bs ?_ (by first | omega | (simp [pad_size]; done) | (simp [pad_size]; omega)) _) | (with_reducible refine bt ?_ (by assumption))))⟩
/-- A slice's value that is a list of coins in a world, however long. -/
def IsCL (W : World) (v : Value) (l : List Cn) : Prop :=
  (l = [] ∧ ∃ a cap, v = .slice a 0 cap) ∨ ∃ blk off cap, v = .slice (some ⟨blk, off, none⟩) l.length cap ∧ l ≠ [] ∧ l.length ≤ 9223372036854775807 ∧ blk < W.heap.size ∧ ∀ i x, l[i]? = some x → CnAt W blk (off + i * 5) x
theorem IsCL.below {W W' : World} {v : Value} {l : List Cn} (h : IsCL W v l) (hb : Below W.heap.size W W') : IsCL W' v l := by
  rcases h with h | ⟨blk, off, cap, hv, hne, hlen, hlt, hall⟩
  · exact .inl h
  · refine .inr ⟨blk, off, cap, hv, hne, hlen, Nat.lt_of_lt_of_le hlt hb.size, fun i x hi => ?_⟩
    obtain ⟨h0, h1, h2, h3, h4⟩ := hall i x hi
    exact ⟨(hb.cell (p := ⟨blk, _, none⟩) hlt).trans h0, (hb.cell (p := ⟨blk, _, none⟩) hlt).trans h1, (hb.cell (p := ⟨blk, _, none⟩) hlt).trans h2, (hb.cell (p := ⟨blk, _, none⟩) hlt).trans h3, (hb.cell (p := ⟨blk, _, none⟩) hlt).trans h4⟩
theorem IsCoins.cl {W : World} {v : Value} {l : List Cn} (h : IsCoins W v l) : IsCL W v l := by
  rcases h with h | ⟨blk, off, cap, hv, hne, hlen, r⟩
  · exact .inl h
  · exact .inr ⟨blk, off, cap, hv, hne, by omega, r⟩
theorem IsCL.slice {W : World} {v : Value} {l : List Cn} (h : IsCL W v l) : ∃ a cap, v = .slice a l.length cap := by
  rcases h with ⟨rfl, a, cap, rfl⟩ | ⟨blk, off, cap, hv, _⟩
  · exact ⟨a, cap, rfl⟩
  · exact ⟨_, _, hv⟩
theorem sameCL_any {va vb : Value} {p q : List Cn} (w : World) (hA : IsCL w va p) (hB : IsCL w vb q) :
    Calls Try.prog 29 #[va, vb] w fun e w' => e = .returned (.bool (clB p q)) ∧ Below w.heap.size w w' := by
  by_cases hl : p.length = q.length
  · rcases hA with ⟨rfl, a, c, rfl⟩ | ⟨g, o, c, rfl, h0, h1, h2, h3⟩
    · obtain ⟨b, d, rfl⟩ := hB.slice
      obtain rfl : q = [] := List.eq_nil_of_length_eq_zero hl.symm
      exact sameCL_nil a b c d w
    · rcases hB with ⟨rfl, b, d, rfl⟩ | ⟨h, u, d, rfl, k0, k1, k2, k3⟩
      · exact absurd (List.eq_nil_of_length_eq_zero hl) h0
      · rw [← hl]
        exact sameCL_some g h o u c d p q h1 hl w h2 k2 h3 k3
  · obtain ⟨a, c, rfl⟩ := hA.slice
    obtain ⟨b, d, rfl⟩ := hB.slice
    rw [clB_len hl]
    exact sameCL_len a b _ _ c d hl w
end Go.Proofs.Ytafcianpajheiaa

/- Periods and plans held against each other: plan.Same. -/
namespace Go.Proofs.Ytafcianpajheiaa
open Go.RowKit

/-- A period: its length, its coins as they lie, what they are. -/
structure Pd where
  n : Int
  v : Value
  l : List Cn
def PdAt (W : World) (blk o : Nat) (x : Pd) : Prop := W.cell? ⟨blk, o, none⟩ = some (.int .u64 x.n) ∧ W.cell? ⟨blk, o + 1, none⟩ = some x.v ∧ IsCL W x.v x.l
/-- A slice's value that is a list of periods in a world. -/
def IsPds (W : World) (v : Value) (l : List Pd) : Prop :=
  (l = [] ∧ ∃ a cap, v = .slice a 0 cap) ∨ ∃ blk off cap, v = .slice (some ⟨blk, off, none⟩) l.length cap ∧ l ≠ [] ∧ l.length ≤ 9223372036854775807 ∧ blk < W.heap.size ∧ ∀ i x, l[i]? = some x → PdAt W blk (off + i * 2) x
theorem PdAt.below {W W' : World} {blk o : Nat} {x : Pd} (h : PdAt W blk o x) (hlt : blk < W.heap.size) (hb : Below W.heap.size W W') : PdAt W' blk o x :=
  ⟨(hb.cell (p := ⟨blk, _, none⟩) hlt).trans h.1, (hb.cell (p := ⟨blk, _, none⟩) hlt).trans h.2.1, h.2.2.below hb⟩
theorem IsPds.below {W W' : World} {v : Value} {l : List Pd} (h : IsPds W v l) (hb : Below W.heap.size W W') : IsPds W' v l := by
  rcases h with h | ⟨blk, off, cap, hv, hne, hlen, hlt, hall⟩
  · exact .inl h
  · exact .inr ⟨blk, off, cap, hv, hne, hlen, Nat.lt_of_lt_of_le hlt hb.size, fun i x hi => (hall i x hi).below hlt hb⟩
theorem IsPds.slice {W : World} {v : Value} {l : List Pd} (h : IsPds W v l) : ∃ a cap, v = .slice a l.length cap := by
  rcases h with ⟨rfl, a, cap, rfl⟩ | ⟨blk, off, cap, hv, _⟩
  · exact ⟨a, cap, rfl⟩
  · exact ⟨_, _, hv⟩
def pdB (x y : Pd) : Bool := x.n == y.n && clB x.l y.l
def plB : List Pd → List Pd → Bool
  | [], [] => true
  | x :: p, y :: q => pdB x y && plB p q
  | _, _ => false
theorem plB_len : ∀ {p q : List Pd}, p.length ≠ q.length → plB p q = false
  | [], [], h => absurd rfl h
  | [], _ :: _, _ => rfl
  | _ :: _, [], _ => rfl
  | x :: p, y :: q, h => by simp [plB, plB_len (p := p) (q := q) (by simpa using h)]
theorem plB_self : ∀ p : List Pd, plB p p = true
  | [] => rfl
  | x :: p => by simp [plB, pdB, clB_self, plB_self p]
theorem plB_cons {p q : List Pd} {k : Nat} (hp : k < p.length) (hq : k < q.length) : plB (p.drop k) (q.drop k) = (pdB p[k] q[k] && plB (p.drop (k + 1)) (q.drop (k + 1))) := by
  rw [List.drop_eq_getElem_cons hp, List.drop_eq_getElem_cons hq]; rfl
/-- A plan: its kind, when it begins and ends, its coins and periods as they lie, what they are. -/
structure Pn where
  k : Int
  s : Int
  e : Int
  av : Value
  pv : Value
  al : List Cn
  pl : List Pd
def pnV (x : Pn) : Value := .agg #[.int .u8 x.k, .int .u64 x.s, .int .u64 x.e, x.av, x.pv]
def PnAt (W : World) (x : Pn) : Prop := IsCL W x.av x.al ∧ IsPds W x.pv x.pl
theorem PnAt.below {W W' : World} {x : Pn} (h : PnAt W x) (hb : Below W.heap.size W W') : PnAt W' x := ⟨h.1.below hb, h.2.below hb⟩
def pnB (x y : Pn) : Bool := x.k == y.k && x.s == y.s && x.e == y.e && clB x.al y.al && plB x.pl y.pl
theorem pnB_self (x : Pn) : pnB x x = true := by simp [pnB, clB_self, plB_self]
end Go.Proofs.Ytafcianpajheiaa

/- plan's some and gives; Right of a plan without periods. -/
namespace Go.Proofs.Ytafcianpajheiaa
open Go.RowKit

theorem rightCL_any {v : Value} {l : List Cn} (w : World) (h : IsCL w v l) (hwf : ∀ x ∈ l, CnWf x) :
    Calls Try.prog 33 #[v] w fun e w' => e = .returned (.bool (rightFrom 0 l)) ∧ Below w.heap.size w w' := by
  rcases h with ⟨rfl, a, cap, rfl⟩ | ⟨blk, off, cap, rfl, _, hlen, hlt, hall⟩
  · exact right_none a cap w
  · exact right_some blk off cap l w hlen hlt hall hwf
theorem rightRCL_any {v : Value} {l : List Cn} (w : World) (h : IsCL w v l) (hwf : ∀ x ∈ l, CnWf x) :
    Calls Try.prog 47 #[v] w fun e w' => e = .returned (.bool (rightFrom 0 l)) ∧ Below w.heap.size w w' := by
  rcases h with ⟨rfl, a, cap, rfl⟩ | ⟨blk, off, cap, rfl, _, hlen, hlt, hall⟩
  · exact rightR_none a cap w
  · exact rightR_some blk off cap l w hlen hlt hall hwf
theorem IsCL.len {W : World} {v : Value} {l : List Cn} (h : IsCL W v l) : l.length ≤ 9223372036854775807 := by
  rcases h with ⟨rfl, -⟩ | ⟨_, _, _, _, _, h, _⟩
  · simp
  · exact h
theorem IsPds.len {W : World} {v : Value} {l : List Pd} (h : IsPds W v l) : l.length ≤ 9223372036854775807 := by
  rcases h with ⟨rfl, -⟩ | ⟨_, _, _, _, _, h, _⟩
  · simp
  · exact h
/-- Coins that may be, and not none. -/
def someB (l : List Cn) : Bool := !l.isEmpty && rightFrom 0 l
/-- A plan whose parts are what they may be, but for whether it may be. -/
structure PnWf (x : Pn) : Prop where
  k : 0 ≤ x.k ∧ x.k ≤ 255
  s : 0 ≤ x.s ∧ x.s < 18446744073709551616
  e : 0 ≤ x.e ∧ x.e < 18446744073709551616
  al : ∀ y ∈ x.al, CnWf y
def givesB (x : Pn) : Bool := someB x.al && decide (x.e ≤ 1099511627776)
/-- May a plan without periods be? (Kinds 3 and 5 aside.) -/
def rightN (x : Pn) : Bool :=
  if x.k = 0 then x.s == 0 && x.e == 0 && x.al.isEmpty && x.pl.isEmpty
  else if x.k = 1 then decide (x.s < x.e) && givesB x && x.pl.isEmpty
  else if x.k = 2 then x.s == 0 && givesB x && x.pl.isEmpty
  else if x.k = 4 then x.s == 0 && x.e == 0 && givesB x && x.pl.isEmpty
  else false
theorem clB_nil (l : List Cn) : clB l [] = l.isEmpty := by cases l <;> rfl
theorem plB_nil (l : List Pd) : plB l [] = l.isEmpty := by cases l <;> rfl
def pnZ : Pn := ⟨0, 0, 0, .slice none 0 0, .slice none 0 0, [], []⟩
theorem pnZ_at (W : World) : PnAt W pnZ := ⟨.inl ⟨rfl, _, _, rfl⟩, .inl ⟨rfl, _, _, rfl⟩⟩
section
variable {s t : Int} {a1 a2 : Option Addr} {c1 c2 : Nat} {al : List Cn} {pl : List Pd}
end
end Go.Proofs.Ytafcianpajheiaa

/- pool: records, keys, what a store holds: plain facts. -/
namespace Go.Proofs.Ytafcianpajheiaa
open Go.RowKit

/-- A validator but for its number. -/
structure Vd where
  ow : Int
  rt : Int
  jl : Bool
  t0 : Int
  t1 : Int
  t2 : Int
  t3 : Int
  s0 : Int
  s1 : Int
  s2 : Int
  s3 : Int
  ix : List Cn
  er : List Cn
/-- A delegation. -/
structure Dg where
  ow : Nat
  va : Nat
  s0 : Int
  s1 : Int
  s2 : Int
  s3 : Int
  ix : List Cn
def coB (l : List Cn) : List Int := (l.length : Int) :: layL l
/-- Their bytes. -/
def vB (v : Vd) : List Int := [v.ow] ++ be v.rt 2 ++ [flI v.jl] ++ layN (val v.t0 v.t1 v.t2 v.t3) ++ layN (val v.s0 v.s1 v.s2 v.s3) ++ coB v.ix ++ coB v.er
def dB (d : Dg) : List Int := layN (val d.s0 d.s1 d.s2 d.s3) ++ coB d.ix
structure VOk (v : Vd) : Prop where
  ow : 0 ≤ v.ow ∧ v.ow < 200
  rt : 0 ≤ v.rt ∧ v.rt ≤ 10000
  t : Lim v.t0 v.t1 v.t2 v.t3
  s : Lim v.s0 v.s1 v.s2 v.s3
  iw : ∀ x ∈ v.ix, CnWf x
  ir : rightFrom 0 v.ix = true
  ew : ∀ x ∈ v.er, CnWf x
  er : rightFrom 0 v.er = true
structure DOk (n : Nat) (d : Dg) : Prop where
  ow : d.ow < 200
  va : d.va < n
  s : Lim d.s0 d.s1 d.s2 d.s3
  nz : eq4 d.s0 d.s1 d.s2 d.s3 0 0 0 0 = false
  iw : ∀ x ∈ d.ix, CnWf x
  ir : rightFrom 0 d.ix = true
theorem right_len {l : List Cn} (h : rightFrom 0 l = true) : l.length ≤ 8 := by
  rw [← right_lst h]; exact lst_len _ 8
/-! What was laid is read. -/
theorem rd_be2 {n : Int} (h0 : 0 ≤ n) (h1 : n < 65536) : rd (be n 2) = n := by
  simp only [be, rd, List.foldl, Int.pow_zero, Int.pow_succ, Int.ediv_one, Int.one_mul]
  omega
theorem numS_be2 {n : Int} (h0 : 0 ≤ n) (h1 : n < 65536) (r : List Int) : numS (some (be n 2 ++ r)) 2 = (n, some r) := by
  have h := takeS_app (be n 2) r
  rw [be_len] at h
  unfold numS; rw [h, rd_be2 h0 h1]
theorem flagS_app2 (b : Bool) (r : List Int) : flagS (some (flI b :: r)) = (b, some r) := by
  unfold flagS; rw [byteS_app]; cases b <;> simp [flI]
theorem coinsS_app2 {L : List Cn} (h : ∀ x ∈ L, CnWf x) (hr : rightFrom 0 L = true) (r : List Int) : coinsS (some (coB L ++ r)) = (L, some r) := by
  unfold coinsS coB
  rw [List.cons_append, byteS_app]
  simp only [Int.toNat_natCast]
  rw [cl_app L [] r h]
  simp [hr]
theorem endS_nil : endS (some []) = true := rfl
theorem coB_len {l : List Cn} (h : rightFrom 0 l = true) : (coB l).length ≤ 273 := by
  have h1 := right_len h
  have h2 := layL_len l
  simp only [coB, List.length_cons]; omega
theorem vB_len {v : Vd} (h : VOk v) : (vB v).length ≤ 1000 := by
  have h1 := coB_len h.ir
  have h2 := coB_len h.er
  have h3 := layN_len (val v.t0 v.t1 v.t2 v.t3)
  have h4 := layN_len (val v.s0 v.s1 v.s2 v.s3)
  simp only [vB, List.length_append, List.length_cons, List.length_nil, be_len]; omega
theorem dB_len {n : Nat} {d : Dg} (h : DOk n d) : (dB d).length ≤ 1000 := by
  have h1 := coB_len h.ir
  have h3 := layN_len (val d.s0 d.s1 d.s2 d.s3)
  simp only [dB, List.length_append]; omega
theorem vB_ne (v : Vd) : vB v ≠ [] := by simp [vB]
theorem dB_ne (d : Dg) : dB d ≠ [] := by simp [dB, layN]
theorem byte_layN (n : Int) : Byte (layN n) := by
  have h1 := byL_good n 32
  have h2 := byL_len n 32
  intro x hx
  simp only [layN, List.mem_cons] at hx
  rcases hx with rfl | hx
  · omega
  · exact h1.1 x hx
theorem byte_layL : ∀ {l : List Cn}, (∀ x ∈ l, CnWf x) → Byte (layL l)
  | [], _ => by simp [layL, Byte]
  | c :: l, h => by
    rw [layL_cons]
    refine byte_app ?_ (byte_layL (fun x hx => h x (by simp [hx])))
    intro x hx
    simp only [layC, List.mem_cons] at hx
    rcases hx with rfl | hx
    · exact (h c (by simp)).1
    · exact byte_layN _ x hx
theorem byte_coB {l : List Cn} (h : ∀ x ∈ l, CnWf x) (hr : rightFrom 0 l = true) : Byte (coB l) := by
  have h1 := right_len hr
  intro x hx
  simp only [coB, List.mem_cons] at hx
  rcases hx with rfl | hx
  · omega
  · exact byte_layL h x hx
theorem byte_be (n : Int) : ∀ k, Byte (be n k)
  | 0 => by simp [be, Byte]
  | k + 1 => by
    intro x hx
    simp only [be, List.mem_cons] at hx
    rcases hx with rfl | hx
    · omega
    · exact byte_be n k x hx
theorem byte_vB {v : Vd} (h : VOk v) : Byte (vB v) := by
  have := h.ow
  unfold vB
  refine byte_app (byte_app (byte_app (byte_app (byte_app (byte_app (byte_one (by omega)) (byte_be _ _)) (byte_one (by cases v.jl <;> simp [flI]))) (byte_layN _)) (byte_layN _)) (byte_coB h.iw h.ir)) (byte_coB h.ew h.er)
theorem byte_dB {n : Nat} {d : Dg} (h : DOk n d) : Byte (dB d) := byte_app (byte_layN _) (byte_coB h.iw h.ir)
/-! Keys. -/
def poolB : List Int := [112, 111, 111, 108, 46]
def valP : List Int := [112, 111, 111, 108, 46, 118, 97, 108, 46]
def hasP : List Int := [112, 111, 111, 108, 46, 104, 97, 115, 46]
def kv (i : Nat) : List Int := valP ++ [(i : Int)]
def kd (a b : Nat) : List Int := hasP ++ [(a : Int), (b : Int)]
theorem kv_inj {i j : Nat} : kv i = kv j ↔ i = j := by simp only [kv, valP, List.cons_append, List.nil_append, List.cons.injEq]; constructor <;> intro h <;> simp at h ⊢ <;> omega
theorem kd_inj {a b c e : Nat} : kd a b = kd c e ↔ a = c ∧ b = e := by simp only [kd, hasP, List.cons_append, List.nil_append, List.cons.injEq]; constructor <;> intro h <;> simp at h ⊢ <;> omega
theorem kv_kd (i a b : Nat) : kv i ≠ kd a b := by intro h; have := congrArg List.length h; simp [kv, kd, valP, hasP] at this
theorem byte_kv {i : Nat} (h : i ≤ 255) : Byte (kv i) := byte_app (by unfold Byte valP; decide) (byte_one (by omega))
theorem byte_kd {a b : Nat} (h : a ≤ 255) (k : b ≤ 255) : Byte (kd a b) := byte_app (by unfold Byte hasP; decide) (by intro x hx; simp at hx; omega)
theorem kv_len (i : Nat) : (kv i).length = 10 := by simp [kv, valP]
theorem kd_len (a b : Nat) : (kd a b).length = 11 := by simp [kd, hasP]
theorem begs_kv (i : Nat) : begs (kv i) poolB = true := by simp [begs, kv, valP, poolB]
theorem begs_kd (a b : Nat) : begs (kd a b) poolB = true := by simp [begs, kd, hasP, poolB]
theorem begs_kv2 (i : Nat) (r : List Int) : begs (kv i) (hasP ++ r) = false := by
  simp only [begs, kv, valP, hasP, List.cons_append, List.nil_append, List.length_cons, List.length_nil, Bool.and_eq_false_iff, decide_eq_false_iff_not]
  right
  simp
theorem begs_kd0 (a b : Nat) : begs (kd a b) hasP = true := by simp [begs, kd, hasP]
theorem begs_kd1 (a b c : Nat) : begs (kd a b) (hasP ++ [(c : Int)]) = decide (a = c) := by
  by_cases h : a = c
  · subst h; simp [begs, kd, hasP]
  · have h' : ¬ (a : Int) = (c : Int) := by omega
    simp [begs, kd, hasP, h, h']
theorem begs_pool (k r : List Int) (h : begs k (hasP ++ r) = true) : begs k poolB = true := by
  simp only [begs, Bool.and_eq_true, decide_eq_true_eq] at h ⊢
  obtain ⟨h1, h2⟩ := h
  have e : hasP ++ r = poolB ++ ([104, 97, 115, 46] ++ r) := by simp [hasP, poolB]
  rw [e] at h1 h2
  have h3 := congrArg (List.take 5) h2
  have e5 : poolB.length = 5 := rfl
  rw [List.take_take, List.take_append_of_le_length (by omega), List.take_of_length_le (l := poolB) (by omega), Nat.min_eq_left (by rw [List.length_append]; omega)] at h3
  rw [List.length_append] at h1
  exact ⟨by omega, by rw [e5]; exact h3⟩
/-- Which delegation comes first. -/
def ltK (a b c e : Nat) : Bool := decide (a < c) || (decide (a = c) && decide (b < e))
theorem ltK_iff {a b c e : Nat} : ltK a b c e = true ↔ a < c ∨ a = c ∧ b < e := by simp [ltK]
theorem kd_lt {a b c e : Nat} (h : ltK a b c e = true) : cmpB (kd a b) (kd c e) < 0 := by
  unfold kd
  rw [cmp_pre]
  rcases ltK_iff.1 h with h | ⟨rfl, h⟩
  · have : (a : Int) < (c : Int) := by omega
    simp [cmpB, this]
  · have : (b : Int) < (e : Int) := by omega
    simp [cmpB, this]
def DSrt (D : List Dg) : Prop := D.Pairwise fun x y => ltK x.ow x.va y.ow y.va = true
/-- What a store holds where each place is its own: other layers' keys begin otherwise. -/
structure PoL (L : List (List Int × List Int)) (V : List Vd) (D : List Dg) : Prop where
  srt : SrtC L
  vlen : V.length ≤ 16
  vok : ∀ v ∈ V, VOk v
  dok : ∀ d ∈ D, DOk V.length d
  dsrt : DSrt D
  mem : ∀ x, begs x.1 poolB = true → (x ∈ L ↔ (∃ i v, V[i]? = some v ∧ x = (kv i, vB v)) ∨ ∃ d ∈ D, x = (kd d.ow d.va, dB d))
theorem PoL.new : PoL [] [] [] := ⟨List.Pairwise.nil, by simp, by simp, by simp, List.Pairwise.nil, fun x _ => by simp⟩
section
variable {L : List (List Int × List Int)} {V : List Vd} {D : List Dg}
theorem PoL.getV_yes (h : PoL L V D) {i : Nat} {v : Vd} (hi : V[i]? = some v) : getS L (kv i) = some (vB v) := get_of h.srt ((h.mem (kv i, vB v) (begs_kv i)).2 (.inl ⟨i, v, hi, rfl⟩))
theorem PoL.getV_no (h : PoL L V D) {i : Nat} (hi : V.length ≤ i) : getS L (kv i) = none := by
  cases hg : getS L (kv i) with
  | none => rfl
  | some q =>
    exfalso
    rcases (h.mem (kv i, q) (begs_kv i)).1 (get_mem hg) with ⟨j, v, hj, he⟩ | ⟨d, -, he⟩
    · injection he with h1 h2
      obtain rfl := kv_inj.1 h1
      have := (List.getElem?_eq_some_iff.1 hj).1
      omega
    · injection he with h1 h2
      exact kv_kd _ _ _ h1
theorem PoL.getD_yes (h : PoL L V D) {d : Dg} (hd : d ∈ D) : getS L (kd d.ow d.va) = some (dB d) := get_of h.srt ((h.mem (kd d.ow d.va, dB d) (begs_kd _ _)).2 (.inr ⟨d, hd, rfl⟩))
theorem PoL.getD_no (h : PoL L V D) {a b : Nat} (hn : ∀ d ∈ D, ¬ (d.ow = a ∧ d.va = b)) : getS L (kd a b) = none := by
  cases hg : getS L (kd a b) with
  | none => rfl
  | some q =>
    exfalso
    rcases (h.mem (kd a b, q) (begs_kd a b)).1 (get_mem hg) with ⟨j, v, hj, he⟩ | ⟨d, hd, he⟩
    · injection he with h1 h2
      exact kv_kd _ _ _ h1.symm
    · injection he with h1 h2
      obtain ⟨rfl, rfl⟩ := kd_inj.1 h1
      exact hn d hd ⟨rfl, rfl⟩
/-- Nothing of other layers has changed. -/
def Oth (p : List Int) (L L' : List (List Int × List Int)) : Prop := ∀ x, begs x.1 p = false → (x ∈ L' ↔ x ∈ L)
theorem Oth.rfl' (p : List Int) (L : List (List Int × List Int)) : Oth p L L := fun _ _ => Iff.rfl
theorem Oth.put {p k v : List Int} (h : begs k p = true) : Oth p L (putS L k v) := fun x hx => by
  have hne : x.1 ≠ k := fun e => by rw [e, h] at hx; cases hx
  rw [mem_put]
  constructor
  · rintro (rfl | ⟨-, h⟩)
    · exact absurd rfl hne
    · exact h
  · exact fun h => .inr ⟨hne, h⟩
theorem Oth.drop {p k : List Int} (h : begs k p = true) : Oth p L (dropS L k) := fun x hx => by
  have hne : x.1 ≠ k := fun e => by rw [e, h] at hx; cases hx
  rw [mem_drop]
  exact ⟨fun h => h.2, fun h => ⟨hne, h⟩⟩
theorem PoL.putV (h : PoL L V D) {i : Nat} {v : Vd} {V' : List Vd} (hv : VOk v) (hV : ∀ j, V'[j]? = if j = i then some v else V[j]?) (hl : V'.length ≤ 16) (hle : V.length ≤ V'.length) : PoL (putS L (kv i) (vB v)) V' D := by
  refine ⟨srt_putS h.srt _ _, hl, fun w hw => ?_, fun d hd => ?_, h.dsrt, fun x hx => ?_⟩
  · obtain ⟨j, hj⟩ := List.mem_iff_getElem?.1 hw
    rw [hV] at hj
    split at hj
    · injection hj with hj; subst hj; exact hv
    · exact h.vok w (List.mem_of_getElem? hj)
  · have := h.dok d hd
    exact { this with va := Nat.lt_of_lt_of_le this.va hle }
  · rw [mem_put, h.mem x hx]
    constructor
    · rintro (rfl | ⟨hne, ⟨j, w, hj, rfl⟩ | ⟨d, hd, rfl⟩⟩)
      · exact .inl ⟨i, v, by rw [hV, if_pos rfl], rfl⟩
      · refine .inl ⟨j, w, ?_, rfl⟩
        rw [hV, if_neg (fun e => hne (kv_inj.2 e))]; exact hj
      · exact .inr ⟨d, hd, rfl⟩
    · rintro (⟨j, w, hj, rfl⟩ | ⟨d, hd, rfl⟩)
      · rw [hV] at hj
        split at hj
        · injection hj with hj; subst hj; rename_i hji; subst hji; exact .inl rfl
        · rename_i hji
          exact .inr ⟨fun e => hji (kv_inj.1 e), .inl ⟨j, w, hj, rfl⟩⟩
      · exact .inr ⟨fun e => kv_kd _ _ _ e.symm, .inr ⟨d, hd, rfl⟩⟩
theorem PoL.keys (h : PoL L V D) : keysS L hasP = D.map (fun d => kd d.ow d.va) := by
  refine srt_ext _ _ (keysS_srt h.srt _) ?_ fun x => ?_
  · rw [List.pairwise_map]; exact h.dsrt.imp kd_lt
  · unfold keysS
    rw [List.mem_map, List.mem_map]
    constructor
    · rintro ⟨y, hy, rfl⟩
      obtain ⟨h1, h2⟩ := List.mem_filter.1 hy
      have h3 := begs_pool y.1 [] (by rw [List.append_nil]; exact h2)
      rcases (h.mem y h3).1 h1 with ⟨i, v, -, rfl⟩ | ⟨d, hd, rfl⟩
      · have := begs_kv2 i []; rw [List.append_nil] at this; simp only at h2; rw [this] at h2; cases h2
      · exact ⟨d, hd, rfl⟩
    · rintro ⟨d, hd, rfl⟩
      exact ⟨(kd d.ow d.va, dB d), List.mem_filter.2 ⟨(h.mem _ (begs_kd _ _)).2 (.inr ⟨d, hd, rfl⟩), begs_kd0 _ _⟩, rfl⟩
theorem PoL.keys1 (h : PoL L V D) (o : Nat) : keysS L (hasP ++ [(o : Int)]) = (D.filter (fun d => decide (d.ow = o))).map (fun d => kd d.ow d.va) := by
  refine srt_ext _ _ (keysS_srt h.srt _) ?_ fun x => ?_
  · rw [List.pairwise_map]; exact (h.dsrt.sublist List.filter_sublist).imp kd_lt
  · unfold keysS
    rw [List.mem_map, List.mem_map]
    constructor
    · rintro ⟨y, hy, rfl⟩
      obtain ⟨h1, h2⟩ := List.mem_filter.1 hy
      have h3 := begs_pool y.1 [(o : Int)] h2
      rcases (h.mem y h3).1 h1 with ⟨i, v, -, rfl⟩ | ⟨d, hd, rfl⟩
      · have := begs_kv2 i [(o : Int)]; simp only at h2; rw [this] at h2; cases h2
      · simp only at h2
        rw [begs_kd1] at h2
        exact ⟨d, List.mem_filter.2 ⟨hd, h2⟩, rfl⟩
    · rintro ⟨d, hd, rfl⟩
      obtain ⟨h1, h2⟩ := List.mem_filter.1 hd
      exact ⟨(kd d.ow d.va, dB d), List.mem_filter.2 ⟨(h.mem _ (begs_kd _ _)).2 (.inr ⟨d, h1, rfl⟩), by simp only; rw [begs_kd1]; exact h2⟩, rfl⟩
theorem PoL.dlen (h : PoL L V D) : D.length ≤ L.length := by
  have e : D.length = (keysS L hasP).length := by rw [h.keys, List.length_map]
  rw [e]
  unfold keysS
  rw [List.length_map]
  exact List.length_filter_le _ _
/-! Delegations that come and go. -/
def putD (D : List Dg) (d : Dg) : List Dg := D.filter (fun x => ltK x.ow x.va d.ow d.va) ++ d :: D.filter (fun x => ltK d.ow d.va x.ow x.va)
def dropD (D : List Dg) (a b : Nat) : List Dg := D.filter (fun x => !(decide (x.ow = a) && decide (x.va = b)))
theorem ltK_tri (a b c e : Nat) : ltK a b c e = true ∨ (a = c ∧ b = e) ∨ ltK c e a b = true := by simp only [ltK_iff]; omega
theorem ltK_not {a b c e : Nat} (h : ltK a b c e = true) : ¬ (a = c ∧ b = e) := by rw [ltK_iff] at h; omega
theorem mem_putD {d x : Dg} : x ∈ putD D d ↔ x = d ∨ (¬ (x.ow = d.ow ∧ x.va = d.va) ∧ x ∈ D) := by
  unfold putD
  rw [List.mem_append, List.mem_cons, List.mem_filter, List.mem_filter]
  constructor
  · rintro (⟨h1, h2⟩ | h | ⟨h1, h2⟩)
    · exact .inr ⟨ltK_not h2, h1⟩
    · exact .inl h
    · exact .inr ⟨fun e => ltK_not h2 ⟨e.1.symm, e.2.symm⟩, h1⟩
  · rintro (h | ⟨h1, h2⟩)
    · exact .inr (.inl h)
    · rcases ltK_tri x.ow x.va d.ow d.va with h | h | h
      · exact .inl ⟨h2, h⟩
      · exact absurd h h1
      · exact .inr (.inr ⟨h2, h⟩)
theorem mem_dropD {a b : Nat} {x : Dg} : x ∈ dropD D a b ↔ ¬ (x.ow = a ∧ x.va = b) ∧ x ∈ D := by
  unfold dropD
  rw [List.mem_filter]
  simp only [Bool.not_eq_true', Bool.and_eq_false_iff, decide_eq_false_iff_not]
  constructor
  · rintro ⟨h1, h2⟩; exact ⟨by omega, h1⟩
  · rintro ⟨h1, h2⟩; exact ⟨h2, by omega⟩
theorem ltK_trans {a b c e f g : Nat} (h : ltK a b c e = true) (k : ltK c e f g = true) : ltK a b f g = true := by rw [ltK_iff] at *; omega
theorem srt_putD (h : DSrt D) (d : Dg) : DSrt (putD D d) := by
  unfold DSrt putD
  rw [List.pairwise_append]
  refine ⟨h.sublist List.filter_sublist, ?_, fun x hx y hy => ?_⟩
  · rw [List.pairwise_cons]
    exact ⟨fun x hx => (List.mem_filter.1 hx).2, h.sublist List.filter_sublist⟩
  · have hx2 : ltK x.ow x.va d.ow d.va = true := (List.mem_filter.1 hx).2
    rcases List.mem_cons.1 hy with rfl | hy
    · exact hx2
    · exact ltK_trans hx2 (List.mem_filter.1 hy).2
theorem PoL.putD (h : PoL L V D) {d : Dg} (hd : DOk V.length d) : PoL (putS L (kd d.ow d.va) (dB d)) V (putD D d) := by
  refine ⟨srt_putS h.srt _ _, h.vlen, h.vok, fun x hx => ?_, srt_putD h.dsrt d, fun x hx => ?_⟩
  · rcases mem_putD.1 hx with rfl | ⟨-, hx⟩
    · exact hd
    · exact h.dok x hx
  · rw [mem_put, h.mem x hx]
    constructor
    · rintro (rfl | ⟨hne, ⟨j, w, hj, rfl⟩ | ⟨y, hy, rfl⟩⟩)
      · exact .inr ⟨d, mem_putD.2 (.inl rfl), rfl⟩
      · exact .inl ⟨j, w, hj, rfl⟩
      · exact .inr ⟨y, mem_putD.2 (.inr ⟨fun e => hne (kd_inj.2 e), hy⟩), rfl⟩
    · rintro (⟨j, w, hj, rfl⟩ | ⟨y, hy, rfl⟩)
      · exact .inr ⟨kv_kd _ _ _, .inl ⟨j, w, hj, rfl⟩⟩
      · rcases mem_putD.1 hy with rfl | ⟨h1, hy⟩
        · exact .inl rfl
        · exact .inr ⟨fun e => h1 (kd_inj.1 e), .inr ⟨y, hy, rfl⟩⟩
theorem PoL.dropD (h : PoL L V D) (a b : Nat) : PoL (dropS L (kd a b)) V (dropD D a b) := by
  refine ⟨srt_dropS h.srt _, h.vlen, h.vok, fun x hx => h.dok x (mem_dropD.1 hx).2, h.dsrt.sublist List.filter_sublist, fun x hx => ?_⟩
  rw [mem_drop, h.mem x hx]
  constructor
  · rintro ⟨hne, ⟨j, w, hj, rfl⟩ | ⟨y, hy, rfl⟩⟩
    · exact .inl ⟨j, w, hj, rfl⟩
    · exact .inr ⟨y, mem_dropD.2 ⟨fun e => hne (kd_inj.2 e), hy⟩, rfl⟩
  · rintro (⟨j, w, hj, rfl⟩ | ⟨y, hy, rfl⟩)
    · exact ⟨kv_kd _ _ _, .inl ⟨j, w, hj, rfl⟩⟩
    · obtain ⟨h1, hy⟩ := mem_dropD.1 hy
      exact ⟨fun e => h1 (kd_inj.1 e), .inr ⟨y, hy, rfl⟩⟩
end
/-- The reference's walk over its delegations (each with what its coins lie in). -/
def setGo {α : Type} (f : α → Dg) (d : α) : Bool → List α → List α
  | D, [] => if D then [] else [d]
  | D, x :: r =>
    if D = false ∧ ltK (f d).ow (f d).va (f x).ow (f x).va = true then d :: x :: setGo f d true r
    else if (f x).ow = (f d).ow ∧ (f x).va = (f d).va then setGo f d D r else x :: setGo f d D r
theorem setGo_true {α : Type} (f : α → Dg) (d : α) : ∀ M : List α, (setGo f d true M).map f = dropD (M.map f) (f d).ow (f d).va
  | [] => rfl
  | x :: r => by
    have ih := setGo_true f d r
    unfold setGo dropD
    rw [if_neg (by simp), List.map_cons]
    by_cases h : (f x).ow = (f d).ow ∧ (f x).va = (f d).va
    · rw [if_pos h, List.filter_cons_of_neg (by simp [h])]
      exact ih
    · rw [if_neg h, List.filter_cons_of_pos (by simp; omega), List.map_cons, ih]
      rfl
theorem dropD_gt {D : List Dg} {a b : Nat} (h : ∀ x ∈ D, ltK a b x.ow x.va = true) : dropD D a b = D := by
  unfold dropD
  rw [List.filter_eq_self]
  intro x hx
  have := ltK_not (h x hx)
  simp; omega
theorem setGo_false {α : Type} (f : α → Dg) (d : α) : ∀ M : List α, DSrt (M.map f) → (setGo f d false M).map f = putD (M.map f) (f d)
  | [], _ => rfl
  | x :: r, hs => by
    rw [List.map_cons] at hs
    obtain ⟨h1, h2⟩ := List.pairwise_cons.1 hs
    have ih := setGo_false f d r h2
    unfold setGo
    by_cases hlt : ltK (f d).ow (f d).va (f x).ow (f x).va = true
    · rw [if_pos ⟨rfl, hlt⟩, List.map_cons, List.map_cons, setGo_true]
      have hg : ∀ y ∈ r.map f, ltK (f d).ow (f d).va y.ow y.va = true := fun y hy => ltK_trans hlt (h1 y hy)
      rw [dropD_gt hg]
      unfold putD
      have e : (r.map f).filter (fun x => ltK x.ow x.va (f d).ow (f d).va) = [] := by
        rw [List.filter_eq_nil_iff]
        intro y hy hc
        have := hg y hy
        rw [ltK_iff] at this hc
        omega
      have e2 : (r.map f).filter (fun x => ltK (f d).ow (f d).va x.ow x.va) = r.map f := List.filter_eq_self.2 hg
      rw [List.map_cons, List.filter_cons_of_neg, List.filter_cons_of_pos (by exact hlt), e, e2]
      · rfl
      · intro hc
        rw [ltK_iff] at hc hlt
        omega
    · rw [if_neg (by simp [hlt])]
      by_cases he : (f x).ow = (f d).ow ∧ (f x).va = (f d).va
      · rw [if_pos he, ih]
        unfold putD
        rw [List.map_cons, List.filter_cons_of_neg, List.filter_cons_of_neg (by simpa using hlt)]
        rw [ltK_iff]; omega
      · rw [if_neg he, List.map_cons, ih]
        unfold putD
        have hx : ltK (f x).ow (f x).va (f d).ow (f d).va = true := by
          rcases ltK_tri (f x).ow (f x).va (f d).ow (f d).va with h | h | h
          · exact h
          · exact absurd h he
          · exact absurd h hlt
        rw [List.map_cons, List.filter_cons_of_pos (by exact hx), List.filter_cons_of_neg (by simpa using hlt)]
        rfl
theorem setGo_mem {α : Type} {f : α → Dg} {d x : α} : ∀ {M : List α} {D : Bool}, x ∈ setGo f d D M → x = d ∨ x ∈ M
  | [], D, h => by
    unfold setGo at h
    split at h
    · simp at h
    · simp at h; exact .inl h
  | y :: r, D, h => by
    unfold setGo at h
    split at h
    · rcases List.mem_cons.1 h with h | h
      · exact .inl h
      · rcases List.mem_cons.1 h with h | h
        · exact .inr (by simp [h])
        · rcases setGo_mem h with h | h
          · exact .inl h
          · exact .inr (by simp [h])
    · split at h
      · rcases setGo_mem h with h | h
        · exact .inl h
        · exact .inr (by simp [h])
      · rcases List.mem_cons.1 h with h | h
        · exact .inr (by simp [h])
        · rcases setGo_mem h with h | h
          · exact .inl h
          · exact .inr (by simp [h])
theorem setGo_len {α : Type} {f : α → Dg} {d : α} : ∀ {M : List α} {D : Bool}, (setGo f d D M).length ≤ M.length + 1
  | [], D => by unfold setGo; split <;> simp
  | y :: r, D => by
    unfold setGo
    split
    · have e : ∀ r : List α, (setGo f d true r).length ≤ r.length := fun r => by
        have h1 := congrArg List.length (setGo_true f d r)
        have h2 := List.length_filter_le (fun x : Dg => !(decide (x.ow = (f d).ow) && decide (x.va = (f d).va))) (r.map f)
        rw [List.length_map] at h1 h2
        rw [h1]
        exact h2
      have := e r
      simp; omega
    · have := setGo_len (f := f) (d := d) (M := r) (D := D)
      split <;> simp <;> omega
end Go.Proofs.Ytafcianpajheiaa

/- pool: keys. -/
namespace Go.Proofs.Ytafcianpajheiaa
open Go.RowKit

theorem cv_lit (w : World) (C : Array Value) (n c : Nat) : (convert 77 77 (.slice (some ⟨w.heap.size, 0, none⟩) n c)).run Try.prog (w.alloc (.cells C 5)) = .ok (.slice (some ⟨w.heap.size, 0, none⟩) n c) (w.alloc (.cells C 5 (C.size, C.size + 1))) :=
  Lib.run_convert_bytes_const w 77 5 C n c Try.underlying77 Try.underlying5
/-- Cells behind a row that is full: a new row. -/
theorem wpList_append_full {P : Program} {w : World} {ops : Array Oper} {rest : List Oper} {o : Oper} {a : Act} {Q : Exit → Act → World → Prop} (hgd : o.guard = none) (s x : Operand) (t : TypeId)
    (ho : o.op = .call { callee := .builtin .append, args := #[s, x], argTypes := #[t, t] })
    (e : TypeId) (i : TypeInfo) (ht : P.underlying t = some (.slice e)) (hi : P.info? e = some i) (hz : i.zero = some (.int .u8 0)) (hsz : i.size = 1) (hby : i.bytes = 1)
    (g n : Nat) (cur : Array Value) (hs : a.eval s = .slice (some ⟨g, 0, none⟩) n n) (hg : w.heap[g]? = some (.cells cur e (cur.size, cur.size + 1))) (hcs : cur.size = n) (hm : n < 1000) (y : Nat) (us : List Value) (hu0 : us ≠ []) (hul : us.length < 100) (hx : a.eval x = .slice (some ⟨y, 0, none⟩) us.length us.length) (ha : ∀ j u, us[j]? = some u → w.cell? ⟨y, j, none⟩ = some u)
    (h : ∀ cap' w', w.heap.size < w'.heap.size → (∀ j v, (cur.toList ++ us)[j]? = some v → w'.cell? ⟨w.heap.size, j, none⟩ = some v) → w.grownBy w' none → wpList P ops Q rest (a.put o.dst (.slice (some ⟨w.heap.size, 0, none⟩) (n + us.length) cap')) w') : wpList P ops Q (o :: rest) a w :=
  wpList_plain hgd fun _ hK => by
    have hpos : 0 < us.length := List.length_pos_iff.2 hu0
    have hold : ∀ j v, cur.toList[j]? = some v → w.cell? ((⟨g, 0, none⟩ : Addr).add j) = some v := fun j v hj => by
      rw [add_cell, Nat.zero_add, cell_of_row w g j cur e _ hg]
      simpa using hj
    have hnews : ∀ j v, us[j]? = some v → w.cell? ((⟨y, 0, none⟩ : Addr).add j) = some v := fun j v hj => by
      rw [add_cell, Nat.zero_add]; exact ha j v hj
    have hr := run_append_grow (P := P) w t o.type e i _ ht hi hz ⟨g, 0, none⟩ n n cur.toList (by simp [hsz, hcs]) hold ⟨y, 0, none⟩ us.length us.length us (by simp [hsz]) hnews (by omega) (by omega) (growslice_fits (by omega) (by rw [hby]; omega))
    unfold Oper.wp execOp
    simp only [ho, resolve, invoke, builtin, Sem.run_bind, Sem.run_pure, Result.andThen_ok, List.map_toArray, List.map_cons, List.map_nil, hs, hx, hr]
    refine hK _ _ (h _ _ (by simp) (fun j v hj => ?_) ⟨rfl, rfl, rfl, by simp, fun k hk _ => heap_alloc_old w.drew _ hk⟩)
    rw [cell_of_row _ w.heap.size j _ e _ (heap_alloc_new w.drew _)]
    rw [Array.getElem?_append_left (by
      have := (List.getElem?_eq_some_iff.1 hj).1
      simpa using this)]
    simpa [Array.getElem?_append, List.getElem?_append] using hj
theorem grow_end {w W W' : World} (h : Below w.heap.size w W) (k : W.grownBy W' none) : Below w.heap.size w W' := h.grown k h.size (fun _ hk => by cases hk)
def encV (q : List Int) : Array Value := (encB q).toArray
theorem encV_size (q : List Int) : (encV q).size = q.length := by simp [encV, encB]
theorem src_at {X : World} {g n cap : Nat} {p q : List Int} (hn : n = (p ++ q).length) (h : ∀ j v, (encB p ++ encB q)[j]? = some v → X.cell? ⟨g, j, none⟩ = some v) : Src X (.slice (some ⟨g, 0, none⟩) n cap) (p ++ q) := by
  refine .inr ⟨_, cap, by rw [hn], fun i x hi => ?_⟩
  rw [add_cell, Nat.zero_add]
  refine h i _ ?_
  have e : encB p ++ encB q = encB (p ++ q) := by simp [encB]
  rw [e]
  simp only [encB, List.getElem?_map, hi]
  rfl
set_option maxHeartbeats 1000000 in
theorem ofVal_any (i : Nat) (w : World) :
    Calls Try.prog 40 #[.int .u8 i] w fun e w' => ∃ cap g, e = .returned (.slice (some ⟨g, 0, none⟩) 10 cap) ∧ Src w' (.slice (some ⟨g, 0, none⟩) 10 cap) (kv i) ∧ w.heap.size ≤ g ∧ g < w'.heap.size ∧ Below w.heap.size w w' := by
  have hcv := cv_lit w (#[.int .u8 112, .int .u8 111, .int .u8 111, .int .u8 108, .int .u8 46, .int .u8 118, .int .u8 97, .int .u8 108, .int .u8 46] : Array Value) 9 9
  simp only [List.size_toArray, List.length_cons, List.length_nil] at hcv
  obtain ⟨i0, hi, hz0, hz1, hz2⟩ := info_parts u8_info
  go_enter Try.func40, Try.ntmps40
  go_wp2_with (at_builtin; refine wpList_append_full rfl _ _ 77 rfl 5 i0 Try.underlying77 hi hz0 hz1 hz2 w.heap.size 9 (#[.int .u8 112, .int .u8 111, .int .u8 111, .int .u8 108, .int .u8 46, .int .u8 118, .int .u8 97, .int .u8 108, .int .u8 46] : Array Value) rfl ?_ rfl (by omega) (w.heap.size + 1) [.int .u8 i] (by simp) (by simp) rfl ?_ ?_)
  · exact (al_old (by simp)).trans (al_at rfl)
  · intro j u hj
    match j, hj with
    | 0, hj => simp at hj; subst hj; exact (cells_of_block (al_at (by simp))).1 0
    | j + 1, hj => simp at hj
  · intro cap' w' h2 h3 h4
    go_wp2
    go_ret
    exact ⟨cap', _, rfl, src_at (p := valP) (q := [(i : Int)]) rfl h3, by omega, by omega, grow_end (by (repeat (first | (with_reducible exact Below.refl _ _) | (with_reducible assumption) | (with_reducible apply bd) | (with_reducible apply ba) | (with_reducible refine bp ?_ (by first | omega | (simp [pad_size]; done) | (simp [pad_size]; omega)) _ _) | (with_reducible refine bs ?_ (by first | omega | (simp [pad_size]; done) | (simp [pad_size]; omega)) _) | (with_reducible refine bt ?_ (by assumption))))) h4⟩
set_option maxHeartbeats 1000000 in
theorem of_some {w : World} {y : Nat} {q : List Int} (hq : q ≠ []) (hl : q.length ≤ 2) (hy : y < w.heap.size) (hu : ∀ j x, q[j]? = some x → w.cell? ⟨y, j, none⟩ = some (.int .u8 x)) :
    Calls Try.prog 28 #[.slice (some ⟨y, 0, none⟩) q.length q.length] w fun e w' => ∃ cap g, e = .returned (.slice (some ⟨g, 0, none⟩) (9 + q.length) cap) ∧ Src w' (.slice (some ⟨g, 0, none⟩) (9 + q.length) cap) (hasP ++ q) ∧ w.heap.size ≤ g ∧ g < w'.heap.size ∧ Below w.heap.size w w' := by
  have hcv := cv_lit w (#[.int .u8 112, .int .u8 111, .int .u8 111, .int .u8 108, .int .u8 46, .int .u8 104, .int .u8 97, .int .u8 115, .int .u8 46] : Array Value) 9 9
  simp only [List.size_toArray, List.length_cons, List.length_nil] at hcv
  obtain ⟨i0, hi, hz0, hz1, hz2⟩ := info_parts u8_info
  go_enter Try.func28, Try.ntmps28
  go_wp2_with (at_builtin; refine wpList_append_full rfl _ _ 77 rfl 5 i0 Try.underlying77 hi hz0 hz1 hz2 w.heap.size 9 (#[.int .u8 112, .int .u8 111, .int .u8 111, .int .u8 108, .int .u8 46, .int .u8 104, .int .u8 97, .int .u8 115, .int .u8 46] : Array Value) rfl ?_ rfl (by omega) y (encB q) (by simpa [encB] using hq) (by simp [encB]; omega) (by rw [show (encB q).length = q.length by simp [encB]]; rfl) ?_ ?_)
  · exact (al_at rfl)
  · intro j u hj
    simp only [encB, List.getElem?_map, Option.map_eq_some_iff] at hj
    obtain ⟨x, hx, rfl⟩ := hj
    exact ((ba (Below.refl _ w) _).cell (p := ⟨y, j, none⟩) hy).trans (hu j x hx)
  · intro cap' w' h2 h3 h4
    have e : (encB q).length = q.length := by simp [encB]
    rw [e]
    go_wp2
    go_ret
    exact ⟨cap', _, rfl, src_at (p := hasP) (q := q) (by simp [hasP]; omega) h3, by omega, by omega, grow_end (by (repeat (first | (with_reducible exact Below.refl _ _) | (with_reducible assumption) | (with_reducible apply bd) | (with_reducible apply ba) | (with_reducible refine bp ?_ (by first | omega | (simp [pad_size]; done) | (simp [pad_size]; omega)) _ _) | (with_reducible refine bs ?_ (by first | omega | (simp [pad_size]; done) | (simp [pad_size]; omega)) _) | (with_reducible refine bt ?_ (by assumption))))) h4⟩
set_option maxHeartbeats 1000000 in
theorem of_none (w : World) :
    Calls Try.prog 28 #[.slice none 0 0] w fun e w' => ∃ cap g, e = .returned (.slice (some ⟨g, 0, none⟩) 9 cap) ∧ Src w' (.slice (some ⟨g, 0, none⟩) 9 cap) hasP ∧ w.heap.size ≤ g ∧ g < w'.heap.size ∧ Below w.heap.size w w' := by
  have hcv := cv_lit w (#[.int .u8 112, .int .u8 111, .int .u8 111, .int .u8 108, .int .u8 46, .int .u8 104, .int .u8 97, .int .u8 115, .int .u8 46] : Array Value) 9 9
  simp only [List.size_toArray, List.length_cons, List.length_nil] at hcv
  obtain ⟨i0, hi, hz0, hz1, hz2⟩ := info_parts u8_info
  have hap : ∀ ty X, (Builtin.append_ #[77, 77] ty #[.slice (some ⟨w.heap.size, 0, none⟩) 9 9, .slice none 0 0]).run Try.prog X = .ok (.slice (some ⟨w.heap.size, 0, none⟩) 9 9) X := fun ty X => by
    simp [Builtin.append_, run_underlying Try.underlying77, sizeOf, typeInfo, hi, hz1, Builtin.lenOf, Builtin.firstCells, storeCells]
  go_enter Try.func28, Try.ntmps28
  go_wp2
  go_ret
  exact ⟨9, _, rfl, src_at (p := hasP) (q := []) rfl (fun j v hj => by rw [cell_of_row _ w.heap.size j (#[.int .u8 112, .int .u8 111, .int .u8 111, .int .u8 108, .int .u8 46, .int .u8 104, .int .u8 97, .int .u8 115, .int .u8 46] : Array Value) 5 (9, 10) (al_at rfl)]; simpa [encB, hasP] using hj), by simp, by simp, by (repeat (first | (with_reducible exact Below.refl _ _) | (with_reducible assumption) | (with_reducible apply bd) | (with_reducible apply ba) | (with_reducible refine bp ?_ (by first | omega | (simp [pad_size]; done) | (simp [pad_size]; omega)) _ _) | (with_reducible refine bs ?_ (by first | omega | (simp [pad_size]; done) | (simp [pad_size]; omega)) _) | (with_reducible refine bt ?_ (by assumption))))⟩
end Go.Proofs.Ytafcianpajheiaa
