
/- Several texts, one behind the other: BK11, BK12, BK13, BK14, BK15, BK16, BK17, BK18, BK19, BK8, BK20, BK21, BK22, BK9. -/
import Derived.Test.YtgphdioolcfmmaaBM4
import Derived.Test.YtgphdioolcfmmaaC14
import Derived.Test.YtgphdioolcfmmaaR
import Derived.Test.YtgphdioolcfmmaaV
import Derived.Test.YtgphdioolcfmmaaV6
import Derived.Test.YtgphdioolcfmmaaG
/- The reference's bank: Coins, Put. -/
set_option linter.unusedSimpArgs false
set_option linter.unusedVariables false
set_option maxRecDepth 20000
namespace Go.Proofs.Ytgphdioolcfmmaa
open Go.RowKit

theorem bal_app {W X : World} {v : Value} {O : List (Nat × Value)} (hr : X.ownsRow W.heap.size 46 2 v O.length (cellsB O)) (hb : Below W.heap.size W X) (hl : O.length ≤ 1000) (x : Nat × Value) (h1 : x.2.oneCell' = true) {ops : Array Oper} {rest : List Oper} {o : Oper} {a : Act} {Q : Exit → Act → World → Prop} (hgd : o.guard = none) (s y : Operand)
    (ho : o.op = .call { callee := .builtin .append, args := #[s, y], argTypes := #[30, 30] }) (hs : a.eval s = v) {g : Nat} (hx : a.eval y = .slice (some ⟨g, 0, none⟩) 1 1) (hc : X.heap[g]? = some (.cells #[.int .u8 (x.1 : Int), x.2] 46 (0, 0)))
    (k : ∀ O' v' w', Hid (O' = O ++ [x]) → w'.ownsRow W.heap.size 46 2 v' O'.length (cellsB O') → Below W.heap.size W w' → (∀ n, n < X.heap.size → v.ownBlock ≠ some n → w'.heap[n]? = X.heap[n]?) → X.heap.size ≤ w'.heap.size → wpList Try.prog ops Q rest (a.put o.dst v') w') : wpList Try.prog ops Q (o :: rest) a X := by
  obtain ⟨i0, hi, hz0, hz1, hz2⟩ := info_parts bal_info
  refine wpList_plain hgd fun _ hK => ?_
  refine wp_append_own_at X s y 30 ho W.heap.size 46 i0 _ 2 32 Try.underlying30 hi hz0 hz1 hz2 rfl (by decide) v O.length (cellsB O) hs hr ⟨g, 0, none⟩ 1 1 [.int .u8 (x.1 : Int), x.2] hx rfl (fun j u hj => by rw [add_cell, Nat.zero_add, (cells_of_block hc).1]; simpa using hj) (fun u hu => by simp at hu; rcases hu with rfl | rfl; rfl; exact h1) (by unfold maxLen; omega) (by omega) hb.size ?_
  intro u' w' hown hg _ hat
  refine hK _ _ (k (O ++ [x]) u' w' rfl (by rw [List.length_append, cellsB_app]; exact hown) (hb.grown hg hb.size (fun k hk => (hr.lt k hk).1)) (fun n hn hne => hg.block n hn (Ne.symm hne)) hg.size)
theorem lst_nil {z : Nat → Cn} (hz : Purse z) (h : ∀ d, d < 8 → vl (z d) = 0) : lst z 8 = [] := by
  rw [lst_dsL hz 8 (Nat.le_refl _)]
  have : dsL z 8 = [] := by
    unfold dsL
    rw [List.filter_eq_nil_iff]
    intro d hd
    simp [h d (List.mem_range.1 hd)]
  rw [this]; rfl
section
variable {W : World} {m base : Nat} {B : Nat → Prop} {vs vb : Value} {M : List (Nat × Value)} {b : Nat → Nat → Cn}
theorem Stt.nobody (h : Stt W m base B vs vb M b) {a : Nat} (hI : a < 205 ∨ lst (b a) 8 = []) (hn : ∀ x ∈ M, x.1 ≠ a) : lst (b a) 8 = [] := by
  by_cases h1 : a < 205
  · refine Classical.byContradiction fun hc => ?_
    have h2 := (asF_mem (b := b) (q := a) 205 0).2 ⟨by omega, by omega, hc⟩
    rw [← h.adr, List.mem_map] at h2
    obtain ⟨x, hx, e⟩ := h2
    exact hn x hx e
  · exact hI.resolve_left h1
set_option maxHeartbeats 4000000 in
theorem coinsR9_any (h : Stt W m base B vs vb M b) {a : Nat} (hI : a < 205 ∨ lst (b a) 8 = []) :
    Calls Try.prog 20 #[.pointer (some ⟨m, 0, none⟩), .int .u8 a] W fun e w' => ∃ v, e = .returned v ∧ IsCoins w' v (lst (b a) 8) ∧ (∀ g, v.ownBlock = some g → B g) ∧ Below W.heap.size W w' := by
  have hml := (h.foot m h.bm).2
  have hl := h.len
  obtain ⟨av, cv, hvb⟩ := row_slice h.row
  have hr : ∀ X, Below W.heap.size W X → X.cell? ⟨m, 2, none⟩ = some (.slice av M.length cv) := fun X hX => (hX.cell (p := ⟨m, 2, none⟩) hml).trans (by rw [(cells_of_block h.blk).1, ← hvb]; rfl)
  have hr : Hid _ := hr
  go_enter Try.func20, Try.ntmps20
  go_wp2
  go_loopw [5] (fun i X => ∃ j : Nat, j ≤ M.length ∧ i = .int .i64 (j : Int) ∧ Below W.heap.size W X ∧ ∀ x ∈ M.take j, x.1 ≠ a) (fun i _ => M.length - (intOf i).toNat)
  case atStart => exact ⟨0, by omega, rfl, Below.refl _ _, by simp⟩
  case round =>
    obtain ⟨j, hj, rfl, hX, hno⟩ := hrel
    have c2 := hr.out _ hX
    by_cases hlt : j < M.length
    · have hlt' : (j : Int) < (M.length : Int) := by omega
      obtain ⟨g, cap, ev, hg, d0, d1⟩ := h.at hlt
      rw [hvb] at ev
      simp at ev
      obtain ⟨rfl, rfl⟩ := ev
      have e0 := (hX.cell (p := ⟨g, j * 2, none⟩) hg).trans d0
      have e1 := (hX.cell (p := ⟨g, j * 2 + 1, none⟩) hg).trans d1
      have hal := h.all M[j] (List.getElem_mem hlt)
      have htk := List.take_succ_eq_append_getElem hlt
      by_cases he : M[j].1 = a
      · rw [he] at hal e0
        generalize M[j] = x at *
        obtain ⟨xp, xv⟩ := x
        obtain ⟨ax, cx, ex⟩ := cn_slice hal.1
        simp only at ex e1 hal
        subst ex
        clear d0 d1 htk hvb
        go_wp2
        go_ret
        exact ⟨_, rfl, hal.1.below hX, fun g hg => (hal.2 g hg).1, hX⟩
      · have hne : ¬ (M[j].1 : Int) = (a : Int) := by omega
        go_wp2
        all_goals go_roundw
        case rel =>
          refine ⟨j + 1, by omega, by go_num, hX, fun x hx => ?_⟩
          rw [htk] at hx
          rcases List.mem_append.1 hx with hx | hx
          · exact hno x hx
          · rw [List.mem_singleton] at hx; subst hx; exact he
        case measure => (simp [intOf] <;> omega)
    · have hjn : j = M.length := by omega
      subst hjn
      rw [List.take_length] at hno
      go_wp2
      go_ret
      exact ⟨_, rfl, .inl ⟨h.nobody hI hno, _, _, rfl⟩, by simp [Value.ownBlock], hX⟩
/-- The state with other balances. -/
theorem Stt.put (h : Stt W m base B vs vb M b) (hI : ∀ p, p ≤ 256 → Purse (b p)) {X : World} (hX : Below W.heap.size W X) {a : Nat} (ha : a < 205) {l v' : Value} {z : Nat → Cn} (hl : IsCoins W l (lst z 8)) (hlb : ∀ g, l.ownBlock = some g → B g ∧ g ≠ m) (hbase : base ≤ W.heap.size) {D0 : Bool} (hD : D0 = true ↔ lst z 8 = []) (hr : X.ownsRow W.heap.size 46 2 v' (putGo a l D0 M).length (cellsB (putGo a l D0 M))) :
    ∃ B', Stt (X.setCell ⟨m, 2, none⟩ v') m base B' vs v' (putGo a l D0 M) (setB b a z) ∧ Fr W (X.setCell ⟨m, 2, none⟩ v') B B' := by
  have hml := (h.foot m h.bm).2
  have hblk := (hX.block m hml).trans h.blk
  have e1 := setCell_eq_setRow X m 2 _ 37 (0, 0) v' hblk
  have e2 := setRow_heap X m _ ((#[.int .u64 0, vs, vb, .slice none 0 0, .slice none 0 0, .slice none 0 0, .slice none 0 0, .slice none 0 0] : Array Value).setIfInBounds 2 v') 37 (0, 0) hblk
  have eo : ∀ k, k ≠ m → (X.setCell ⟨m, 2, none⟩ v').heap[k]? = X.heap[k]? := fun k hk => by rw [e1]; exact setRow_other X m k _ hk
  have es : (X.setCell ⟨m, 2, none⟩ v').heap.size = X.heap.size := by rw [e1]; exact setRow_size _ _ _
  have hk0 : ∀ k, k < W.heap.size → k ≠ m → (X.setCell ⟨m, 2, none⟩ v').heap[k]? = W.heap[k]? := fun k hk hne => (eo k hne).trans (hX.block k hk)
  have hsz : W.heap.size ≤ (X.setCell ⟨m, 2, none⟩ v').heap.size := by rw [es]; exact hX.size
  have hb' : ∀ g, v'.ownBlock = some g → W.heap.size ≤ g ∧ g < X.heap.size := fun g hg => hr.lt g hg
  refine ⟨fun k => B k ∨ v'.ownBlock = some k, ⟨?_, .inl h.bm, ?_, fun g hg => ⟨.inl (h.bs g hg).1, (h.bs g hg).2⟩, ?_, fun g hg => ⟨.inr hg, by have := hb' g hg; omega⟩, fun x hx => ?_, ?_, fun k hk => ?_⟩, ?_⟩
  · rw [e1, e2]; rfl
  · rw [setB_off (by omega)]
    exact h.sup.keep (fun g hg => hk0 g (h.foot g (h.bs g hg).1).2 (h.bs g hg).2) hsz
  · refine ⟨hr.1, ?_⟩
    rcases hr.2 with h2 | ⟨g, cap, cur, hv, hg, hb, r⟩
    · exact .inl h2
    · have hne : g ≠ m := by have := hb' g (by rw [hv]; rfl); omega
      exact .inr ⟨g, cap, cur, hv, Nat.le_trans hbase hg, (eo g hne).trans hb, r⟩
  · rcases putGo_mem M D0 hx with rfl | ⟨h1, h2⟩
    · rw [setB_at]
      exact ⟨hl.keep (fun g hg => hk0 g (h.foot g (hlb g hg).1).2 (hlb g hg).2) hsz, fun g hg => ⟨.inl (hlb g hg).1, (hlb g hg).2⟩⟩
    · rw [setB_off h2]
      obtain ⟨q1, q2⟩ := h.all x h1
      exact ⟨q1.keep (fun g hg => hk0 g (h.foot g (q2 g hg).1).2 (q2 g hg).2) hsz, fun g hg => ⟨.inl (q2 g hg).1, (q2 g hg).2⟩⟩
  · rw [putGo_fst, h.adr]
    exact goA_in (by rw [setB_at]; exact hD) (fun q hq => setB_off hq) 205 0 (by omega) (by omega)
  · rcases hk with hk | hk
    · exact ⟨(h.foot k hk).1, Nat.lt_of_lt_of_le (h.foot k hk).2 hsz⟩
    · have := hb' k hk
      exact ⟨by omega, by rw [es]; omega⟩
  · refine ⟨by rw [e1]; exact (setRow_os _ _ _).trans hX.os, by rw [e1]; exact (setRow_tape _ _ _).trans hX.tape, by rw [e1]; exact (setRow_output _ _ _).trans hX.output, hsz, fun k hk hB => hk0 k hk (fun e => hB (e ▸ h.bm)), fun k hk => ?_, fun k hk => .inl hk⟩
    rcases hk with hk | hk
    · exact .inl hk
    · exact .inr (hb' k hk).1
set_option maxHeartbeats 8000000 in
theorem putR9_any (h : Stt W m base B vs vb M b) (hI : ∀ p, p ≤ 256 → Purse (b p)) {a : Nat} (ha : a < 205) {l : Value} {z : Nat → Cn} (hl : IsCoins W l (lst z 8)) (hlb : ∀ g, l.ownBlock = some g → B g ∧ g ≠ m) (hbase : base ≤ W.heap.size) :
    Calls Try.prog 45 #[.pointer (some ⟨m, 0, none⟩), .int .u8 a, l] W fun e w' => e = .returned (.tuple #[]) ∧ ∃ B' vb' M', Stt w' m base B' vs vb' M' (setB b a z) ∧ Fr W w' B B' := by
  obtain ⟨i0, hi0, hz0, hz1, hz2⟩ := info_parts bal_info
  have hml := (h.foot m h.bm).2
  have hlM := h.len
  obtain ⟨av, cv, hvb⟩ := row_slice h.row
  have hend := fun X (hX : Below W.heap.size W X) (v' : Value) (D0 : Bool) (hD : D0 = true ↔ lst z 8 = []) hrr => h.put hI hX ha hl hlb hbase (v' := v') hD hrr
  have hend : Hid _ := hend
  obtain ⟨al, cl, rfl⟩ := cn_slice hl
  have hr : ∀ X, Below W.heap.size W X → X.cell? ⟨m, 2, none⟩ = some (.slice av M.length cv) := fun X hX => (hX.cell (p := ⟨m, 2, none⟩) hml).trans (by rw [(cells_of_block h.blk).1, ← hvb]; rfl)
  have hr : Hid _ := hr
  obtain ⟨nl, hnl⟩ : ∃ nl, (lst z 8).length = nl := ⟨_, rfl⟩
  have hd0 : decide ((nl : Int) = 0) = true ↔ lst z 8 = [] := by
    rw [decide_eq_true_eq, ← hnl]
    constructor
    · intro e; exact List.eq_nil_of_length_eq_zero (by omega)
    · intro e; rw [e]; rfl
  have hd0 : Hid _ := hd0
  rw [hnl] at hl hlb hend ⊢
  have hd0' : (((nl : Int) == 0) = true ↔ lst z 8 = []) := by rw [← hd0.out]; simp
  clear hd0
  obtain ⟨D0, hD0⟩ : ∃ D0, ((nl : Int) == 0) = D0 := ⟨_, rfl⟩
  rw [hD0] at hd0'
  have hone : (Value.slice al nl cl).oneCell' = true := rfl
  go_enter Try.func45, Try.ntmps45
  go_wp2
  go_loopw [6, 7, 8] (fun ov dv i X => ∃ (j : Nat) (O : List (Nat × Value)) (D : Bool), j ≤ M.length ∧ i = .int .i64 (j : Int) ∧ dv = .bool D ∧ X.ownsRow W.heap.size 46 2 ov O.length (cellsB O) ∧ O ++ putGo a (.slice al nl cl) D (M.drop j) = putGo a (.slice al nl cl) D0 M ∧ O.length ≤ 2 * j ∧ Below W.heap.size W X) (fun _ _ i _ => M.length - (intOf i).toNat)
  case atStart => exact ⟨0, [], D0, by omega, rfl, rfl, World.ownsRow_nil _ _ _ _, by simp, by simp, Below.refl _ _⟩
  case round =>
    obtain ⟨j, O, D, hj, rfl, rfl, hrow, hO, hOl, hX⟩ := hrel
    have c2 := hr.out _ hX
    by_cases hlt : j < M.length
    · have hlt' : (j : Int) < (M.length : Int) := by omega
      obtain ⟨g, cap, ev, hg, d0, d1⟩ := h.at hlt
      rw [hvb] at ev
      simp at ev
      obtain ⟨rfl, rfl⟩ := ev
      have e0 := (hX.cell (p := ⟨g, j * 2, none⟩) hg).trans d0
      have e1 := (hX.cell (p := ⟨g, j * 2 + 1, none⟩) hg).trans d1
      obtain ⟨ax, cx, ex⟩ := cn_slice (h.all M[j] (List.getElem_mem hlt)).1
      rw [List.drop_eq_getElem_cons hlt, putGo] at hO
      generalize hxx : M[j] = x at *
      obtain ⟨xp, xv⟩ := x
      simp only at ex e0 e1 hO
      generalize (lst (b xp) 8).length = nx at *
      subst ex
      have honx : (Value.slice ax nx cx).oneCell' = true := rfl
      clear d0 d1 hvb hxx
      have hO0 : Hid (O ++ _ = _) := hO
      clear hO
      obtain ⟨ao, co, rfl⟩ := row_slice hrow
      have hlo : ∀ n, Value.ownBlock (.slice ao O.length co) = some n → n < wr.heap.size := fun n hn => (hrow.lt n hn).2
      have hlo : Hid _ := hlo
      have hol : O.length ≤ 900 := by omega
      by_cases hc : D = false ∧ a < xp
      · obtain ⟨rfl, hac⟩ := hc
        have hac' : (a : Int) < (xp : Int) := by omega
        have hne : ¬ (xp : Int) = (a : Int) := by omega
        go_wp2_with (first
          | (at_builtin; refine bal_app (own_below hrow (by (repeat (first | (with_reducible exact Below.refl _ _) | (with_reducible assumption) | (with_reducible apply bd) | (with_reducible apply ba) | (with_reducible refine bp ?_ (by first | omega | (simp [pad_size]; done) | (simp [pad_size]; omega)) _ _) | (with_reducible refine bs ?_ (by first | omega | (simp [pad_size]; done) | (simp [pad_size]; omega)) _) | (with_reducible refine bt ?_ (by assumption)))))) (bt hX (by (repeat (first | (with_reducible exact Below.refl _ _) | (with_reducible assumption) | (with_reducible apply bd) | (with_reducible apply ba) | (with_reducible refine bp ?_ (by first | omega | (simp [pad_size]; done) | (simp [pad_size]; omega)) _ _) | (with_reducible refine bs ?_ (by first | omega | (simp [pad_size]; done) | (simp [pad_size]; omega)) _) | (with_reducible refine bt ?_ (by assumption)))))) (by omega) (a, .slice al nl cl) hone rfl _ _ rfl rfl rfl (by (repeat (first | (with_reducible exact al_at (by simp [pad_size])) | (with_reducible refine Eq.trans (dr_blk _ _) ?_) | (with_reducible refine Eq.trans (al_old (by first | omega | (simp [pad_size]; done) | (simp [pad_size]; omega))) ?_) | (with_reducible refine Eq.trans (pad_block (by first | omega | (simp [pad_size]; done) | (simp [pad_size]; omega)) (by first | omega | (simp [pad_size]; done) | (simp [pad_size]; omega))) ?_) | (with_reducible assumption)))) ?_; intro O4 v4 w4 hO4 hr4 hb4 hk4 hs4; simp at hs4; have hl4 : O4.length ≤ 901 := (by rw [hO4.out]; simp; omega); have k9 := (hk4 wr.heap.size (by simp <;> omega) (fun e => absurd (hlo.out _ e) (by omega))).trans (by (repeat (first | (with_reducible exact al_at (by simp [pad_size])) | (with_reducible refine Eq.trans (dr_blk _ _) ?_) | (with_reducible refine Eq.trans (al_old (by first | omega | (simp [pad_size]; done) | (simp [pad_size]; omega))) ?_) | (with_reducible refine Eq.trans (pad_block (by first | omega | (simp [pad_size]; done) | (simp [pad_size]; omega)) (by first | omega | (simp [pad_size]; done) | (simp [pad_size]; omega))) ?_) | (with_reducible assumption))) : _ = some (.cells #[.int .u8 (xp : Int), .slice ax nx cx] 46 (0, 0))); obtain ⟨k90, k91⟩ := cells_of_block k9; have k92 := k90 0; have k93 := k90 1; clear k9 k90 k91; obtain ⟨a4, c4, rfl⟩ := row_slice hr4)
          | (at_builtin; go_loud (refine bal_app (own_below hr4 (by (repeat (first | (with_reducible exact Below.refl _ _) | (with_reducible assumption) | (with_reducible apply bd) | (with_reducible apply ba) | (with_reducible refine bp ?_ (by first | omega | (simp [pad_size]; done) | (simp [pad_size]; omega)) _ _) | (with_reducible refine bs ?_ (by first | omega | (simp [pad_size]; done) | (simp [pad_size]; omega)) _) | (with_reducible refine bt ?_ (by assumption)))))) (bt hb4 (by (repeat (first | (with_reducible exact Below.refl _ _) | (with_reducible assumption) | (with_reducible apply bd) | (with_reducible apply ba) | (with_reducible refine bp ?_ (by first | omega | (simp [pad_size]; done) | (simp [pad_size]; omega)) _ _) | (with_reducible refine bs ?_ (by first | omega | (simp [pad_size]; done) | (simp [pad_size]; omega)) _) | (with_reducible refine bt ?_ (by assumption)))))) (by omega) (xp, .slice ax nx cx) honx rfl _ _ rfl rfl rfl (by (repeat (first | (with_reducible exact al_at (by simp [pad_size])) | (with_reducible refine Eq.trans (dr_blk _ _) ?_) | (with_reducible refine Eq.trans (al_old (by first | omega | (simp [pad_size]; done) | (simp [pad_size]; omega))) ?_) | (with_reducible refine Eq.trans (pad_block (by first | omega | (simp [pad_size]; done) | (simp [pad_size]; omega)) (by first | omega | (simp [pad_size]; done) | (simp [pad_size]; omega))) ?_) | (with_reducible assumption)))) ?_; intro O5 v5 w5 hO5 hr5 hb5 hk5 hs5)))
        all_goals go_roundw
        case rel => exact ⟨j + 1, O5, true, by omega, by go_num, rfl, hr5, by rw [hO5.out, hO4.out, ← hO0.out]; have hh : ¬ xp = a := (by omega); simp [hac, hh], by rw [hO5.out, hO4.out]; simp; omega, hb5⟩
        case measure => (simp [intOf] <;> omega)
      · have hg36 : D = false → ¬ (a : Int) < (xp : Int) := fun h1 h2 => hc ⟨h1, by omega⟩
        by_cases he : xp = a
        · subst he
          have hlx : ¬ (xp : Int) < (xp : Int) := by omega
          cases D
          · go_wp2
            all_goals go_roundw
            case rel => exact ⟨j + 1, O, false, by omega, by go_num, rfl, own_below hrow (by (repeat (first | (with_reducible exact Below.refl _ _) | (with_reducible assumption) | (with_reducible apply bd) | (with_reducible apply ba) | (with_reducible refine bp ?_ (by first | omega | (simp [pad_size]; done) | (simp [pad_size]; omega)) _ _) | (with_reducible refine bs ?_ (by first | omega | (simp [pad_size]; done) | (simp [pad_size]; omega)) _) | (with_reducible refine bt ?_ (by assumption))))), by rw [← hO0.out]; simp, by omega, bt hX (by (repeat (first | (with_reducible exact Below.refl _ _) | (with_reducible assumption) | (with_reducible apply bd) | (with_reducible apply ba) | (with_reducible refine bp ?_ (by first | omega | (simp [pad_size]; done) | (simp [pad_size]; omega)) _ _) | (with_reducible refine bs ?_ (by first | omega | (simp [pad_size]; done) | (simp [pad_size]; omega)) _) | (with_reducible refine bt ?_ (by assumption)))))⟩
            case measure => (simp [intOf] <;> omega)
          · go_wp2
            all_goals go_roundw
            case rel => exact ⟨j + 1, O, true, by omega, by go_num, rfl, own_below hrow (by (repeat (first | (with_reducible exact Below.refl _ _) | (with_reducible assumption) | (with_reducible apply bd) | (with_reducible apply ba) | (with_reducible refine bp ?_ (by first | omega | (simp [pad_size]; done) | (simp [pad_size]; omega)) _ _) | (with_reducible refine bs ?_ (by first | omega | (simp [pad_size]; done) | (simp [pad_size]; omega)) _) | (with_reducible refine bt ?_ (by assumption))))), by rw [← hO0.out]; simp, by omega, bt hX (by (repeat (first | (with_reducible exact Below.refl _ _) | (with_reducible assumption) | (with_reducible apply bd) | (with_reducible apply ba) | (with_reducible refine bp ?_ (by first | omega | (simp [pad_size]; done) | (simp [pad_size]; omega)) _ _) | (with_reducible refine bs ?_ (by first | omega | (simp [pad_size]; done) | (simp [pad_size]; omega)) _) | (with_reducible refine bt ?_ (by assumption)))))⟩
            case measure => (simp [intOf] <;> omega)
        · have hne : ¬ (xp : Int) = (a : Int) := by omega
          have hDo : Hid (D = true ∨ ¬ a < xp) := by
            cases D
            · exact .inr (fun h => hc ⟨rfl, h⟩)
            · exact .inl rfl
          cases D
          · have hlx := hg36 rfl
            go_wp2_with (at_builtin; refine bal_app (own_below hrow (by (repeat (first | (with_reducible exact Below.refl _ _) | (with_reducible assumption) | (with_reducible apply bd) | (with_reducible apply ba) | (with_reducible refine bp ?_ (by first | omega | (simp [pad_size]; done) | (simp [pad_size]; omega)) _ _) | (with_reducible refine bs ?_ (by first | omega | (simp [pad_size]; done) | (simp [pad_size]; omega)) _) | (with_reducible refine bt ?_ (by assumption)))))) (bt hX (by (repeat (first | (with_reducible exact Below.refl _ _) | (with_reducible assumption) | (with_reducible apply bd) | (with_reducible apply ba) | (with_reducible refine bp ?_ (by first | omega | (simp [pad_size]; done) | (simp [pad_size]; omega)) _ _) | (with_reducible refine bs ?_ (by first | omega | (simp [pad_size]; done) | (simp [pad_size]; omega)) _) | (with_reducible refine bt ?_ (by assumption)))))) (by omega) (xp, .slice ax nx cx) honx rfl _ _ rfl rfl rfl (by (repeat (first | (with_reducible exact al_at (by simp [pad_size])) | (with_reducible refine Eq.trans (dr_blk _ _) ?_) | (with_reducible refine Eq.trans (al_old (by first | omega | (simp [pad_size]; done) | (simp [pad_size]; omega))) ?_) | (with_reducible refine Eq.trans (pad_block (by first | omega | (simp [pad_size]; done) | (simp [pad_size]; omega)) (by first | omega | (simp [pad_size]; done) | (simp [pad_size]; omega))) ?_) | (with_reducible assumption)))) ?_; intro O5 v5 w5 hO5 hr5 hb5 hk5 hs5)
            all_goals go_roundw
            case rel => exact ⟨j + 1, O5, false, by omega, by go_num, rfl, hr5, by rw [hO5.out, ← hO0.out]; have hh : ¬ a < xp := (by omega); simp [he, hh], by rw [hO5.out]; simp; omega, hb5⟩
            case measure => (simp [intOf] <;> omega)
          · go_wp2_with (at_builtin; refine bal_app (own_below hrow (by (repeat (first | (with_reducible exact Below.refl _ _) | (with_reducible assumption) | (with_reducible apply bd) | (with_reducible apply ba) | (with_reducible refine bp ?_ (by first | omega | (simp [pad_size]; done) | (simp [pad_size]; omega)) _ _) | (with_reducible refine bs ?_ (by first | omega | (simp [pad_size]; done) | (simp [pad_size]; omega)) _) | (with_reducible refine bt ?_ (by assumption)))))) (bt hX (by (repeat (first | (with_reducible exact Below.refl _ _) | (with_reducible assumption) | (with_reducible apply bd) | (with_reducible apply ba) | (with_reducible refine bp ?_ (by first | omega | (simp [pad_size]; done) | (simp [pad_size]; omega)) _ _) | (with_reducible refine bs ?_ (by first | omega | (simp [pad_size]; done) | (simp [pad_size]; omega)) _) | (with_reducible refine bt ?_ (by assumption)))))) (by omega) (xp, .slice ax nx cx) honx rfl _ _ rfl rfl rfl (by (repeat (first | (with_reducible exact al_at (by simp [pad_size])) | (with_reducible refine Eq.trans (dr_blk _ _) ?_) | (with_reducible refine Eq.trans (al_old (by first | omega | (simp [pad_size]; done) | (simp [pad_size]; omega))) ?_) | (with_reducible refine Eq.trans (pad_block (by first | omega | (simp [pad_size]; done) | (simp [pad_size]; omega)) (by first | omega | (simp [pad_size]; done) | (simp [pad_size]; omega))) ?_) | (with_reducible assumption)))) ?_; intro O5 v5 w5 hO5 hr5 hb5 hk5 hs5)
            all_goals go_roundw
            case rel => exact ⟨j + 1, O5, true, by omega, by go_num, rfl, hr5, by rw [hO5.out, ← hO0.out]; simp [he], by rw [hO5.out]; simp; omega, hb5⟩
            case measure => (simp [intOf] <;> omega)
    · have hjn : j = M.length := by omega
      subst hjn
      rw [List.drop_length] at hO
      obtain ⟨ao, co, rfl⟩ := row_slice hrow
      have hol : O.length ≤ 900 := by omega
      have hO0 : Hid (O ++ _ = _) := hO
      clear hO
      cases D
      · go_wp2_with (at_builtin; refine bal_app (own_below hrow (by (repeat (first | (with_reducible exact Below.refl _ _) | (with_reducible assumption) | (with_reducible apply bd) | (with_reducible apply ba) | (with_reducible refine bp ?_ (by first | omega | (simp [pad_size]; done) | (simp [pad_size]; omega)) _ _) | (with_reducible refine bs ?_ (by first | omega | (simp [pad_size]; done) | (simp [pad_size]; omega)) _) | (with_reducible refine bt ?_ (by assumption)))))) (bt hX (by (repeat (first | (with_reducible exact Below.refl _ _) | (with_reducible assumption) | (with_reducible apply bd) | (with_reducible apply ba) | (with_reducible refine bp ?_ (by first | omega | (simp [pad_size]; done) | (simp [pad_size]; omega)) _ _) | (with_reducible refine bs ?_ (by first | omega | (simp [pad_size]; done) | (simp [pad_size]; omega)) _) | (with_reducible refine bt ?_ (by assumption)))))) (by omega) (a, .slice al nl cl) hone rfl _ _ rfl rfl rfl (by (repeat (first | (with_reducible exact al_at (by simp [pad_size])) | (with_reducible refine Eq.trans (dr_blk _ _) ?_) | (with_reducible refine Eq.trans (al_old (by first | omega | (simp [pad_size]; done) | (simp [pad_size]; omega))) ?_) | (with_reducible refine Eq.trans (pad_block (by first | omega | (simp [pad_size]; done) | (simp [pad_size]; omega)) (by first | omega | (simp [pad_size]; done) | (simp [pad_size]; omega))) ?_) | (with_reducible assumption)))) ?_; intro O5 v5 w5 hO5 hr5 hb5 hk5 hs5; have hb5m := (hb5.block m hml).trans h.blk; obtain ⟨cm, fm⟩ := cells_of_block hb5m; have c52 := cm 2; have f52 := fm 2; clear cm fm hb5m; simp at c52; obtain ⟨a5, c5, rfl⟩ := row_slice hr5)
        refine bodyPost_end (v := .tuple #[]) (by simp [results, Try.results45]) rfl ?_
        have e : O5 = putGo a (.slice al nl cl) D0 M := by rw [hO5.out, ← hO0.out]; rfl
        rw [e] at hr5
        obtain ⟨B', q1, q2⟩ := hend.out _ hb5 _ D0 hd0' hr5
        rw [e]
        exact ⟨rfl, B', _, _, q1, q2⟩
      · have hb5m := (hX.block m hml).trans h.blk
        obtain ⟨cm, fm⟩ := cells_of_block hb5m
        have f52 := fm 2
        go_wp2
        refine bodyPost_end (v := .tuple #[]) (by simp [results, Try.results45]) rfl ?_
        have e : O = putGo a (.slice al nl cl) D0 M := by rw [← hO0.out]; simp [putGo]
        rw [e] at hrow
        obtain ⟨B', q1, q2⟩ := hend.out _ hX _ D0 hd0' hrow
        rw [e]
        exact ⟨rfl, B', _, _, q1, q2⟩
end
end Go.Proofs.Ytgphdioolcfmmaa

/- The reference's bank: Send, Mint, Burn. -/
namespace Go.Proofs.Ytgphdioolcfmmaa
open Go.RowKit

set_option maxHeartbeats 1000000 in
theorem mayR_any {a c : Nat} (ha : a ≤ 255) (hc : c ≤ 255) {W : World} {v : Value} {l : List Cn} (hv : IsCoins W v l) (hwf : ∀ x ∈ l, CnWf x) :
    Calls Try.prog 43 #[v, .int .u8 a, .int .u8 c] W fun e w' => e = .returned (.bool (rightFrom 0 l && (decide (a < 205) && decide (c < 205)))) ∧ Below W.heap.size W w' := by
  have hA := fun X => isR9_any a ha X
  have hC := fun X => isR9_any c hc X
  have hR := rightR_any W hv hwf
  cases hr : rightFrom 0 l
  · rw [hr] at hR
    clear hA hC
    go_enter Try.func43, Try.ntmps43
    go_wp2_with (go_at_call 61; refine hR.mono ?_; rintro e w1 ⟨rfl, hb1⟩)
    go_ret
    exact ⟨rfl, hb1⟩
  · rw [hr] at hR
    cases hd : decide (a < 205)
    · rw [hd] at hA
      clear hC
      go_enter Try.func43, Try.ntmps43
      go_wp2_with (first
        | (go_at_call 61; refine hR.mono ?_; clear hR; rintro e w1 ⟨rfl, hb1⟩)
        | (go_at_call 26; refine (hA _).mono ?_; rintro e w2 ⟨rfl, hw⟩; obtain rfl := hw.symm))
      go_ret
      exact ⟨rfl, hb1⟩
    · rw [hd] at hA
      cases hd2 : decide (c < 205)
      all_goals
        rw [hd2] at hC
        go_enter Try.func43, Try.ntmps43
        go_wp2_with (first
          | (go_at_call 61; refine hR.mono ?_; clear hR; rintro e w1 ⟨rfl, hb1⟩)
          | (go_at_call 26; refine (hA _).mono ?_; clear hA; rintro e w2 ⟨rfl, hw⟩; obtain rfl := hw.symm)
          | (go_at_call 26; refine (hC _).mono ?_; clear hC; rintro e w3 ⟨rfl, hw⟩; obtain rfl := hw.symm))
        go_ret
        exact ⟨rfl, hb1⟩
theorem has_two {b : Nat → Nat → Cn} {p : Nat} {y : Nat → Cn} (h : ¬ Has b p y) : ∃ d, d < 8 ∧ vl (b p d) < vl (y d) :=
  Classical.byContradiction fun hc => h fun d hd => Classical.byContradiction fun h2 => hc ⟨d, hd, by omega⟩
theorem fits_two {b : Nat → Nat → Cn} {p : Nat} {y : Nat → Cn} (h : ¬ Fits b p y) : ∃ d, d < 8 ∧ 115792089237316195423570985008687907853269984665640564039457584007913129639936 ≤ vl (b p d) + vl (y d) :=
  Classical.byContradiction fun hc => h fun d hd => Classical.byContradiction fun h2 => hc ⟨d, hd, by omega⟩
section
variable {W : World} {m base : Nat} {B : Nat → Prop} {vs vb : Value} {M : List (Nat × Value)} {b : Nat → Nat → Cn}
theorem Stt.ble (h : Stt W m base B vs vb M b) : base ≤ W.heap.size := by have := h.foot m h.bm; omega
/-- A list that was just made is the state's, too. -/
theorem Stt.take {X : World} (h : Stt W m base B vs vb M b) (hX : Below W.heap.size W X) {u : Value} (hu : ∀ g, u.ownBlock = some g → W.heap.size ≤ g ∧ g < X.heap.size) :
    Stt X m base (fun k => B k ∨ u.ownBlock = some k) vs vb M b ∧ Fr W X B (fun k => B k ∨ u.ownBlock = some k) ∧ ∀ g, u.ownBlock = some g → (B g ∨ u.ownBlock = some g) ∧ g ≠ m := by
  have hbs := h.ble
  have hml := (h.foot m h.bm).2
  refine ⟨(h.below hX).ext (fun k hk => .inl hk) (fun k hk => ?_), ⟨hX.os, hX.tape, hX.output, hX.size, fun k hk _ => hX.block k hk, fun k hk => ?_, fun k hk => .inl hk⟩, fun g hg => ⟨.inr hg, by have := hu g hg; omega⟩⟩
  · rcases hk with hk | hk
    · exact ⟨(h.foot k hk).1, Nat.lt_of_lt_of_le (h.foot k hk).2 hX.size⟩
    · have := hu k hk; omega
  · rcases hk with hk | hk
    · exact .inl hk
    · exact .inr (hu k hk).1
set_option maxHeartbeats 4000000 in
theorem sendR_bad {f t : Nat} (hf : f ≤ 255) (ht : t ≤ 255) {v : Value} {l : List Cn} (hv : IsCoins W v l) (hwf : ∀ x ∈ l, CnWf x) (hbad : ¬ (f < 205 ∧ rightFrom 0 l = true ∧ t < 205)) :
    Calls Try.prog 29 #[.pointer (some ⟨m, 0, none⟩), .int .u8 f, .int .u8 t, v] W fun e w' => e = .returned (.int .i64 1) ∧ Below W.heap.size W w' := by
  have hM := mayR_any hf ht hv hwf
  have hm' : (rightFrom 0 l && (decide (f < 205) && decide (t < 205))) = false := by
    cases h1 : rightFrom 0 l
    · rfl
    · by_cases h2 : f < 205
      · by_cases h3 : t < 205
        · exact absurd ⟨h2, h1, h3⟩ hbad
        · simp [h3]
      · simp [h2]
  rw [hm'] at hM
  clear hbad hm'
  go_enter Try.func29, Try.ntmps29
  go_wp2_with (go_at_call 43; refine hM.mono ?_; rintro e w1 ⟨rfl, hb1⟩)
  go_ret
  exact ⟨rfl, hb1⟩
set_option maxHeartbeats 4000000 in
theorem sendR_no (h : Stt W m base B vs vb M b) (hP : ∀ p, p ≤ 256 → Purse (b p)) {f t : Nat} (hf : f < 205) (ht : t < 205) {v : Value} {l : List Cn} (hv : IsCoins W v l) (hwf : ∀ x ∈ l, CnWf x) (hr : rightFrom 0 l = true) (hno : ¬ Has b f (fun d => amt l d)) :
    Calls Try.prog 29 #[.pointer (some ⟨m, 0, none⟩), .int .u8 f, .int .u8 t, v] W fun e w' => e = .returned (.int .i64 3) ∧ Below W.heap.size W w' := by
  have hM := mayR_any (a := f) (c := t) (by omega) (by omega) hv hwf
  have hl := right_lst hr
  have hY := purse_amt hwf
  rw [hr, decide_eq_true hf, decide_eq_true ht] at hM
  generalize (fun d : Nat => amt l d) = y at *
  subst hl
  go_enter Try.func29, Try.ntmps29
  go_wp2_with (first
    | (go_at_call 43; refine hM.mono ?_; clear hM; rintro e w1 ⟨rfl, hb1⟩)
    | (go_at_call 20; refine (coinsR9_any (h.below hb1) (.inl hf)).mono ?_; rintro e w2 ⟨v2, rfl, hv2, -, hb2⟩; have hB2 := bt hb1 hb2)
    | (go_at_call 44; refine (withinR_any hY (hP f (by omega)) false (.inr ⟨rfl, has_two hno⟩) _ (hv.below hB2) hv2).mono ?_; rintro e w3 ⟨rfl, hb3⟩))
  go_ret
  exact ⟨rfl, bt hB2 hb3⟩
set_option maxHeartbeats 8000000 in
theorem sendR_ok (h : Stt W m base B vs vb M b) (hI : BInv b) {f t : Nat} (hf : f < 205) (ht : t < 205) {v : Value} {l : List Cn} (hv : IsCoins W v l) (hvo : Out B v l) (hwf : ∀ x ∈ l, CnWf x) (hr : rightFrom 0 l = true) (hy : Has b f (fun d => amt l d)) :
    Calls Try.prog 29 #[.pointer (some ⟨m, 0, none⟩), .int .u8 f, .int .u8 t, v] W fun e w' => e = .returned (.int .i64 0) ∧ ∃ B' vs' vb' M', Stt w' m base B' vs' vb' M' (giveB (takeB b f (fun d => amt l d)) t (fun d => amt l d)) ∧ Fr W w' B B' := by
  have hM := mayR_any (a := f) (c := t) (by omega) (by omega) hv hwf
  have hP := hI.pur
  have hl := right_lst hr
  have hY := purse_amt hwf
  have hfit := send_fits hI hf ht hy
  have hP1 := pur_take (y := fun d : Nat => amt l d) hP hY (p := f) (by omega)
  rw [hr, decide_eq_true hf, decide_eq_true ht] at hM
  generalize (fun d : Nat => amt l d) = y at *
  subst hl
  go_enter Try.func29, Try.ntmps29
  go_wp2_with (first
    | (go_at_call 43; refine hM.mono ?_; clear hM; rintro e w1 ⟨rfl, hb1⟩)
    | (go_at_call 44; refine (withinR_any hY (hP f (by omega)) true (.inl ⟨rfl, hy⟩) _ (hv.below hB2) hv2).mono ?_; rintro e w3 ⟨rfl, hb3⟩; have hB3 := bt hB2 hb3; clear hv2 hB2 hb3)
    | (go_at_call 46; refine (restRC_new (hP f (by omega)) hY _ hv4 (hv.below hB4)).mono ?_; rintro e w5 ⟨u5, rfl, hu5, ho5, hb5⟩; obtain ⟨h5, f5, o5⟩ := h.take (bt hB4 hb5) (fun g hg => (⟨Nat.le_trans hB4.size (ho5 g hg).1, (ho5 g hg).2⟩ : W.heap.size ≤ g ∧ g < w5.heap.size)); clear hv4)
    | (go_at_call 45; refine (putR9_any h5 hP hf hu5 o5 h5.ble).mono ?_; clear hu5 ho5 o5; rintro e w6 ⟨rfl, B6, vb6, M6, h6, f6⟩; have g6 := f5.trans f6; have hv6 := hv.fr g6 hvo; have hvo6 := hv.out g6 hvo)
    | (go_at_call 15; refine (addRC_new hP7 hY _ hv7 (hv6.below hb7)).mono ?_; rintro e w8 (⟨-, u8, rfl, hu8, ho8, hb8⟩ | ⟨⟨d, hd, hc⟩, -⟩); rotate_left; exact absurd (hfit d hd) (by omega); obtain ⟨h8, f8, o8⟩ := h6.take (bt hb7 hb8) (fun g hg => (⟨Nat.le_trans hb7.size (ho8 g hg).1, (ho8 g hg).2⟩ : w6.heap.size ≤ g ∧ g < w8.heap.size)); clear hv7)
    | (go_at_call 45; refine (putR9_any h8 hP1 ht hu8 o8 h8.ble).mono ?_; clear hu8 ho8 o8; rintro e w9 ⟨rfl, B9, vb9, M9, h9, f9⟩)
    | (go_at_call 20; refine (coinsR9_any h6 (.inl ht)).mono ?_; rintro e w7 ⟨v7, rfl, hv7, -, hb7⟩; have hP7 := hP1 t (by omega))
    | (go_at_call 20; refine (coinsR9_any (h.below hB3) (.inl hf)).mono ?_; rintro e w4 ⟨v4, rfl, hv4, -, hb4⟩; have hB4 := bt hB3 hb4)
    | (go_at_call 20; refine (coinsR9_any (h.below hb1) (.inl hf)).mono ?_; rintro e w2 ⟨v2, rfl, hv2, -, hb2⟩; have hB2 := bt hb1 hb2))
  go_ret
  exact ⟨rfl, B9, _, vb9, M9, h9, (g6.trans f8).trans f9⟩
end
end Go.Proofs.Ytgphdioolcfmmaa

/- The reference's bank: Mint, Burn. -/
namespace Go.Proofs.Ytgphdioolcfmmaa
open Go.RowKit

section
variable {W : World} {m base : Nat} {B : Nat → Prop} {vs vb : Value} {M : List (Nat × Value)} {b : Nat → Nat → Cn}
/-- The state with another supply. -/
theorem Stt.supply (h : Stt W m base B vs vb M b) {u : Value} {z : Nat → Cn} (hu : IsCoins W u (lst z 8)) (ho : ∀ g, u.ownBlock = some g → B g ∧ g ≠ m) :
    Stt (W.setCell ⟨m, 1, none⟩ u) m base B u vb M (setB b 256 z) ∧ Fr W (W.setCell ⟨m, 1, none⟩ u) B B := by
  have e1 := setCell_eq_setRow W m 1 _ 37 (0, 0) u h.blk
  have e2 := setRow_heap W m _ ((#[.int .u64 0, vs, vb, .slice none 0 0, .slice none 0 0, .slice none 0 0, .slice none 0 0, .slice none 0 0] : Array Value).setIfInBounds 1 u) 37 (0, 0) h.blk
  have eo : ∀ k, k ≠ m → (W.setCell ⟨m, 1, none⟩ u).heap[k]? = W.heap[k]? := fun k hk => by rw [e1]; exact setRow_other W m k _ hk
  have es : (W.setCell ⟨m, 1, none⟩ u).heap.size = W.heap.size := by rw [e1]; exact setRow_size _ _ _
  have hsz : W.heap.size ≤ (W.setCell ⟨m, 1, none⟩ u).heap.size := by rw [es]; exact Nat.le_refl _
  refine ⟨⟨?_, h.bm, ?_, ho, ?_, h.bb, fun x hx => ?_, ?_, fun k hk => by rw [es]; exact h.foot k hk⟩, ?_⟩
  · rw [e1, e2]; rfl
  · rw [setB_at]
    exact hu.keep (fun g hg => eo g (ho g hg).2) hsz
  · have hr := h.row
    refine ⟨hr.1, ?_⟩
    rcases hr.2 with h2 | ⟨g, cap, cur, hv, hg, hb, r⟩
    · exact .inl h2
    · exact .inr ⟨g, cap, cur, hv, hg, (eo g (h.bb g (by rw [hv]; rfl)).2).trans hb, r⟩
  · have hx1 : x.1 ∈ asF b 205 0 := by rw [← h.adr]; exact List.mem_map.2 ⟨x, hx, rfl⟩
    have := (asF_mem 205 0).1 hx1
    rw [setB_off (by omega)]
    exact ⟨(h.all x hx).1.keep (fun g hg => eo g ((h.all x hx).2 g hg).2) hsz, (h.all x hx).2⟩
  · rw [h.adr]
    exact asF_congr 205 0 (fun q _ h2 => by rw [setB_off (by omega)])
  · exact ⟨by rw [e1]; exact setRow_os _ _ _, by rw [e1]; exact setRow_tape _ _ _, by rw [e1]; exact setRow_output _ _ _, hsz, fun k _ hB => eo k (fun e => hB (e ▸ h.bm)), fun k hk => .inl hk, fun k hk => hk⟩
theorem Stt.sup_at (h : Stt W m base B vs vb M b) {X : World} (hX : Below W.heap.size W X) : X.cell? ⟨m, 1, none⟩ = some vs :=
  (hX.cell (p := ⟨m, 1, none⟩) (h.foot m h.bm).2).trans (by rw [(cells_of_block h.blk).1]; rfl)
theorem Stt.fz (h : Stt W m base B vs vb M b) {i : Nat} : W.frozen? ⟨m, i, none⟩ = false := (cells_of_block h.blk).2 i
theorem mayR_bad {t : Nat} {l : List Cn} (hbad : ¬ (t < 205 ∧ rightFrom 0 l = true)) : (rightFrom 0 l && (decide (t < 205) && decide (t < 205))) = false := by
  cases h1 : rightFrom 0 l
  · rfl
  · by_cases h2 : t < 205
    · exact absurd ⟨h2, h1⟩ hbad
    · simp [h2]
set_option maxHeartbeats 4000000 in
theorem mintR_bad {t : Nat} (ht : t ≤ 255) {v : Value} {l : List Cn} (hv : IsCoins W v l) (hwf : ∀ x ∈ l, CnWf x) (hbad : ¬ (t < 205 ∧ rightFrom 0 l = true)) :
    Calls Try.prog 30 #[.pointer (some ⟨m, 0, none⟩), .int .u8 t, v] W fun e w' => e = .returned (.int .i64 1) ∧ Below W.heap.size W w' := by
  have hM := mayR_any ht ht hv hwf
  rw [mayR_bad hbad] at hM
  clear hbad
  go_enter Try.func30, Try.ntmps30
  go_wp2_with (go_at_call 43; refine hM.mono ?_; rintro e w1 ⟨rfl, hb1⟩)
  go_ret
  exact ⟨rfl, hb1⟩
set_option maxHeartbeats 4000000 in
theorem burnR_bad {t : Nat} (ht : t ≤ 255) {v : Value} {l : List Cn} (hv : IsCoins W v l) (hwf : ∀ x ∈ l, CnWf x) (hbad : ¬ (t < 205 ∧ rightFrom 0 l = true)) :
    Calls Try.prog 31 #[.pointer (some ⟨m, 0, none⟩), .int .u8 t, v] W fun e w' => e = .returned (.int .i64 1) ∧ Below W.heap.size W w' := by
  have hM := mayR_any ht ht hv hwf
  rw [mayR_bad hbad] at hM
  clear hbad
  go_enter Try.func31, Try.ntmps31
  go_wp2_with (go_at_call 43; refine hM.mono ?_; rintro e w1 ⟨rfl, hb1⟩)
  go_ret
  exact ⟨rfl, hb1⟩
set_option maxHeartbeats 4000000 in
theorem mintR_no (h : Stt W m base B vs vb M b) (hP : ∀ p, p ≤ 256 → Purse (b p)) {t : Nat} (ht : t < 205) {v : Value} {l : List Cn} (hv : IsCoins W v l) (hwf : ∀ x ∈ l, CnWf x) (hr : rightFrom 0 l = true) (hno : ¬ Fits b 256 (fun d => amt l d)) :
    Calls Try.prog 30 #[.pointer (some ⟨m, 0, none⟩), .int .u8 t, v] W fun e w' => e = .returned (.int .i64 2) ∧ Below W.heap.size W w' := by
  have hM := mayR_any (a := t) (c := t) (by omega) (by omega) hv hwf
  have hl := right_lst hr
  have hY := purse_amt hwf
  rw [hr, decide_eq_true ht] at hM
  generalize (fun d : Nat => amt l d) = y at *
  subst hl
  go_enter Try.func30, Try.ntmps30
  go_wp2_with (first
    | (go_at_call 43; refine hM.mono ?_; clear hM; rintro e w1 ⟨rfl, hb1⟩; have c1 := h.sup_at hb1; obtain ⟨a0, k0, rfl⟩ := cn_slice h.sup)
    | (go_at_call 15; refine (addRC_no (hP 256 (by omega)) hY (fits_two hno) _ (h.sup.below hb1) (hv.below hb1)).mono ?_; rintro e w2 ⟨rfl, hb2⟩))
  go_ret
  exact ⟨rfl, bt hb1 hb2⟩
set_option maxHeartbeats 8000000 in
theorem mintR_ok (h : Stt W m base B vs vb M b) (hI : BInv b) {t : Nat} (ht : t < 205) {v : Value} {l : List Cn} (hv : IsCoins W v l) (hvo : Out B v l) (hwf : ∀ x ∈ l, CnWf x) (hr : rightFrom 0 l = true) (hy : Fits b 256 (fun d => amt l d)) :
    Calls Try.prog 30 #[.pointer (some ⟨m, 0, none⟩), .int .u8 t, v] W fun e w' => e = .returned (.int .i64 0) ∧ ∃ B' vs' vb' M', Stt w' m base B' vs' vb' M' (giveB (giveB b 256 (fun d => amt l d)) t (fun d => amt l d)) ∧ Fr W w' B B' := by
  have hM := mayR_any (a := t) (c := t) (by omega) (by omega) hv hwf
  have hP := hI.pur
  have hl := right_lst hr
  have hY := purse_amt hwf
  have hfit := mint_fits hI ht hy
  have hP1 := pur_give (y := fun d : Nat => amt l d) hP hY (p := 256) (by omega) hy
  rw [hr, decide_eq_true ht] at hM
  generalize (fun d : Nat => amt l d) = y at *
  subst hl
  go_enter Try.func30, Try.ntmps30
  go_wp2_with (first
    | (go_at_call 43; refine hM.mono ?_; clear hM; rintro e w1 ⟨rfl, hb1⟩; have c1 := h.sup_at hb1; obtain ⟨a0, k0, rfl⟩ := cn_slice h.sup)
    | (go_at_call 15; refine (addRC_new hP7 hY _ hv7 (hv6.below hb7)).mono ?_; rintro e w8 (⟨-, u8, rfl, hu8, ho8, hb8⟩ | ⟨⟨d, hd, hc⟩, -⟩); rotate_left; exact absurd (hfit d hd) (by omega); obtain ⟨h8, f8, o8⟩ := h6.take (bt hb7 hb8) (fun g hg => ⟨Nat.le_trans hb7.size (ho8 g hg).1, (ho8 g hg).2⟩); clear hv7)
    | (go_at_call 15; refine (addRC_new (hP 256 (by omega)) hY _ (h.sup.below hb1) (hv.below hb1)).mono ?_; rintro e w2 (⟨-, u2, rfl, hu2, ho2, hb2⟩ | ⟨⟨d, hd, hc⟩, -⟩); rotate_left; exact absurd (hy d hd) (by omega); clear c1; obtain ⟨a2, k2, rfl⟩ := cn_slice hu2; obtain ⟨h2, f2, o2⟩ := h.take (bt hb1 hb2) (fun g hg => (⟨Nat.le_trans hb1.size (ho2 g hg).1, (ho2 g hg).2⟩ : W.heap.size ≤ g ∧ g < w2.heap.size)); have c2 := h2.sup_at (Below.refl _ _); have z2 := h2.fz (i := 1); obtain ⟨h6, f6⟩ := h2.supply hu2 o2; clear hu2; have g6 := f2.trans f6; have hv6 := hv.fr g6 hvo; have hvo6 := hv.out g6 hvo)
    | (go_at_call 20; refine (coinsR9_any h6 (.inl ht)).mono ?_; rintro e w7 ⟨v7, rfl, hv7, -, hb7⟩; have hP7 := hP1 t (by omega))
    | (go_at_call 45; refine (putR9_any h8 hP1 ht hu8 o8 h8.ble).mono ?_; clear hu8 ho8 o8; rintro e w9 ⟨rfl, B9, vb9, M9, h9, f9⟩))
  go_ret
  exact ⟨rfl, B9, _, vb9, M9, h9, (g6.trans f8).trans f9⟩
set_option maxHeartbeats 4000000 in
theorem burnR_no (h : Stt W m base B vs vb M b) (hP : ∀ p, p ≤ 256 → Purse (b p)) {t : Nat} (ht : t < 205) {v : Value} {l : List Cn} (hv : IsCoins W v l) (hwf : ∀ x ∈ l, CnWf x) (hr : rightFrom 0 l = true) (hno : ¬ Has b t (fun d => amt l d)) :
    Calls Try.prog 31 #[.pointer (some ⟨m, 0, none⟩), .int .u8 t, v] W fun e w' => e = .returned (.int .i64 3) ∧ Below W.heap.size W w' := by
  have hM := mayR_any (a := t) (c := t) (by omega) (by omega) hv hwf
  have hl := right_lst hr
  have hY := purse_amt hwf
  rw [hr, decide_eq_true ht] at hM
  generalize (fun d : Nat => amt l d) = y at *
  subst hl
  go_enter Try.func31, Try.ntmps31
  go_wp2_with (first
    | (go_at_call 43; refine hM.mono ?_; clear hM; rintro e w1 ⟨rfl, hb1⟩)
    | (go_at_call 20; refine (coinsR9_any (h.below hb1) (.inl ht)).mono ?_; rintro e w2 ⟨v2, rfl, hv2, -, hb2⟩; have hB2 := bt hb1 hb2)
    | (go_at_call 44; refine (withinR_any hY (hP t (by omega)) false (.inr ⟨rfl, has_two hno⟩) _ (hv.below hB2) hv2).mono ?_; rintro e w3 ⟨rfl, hb3⟩))
  go_ret
  exact ⟨rfl, bt hB2 hb3⟩
set_option maxHeartbeats 8000000 in
theorem burnR_ok (h : Stt W m base B vs vb M b) (hI : BInv b) {f : Nat} (hf : f < 205) {v : Value} {l : List Cn} (hv : IsCoins W v l) (hvo : Out B v l) (hwf : ∀ x ∈ l, CnWf x) (hr : rightFrom 0 l = true) (hy : Has b f (fun d => amt l d)) :
    Calls Try.prog 31 #[.pointer (some ⟨m, 0, none⟩), .int .u8 f, v] W fun e w' => e = .returned (.int .i64 0) ∧ ∃ B' vs' vb' M', Stt w' m base B' vs' vb' M' (takeB (takeB b f (fun d => amt l d)) 256 (fun d => amt l d)) ∧ Fr W w' B B' := by
  have hM := mayR_any (a := f) (c := f) (by omega) (by omega) hv hwf
  have hP := hI.pur
  have hl := right_lst hr
  have hY := purse_amt hwf
  have hP1 := pur_take (y := fun d : Nat => amt l d) hP hY (p := f) (by omega)
  rw [hr, decide_eq_true hf] at hM
  generalize (fun d : Nat => amt l d) = y at *
  subst hl
  go_enter Try.func31, Try.ntmps31
  go_wp2_with (first
    | (go_at_call 43; refine hM.mono ?_; clear hM; rintro e w1 ⟨rfl, hb1⟩)
    | (go_at_call 44; refine (withinR_any hY (hP f (by omega)) true (.inl ⟨rfl, hy⟩) _ (hv.below hB2) hv2).mono ?_; rintro e w3 ⟨rfl, hb3⟩; have hB3 := bt hB2 hb3; clear hv2 hB2 hb3)
    | (go_at_call 46; refine (restRC_new (hP1 256 (by omega)) hY _ h6.sup hv6).mono ?_; rintro e w8 ⟨u8, rfl, hu8, ho8, hb8⟩; obtain ⟨a8, k8, rfl⟩ := cn_slice hu8; obtain ⟨h8, f8, o8⟩ := h6.take hb8 (fun g hg => (ho8 g hg : w6.heap.size ≤ g ∧ g < w8.heap.size)); clear c6; have c8 := h8.sup_at (Below.refl _ _); have z8 := h8.fz (i := 1))
    | (go_at_call 46; refine (restRC_new (hP f (by omega)) hY _ hv4 (hv.below hB4)).mono ?_; rintro e w5 ⟨u5, rfl, hu5, ho5, hb5⟩; obtain ⟨h5, f5, o5⟩ := h.take (bt hB4 hb5) (fun g hg => (⟨Nat.le_trans hB4.size (ho5 g hg).1, (ho5 g hg).2⟩ : W.heap.size ≤ g ∧ g < w5.heap.size)); clear hv4)
    | (go_at_call 45; refine (putR9_any h5 hP hf hu5 o5 h5.ble).mono ?_; clear hu5 ho5 o5; rintro e w6 ⟨rfl, B6, vb6, M6, h6, f6⟩; have g6 := f5.trans f6; have hv6 := hv.fr g6 hvo; have c6 := h6.sup_at (Below.refl _ _); obtain ⟨a0, k0, es⟩ := cn_slice h6.sup; subst es)
    | (go_at_call 20; refine (coinsR9_any (h.below hB3) (.inl hf)).mono ?_; rintro e w4 ⟨v4, rfl, hv4, -, hb4⟩; have hB4 := bt hB3 hb4)
    | (go_at_call 20; refine (coinsR9_any (h.below hb1) (.inl hf)).mono ?_; rintro e w2 ⟨v2, rfl, hv2, -, hb2⟩; have hB2 := bt hb1 hb2))
  go_ret
  obtain ⟨h9, f9⟩ := h8.supply hu8 o8
  exact ⟨rfl, _, _, _, _, h9, (g6.trans f8).trans f9⟩
end
end Go.Proofs.Ytgphdioolcfmmaa

/- bank: All; the law's deeds as they come in. -/
namespace Go.Proofs.Ytgphdioolcfmmaa
open Go.ChangeShapes Go.WideShapes Go.ChangeAt Go.RowKit

theorem bal_app2 {W X : World} {v : Value} {O : List (Nat × Value)} (hr : X.ownsRow W.heap.size 46 2 v O.length (cellsB O)) (hb : Below W.heap.size W X) (hl : O.length ≤ 1000) (x : Nat × Value) (h1 : x.2.oneCell' = true) {ops : Array Oper} {rest : List Oper} {o : Oper} {a : Act} {Q : Exit → Act → World → Prop} (hgd : o.guard = none) (s y : Operand)
    (ho : o.op = .call { callee := .builtin .append, args := #[s, y], argTypes := #[30, 30] }) (hs : a.eval s = v) {g : Nat} (hx : a.eval y = .slice (some ⟨g, 0, none⟩) 1 1) (hc : X.heap[g]? = some (.cells #[.int .u8 (x.1 : Int), x.2] 46 (0, 0)))
    (k : ∀ O' v' w', Hid (O' = O ++ [x]) → w'.ownsRow W.heap.size 46 2 v' O'.length (cellsB O') → Below W.heap.size W w' → (∀ n, n < X.heap.size → v.ownBlock ≠ some n → w'.heap[n]? = X.heap[n]?) → X.heap.size ≤ w'.heap.size → (v'.ownBlock = v.ownBlock ∨ v'.ownBlock = some X.heap.size) → wpList Try.prog ops Q rest (a.put o.dst v') w') : wpList Try.prog ops Q (o :: rest) a X := by
  obtain ⟨i0, hi, hz0, hz1, hz2⟩ := info_parts bal_info
  refine wpList_append_own_at X hgd s y 30 ho W.heap.size 46 i0 _ 2 32 Try.underlying30 hi hz0 hz1 hz2 rfl (by decide) v O.length (cellsB O) hs hr ⟨g, 0, none⟩ 1 1 [.int .u8 (x.1 : Int), x.2] hx rfl (fun j u hj => by rw [add_cell, Nat.zero_add, (cells_of_block hc).1]; simpa using hj) (fun u hu => by simp at hu; rcases hu with rfl | rfl; rfl; exact h1) (by unfold maxLen; omega) (by omega) hb.size ?_
  intro u' w' hown hg _ hat
  exact k (O ++ [x]) u' w' rfl (by rw [List.length_append, cellsB_app]; exact hown) (hb.grown hg hb.size (fun k hk => (hr.lt k hk).1)) (fun n hn hne => hg.block n hn (Ne.symm hne)) hg.size hat
section
variable {W : World} {s base : Nat} {A : Nat → Prop} {L : List (List Int × List Int)} {ds : List (List (List Int × List Int))} {n : Nat} {b : Nat → Nat → Cn}
set_option maxHeartbeats 1000000 in
theorem coinsB_new (h : StD W s base A L ds n) (hB : BkL L b) (hn : n ≤ 1000) {a : Nat} (ha : a ≤ 255) :
    Calls Try.prog 21 #[.pointer (some ⟨s, 0, none⟩), .int .u8 a] W fun e w' => ∃ v, e = .returned v ∧ IsCoins w' v (lst (b a) 8) ∧ (∀ g, v.ownBlock = some g → W.heap.size ≤ g ∧ g < w'.heap.size) ∧ Below W.heap.size W w' := by
  go_enter Try.func21, Try.ntmps21
  go_wp2_with (first
    | (go_at_call 38; refine (of_any a ha _).mono ?_; rintro e w1 ⟨t, rfl, ht, hb1⟩)
    | (go_at_call 35; refine (kept_new (h.below hb1) hB hn (p := a) (by omega) ht).mono ?_; rintro e w2 ⟨v, rfl, hv, ho, hb2⟩))
  go_ret
  exact ⟨v, rfl, hv, fun g hg => ⟨Nat.le_trans hb1.size (ho g hg).1, (ho g hg).2⟩, bt hb1 hb2⟩
/-- Who has what, as a list. -/
structure AllAt (X : World) (lo : Nat) (ov : Value) (O : List (Nat × Value)) (b : Nat → Nat → Cn) (k : Nat) : Prop where
  row : X.ownsRow lo 46 2 ov O.length (cellsB O)
  adr : O.map (·.1) = asF b k 0
  all : ∀ x ∈ O, IsCoins X x.2 (lst (b x.1) 8) ∧ ∀ g, x.2.ownBlock = some g → g < X.heap.size ∧ ov.ownBlock ≠ some g
theorem AllAt.len {X : World} {lo : Nat} {ov : Value} {O : List (Nat × Value)} {k : Nat} (h : AllAt X lo ov O b k) : O.length ≤ k := by
  have := asF_len b k 0
  rw [← h.adr, List.length_map] at this
  exact this
theorem AllAt.below {X Y : World} {lo : Nat} {ov : Value} {O : List (Nat × Value)} {k : Nat} (h : AllAt X lo ov O b k) (hb : Below X.heap.size X Y) : AllAt Y lo ov O b k :=
  ⟨own_below h.row hb, h.adr, fun x hx => ⟨(h.all x hx).1.below hb, fun g hg => ⟨Nat.lt_of_lt_of_le ((h.all x hx).2 g hg).1 hb.size, ((h.all x hx).2 g hg).2⟩⟩⟩
set_option maxHeartbeats 8000000 in
theorem allB_any (h : StD W s base A L ds n) (hB : BkL L b) (hn : n ≤ 1000) :
    Calls Try.prog 14 #[.pointer (some ⟨s, 0, none⟩)] W fun e w' => ∃ v O, e = .returned v ∧ AllAt w' W.heap.size v O b 205 ∧ Below W.heap.size W w' := by
  go_enter Try.func14, Try.ntmps14
  go_wp2
  go_loopw [3, 6] (fun v i X => ∃ (k : Nat) (O : List (Nat × Value)), k ≤ 205 ∧ i = .int .u8 (k : Int) ∧ AllAt X W.heap.size v O b k ∧ Below W.heap.size W X) (fun _ i _ => 205 - (intOf i).toNat)
  case atStart => exact ⟨0, [], by omega, rfl, ⟨World.ownsRow_nil _ _ _ _, rfl, by simp⟩, Below.refl _ _⟩
  case round =>
    obtain ⟨k, O, hk, rfl, hO, hX⟩ := hrel
    obtain ⟨ao, co, rfl⟩ := row_slice hO.row
    have hOl := hO.len
    by_cases hlt : k < 205
    · have hlt' : (k : Int) < 205 := by omega
      have hC := coinsB_new (h.below hX) hB hn (a := k) (by omega)
      have hsn := asF_snoc b k 0
      rw [Nat.zero_add] at hsn
      by_cases he : lst (b k) 8 = []
      · rw [if_pos he, List.append_nil] at hsn
        rw [he] at hC
        clear he
        go_wp2_with (go_at_call 21; refine hC.mono ?_; clear hC; rintro e w1 ⟨v, rfl, hv, ho, hb1⟩; obtain ⟨av, cv, rfl⟩ := cn_slice hv; clear hv ho)
        all_goals go_roundw
        case rel => exact ⟨k + 1, O, by omega, by go_num, ⟨(hO.below hb1).row, by rw [hsn]; exact hO.adr, (hO.below hb1).all⟩, bt hX hb1⟩
        case measure => (simp [intOf] <;> omega)
      · rw [if_neg he] at hsn
        obtain ⟨nl, hnl⟩ : ∃ nl, (lst (b k) 8).length = nl := ⟨_, rfl⟩
        have hn0 : 0 < nl := by rw [← hnl]; exact List.length_pos_iff.2 he
        have hn0' : (0 : Int) < (nl : Int) := by omega
        have hnd : decide (0 < nl) = true := decide_eq_true hn0
        have hlo := fun g (hg : (Value.slice ao O.length co).ownBlock = some g) => (hO.row.lt g hg).2
        replace hlo : Hid _ := hlo
        clear he
        go_wp2_with (first
          | (go_at_call 21; refine hC.mono ?_; clear hC; rintro e w1 ⟨v, rfl, hv, ho, hb1⟩; obtain ⟨av, cv, rfl⟩ := cn_slice hv; rw [hnl] at hv ho ⊢; have hO1 := hO.below hb1; have hX1 := bt hX hb1)
          | (at_builtin; refine bal_app2 (own_below hO1.row (by (repeat (first | (with_reducible exact Below.refl _ _) | (with_reducible assumption) | (with_reducible apply bd) | (with_reducible apply ba) | (with_reducible refine bp ?_ (by first | omega | (simp [pad_size]; done) | (simp [pad_size]; omega)) _ _) | (with_reducible refine bs ?_ (by first | omega | (simp [pad_size]; done) | (simp [pad_size]; omega)) _) | (with_reducible refine bt ?_ (by assumption)))))) (bt hX1 (by (repeat (first | (with_reducible exact Below.refl _ _) | (with_reducible assumption) | (with_reducible apply bd) | (with_reducible apply ba) | (with_reducible refine bp ?_ (by first | omega | (simp [pad_size]; done) | (simp [pad_size]; omega)) _ _) | (with_reducible refine bs ?_ (by first | omega | (simp [pad_size]; done) | (simp [pad_size]; omega)) _) | (with_reducible refine bt ?_ (by assumption)))))) (by omega) (k, .slice av nl cv) rfl rfl _ _ rfl rfl rfl (by (repeat (first | (with_reducible exact al_at (by simp [pad_size])) | (with_reducible refine Eq.trans (dr_blk _ _) ?_) | (with_reducible refine Eq.trans (al_old (by first | omega | (simp [pad_size]; done) | (simp [pad_size]; omega))) ?_) | (with_reducible refine Eq.trans (pad_block (by first | omega | (simp [pad_size]; done) | (simp [pad_size]; omega)) (by first | omega | (simp [pad_size]; done) | (simp [pad_size]; omega))) ?_) | (with_reducible assumption)))) ?_; intro O4 v4 w4 hO4 hr4 hb4 hk4 hs4 ht4; simp at hs4))
        all_goals go_roundw
        case rel =>
          refine ⟨k + 1, O4, by omega, by go_num, ⟨hr4, by rw [hO4.out, hsn, List.map_append, hO.adr]; rfl, fun x hx => ?_⟩, hb4⟩
          have kk : ∀ g, g < w1.heap.size → (Value.slice ao O.length co).ownBlock ≠ some g → w4.heap[g]? = w1.heap[g]? := fun g hg hne => (hk4 g (by simp; omega) hne).trans (al_old hg)
          have nn : ∀ g, g < w1.heap.size → (Value.slice ao O.length co).ownBlock ≠ some g → v4.ownBlock ≠ some g := fun g hg hne e => by
            rcases ht4 with h4 | h4
            · rw [h4] at e; exact hne e
            · rw [h4] at e; simp at e; omega
          rw [hO4.out] at hx
          rcases List.mem_append.1 hx with hx | hx
          · obtain ⟨q1, q2⟩ := hO1.all x hx
            exact ⟨q1.keep (fun g hg => kk g (q2 g hg).1 (q2 g hg).2) (by omega), fun g hg => ⟨by have := (q2 g hg).1; omega, nn g (q2 g hg).1 (q2 g hg).2⟩⟩
          · rw [List.mem_singleton] at hx
            subst hx
            have hne : ∀ g, (Value.slice av nl cv).ownBlock = some g → (Value.slice ao O.length co).ownBlock ≠ some g := fun g hg e => by
              have h5 := hlo.out g e
              have h6 := (ho g hg).1
              omega
            exact ⟨hv.keep (fun g hg => kk g (ho g hg).2 (hne g hg)) (by omega), fun g hg => ⟨by have := (ho g hg).2; omega, nn g (ho g hg).2 (hne g hg)⟩⟩
        case measure => (simp [intOf] <;> omega)
    · have hk' : k = 205 := by omega
      subst hk'
      go_wp2
      go_ret
      exact ⟨_, O, rfl, hO, hX⟩
end
end Go.Proofs.Ytgphdioolcfmmaa

/- bank: the law's coins and addresses. -/
namespace Go.Proofs.Ytgphdioolcfmmaa
open Go.RowKit

set_option maxHeartbeats 1000000 in
theorem addr9_any (n : Nat) (hn : n ≤ 255) (w : World) : Calls Try.prog 22 #[.int .u8 n] w fun e w' => ∃ p : Nat, p ≤ 255 ∧ e = .returned (.int .u8 p) ∧ Below w.heap.size w w' := by
  by_cases h : 240 ≤ n
  · have h' : (240 : Int) ≤ (n : Int) := by omega
    go_enter Try.func22, Try.ntmps22
    go_wp2
    go_ret
    exact ⟨n, hn, rfl, by (repeat (first | (with_reducible exact Below.refl _ _) | (with_reducible assumption) | (with_reducible apply bd) | (with_reducible apply ba) | (with_reducible refine bp ?_ (by first | omega | (simp [pad_size]; done) | (simp [pad_size]; omega)) _ _) | (with_reducible refine bs ?_ (by first | omega | (simp [pad_size]; done) | (simp [pad_size]; omega)) _) | (with_reducible refine bt ?_ (by assumption))))⟩
  · have h' : ¬ (240 : Int) ≤ (n : Int) := by omega
    obtain ⟨j, hj⟩ : ∃ j : Nat, n % 6 = j := ⟨_, rfl⟩
    have hj6 : j < 6 := by omega
    have hjm : ((n : Int)).tmod 6 = (j : Int) := by rw [Int.tmod_eq_emod_of_nonneg (by omega)]; omega
    have hk : ∀ i, i < 6 → (w.alloc (.cells #[.int .u8 0, .int .u8 1, .int .u8 2, .int .u8 199, .int .u8 200, .int .u8 204] 5)).cell? ⟨w.heap.size, i, none⟩ = (#[.int .u8 0, .int .u8 1, .int .u8 2, .int .u8 199, .int .u8 200, .int .u8 204] : Array Value)[i]? := fun i _ => (cells_of_block (al_at rfl)).1 i
    clear hj
    rcases (show j = 0 ∨ j = 1 ∨ j = 2 ∨ j = 3 ∨ j = 4 ∨ j = 5 by omega) with rfl | rfl | rfl | rfl | rfl | rfl
    · have := hk 0 (by omega); clear hk
      go_enter Try.func22, Try.ntmps22
      go_wp2
      go_ret
      exact ⟨0, by omega, rfl, by (repeat (first | (with_reducible exact Below.refl _ _) | (with_reducible assumption) | (with_reducible apply bd) | (with_reducible apply ba) | (with_reducible refine bp ?_ (by first | omega | (simp [pad_size]; done) | (simp [pad_size]; omega)) _ _) | (with_reducible refine bs ?_ (by first | omega | (simp [pad_size]; done) | (simp [pad_size]; omega)) _) | (with_reducible refine bt ?_ (by assumption))))⟩
    · have := hk 1 (by omega); clear hk
      go_enter Try.func22, Try.ntmps22
      go_wp2
      go_ret
      exact ⟨1, by omega, rfl, by (repeat (first | (with_reducible exact Below.refl _ _) | (with_reducible assumption) | (with_reducible apply bd) | (with_reducible apply ba) | (with_reducible refine bp ?_ (by first | omega | (simp [pad_size]; done) | (simp [pad_size]; omega)) _ _) | (with_reducible refine bs ?_ (by first | omega | (simp [pad_size]; done) | (simp [pad_size]; omega)) _) | (with_reducible refine bt ?_ (by assumption))))⟩
    · have := hk 2 (by omega); clear hk
      go_enter Try.func22, Try.ntmps22
      go_wp2
      go_ret
      exact ⟨2, by omega, rfl, by (repeat (first | (with_reducible exact Below.refl _ _) | (with_reducible assumption) | (with_reducible apply bd) | (with_reducible apply ba) | (with_reducible refine bp ?_ (by first | omega | (simp [pad_size]; done) | (simp [pad_size]; omega)) _ _) | (with_reducible refine bs ?_ (by first | omega | (simp [pad_size]; done) | (simp [pad_size]; omega)) _) | (with_reducible refine bt ?_ (by assumption))))⟩
    · have := hk 3 (by omega); clear hk
      go_enter Try.func22, Try.ntmps22
      go_wp2
      go_ret
      exact ⟨199, by omega, rfl, by (repeat (first | (with_reducible exact Below.refl _ _) | (with_reducible assumption) | (with_reducible apply bd) | (with_reducible apply ba) | (with_reducible refine bp ?_ (by first | omega | (simp [pad_size]; done) | (simp [pad_size]; omega)) _ _) | (with_reducible refine bs ?_ (by first | omega | (simp [pad_size]; done) | (simp [pad_size]; omega)) _) | (with_reducible refine bt ?_ (by assumption))))⟩
    · have := hk 4 (by omega); clear hk
      go_enter Try.func22, Try.ntmps22
      go_wp2
      go_ret
      exact ⟨200, by omega, rfl, by (repeat (first | (with_reducible exact Below.refl _ _) | (with_reducible assumption) | (with_reducible apply bd) | (with_reducible apply ba) | (with_reducible refine bp ?_ (by first | omega | (simp [pad_size]; done) | (simp [pad_size]; omega)) _ _) | (with_reducible refine bs ?_ (by first | omega | (simp [pad_size]; done) | (simp [pad_size]; omega)) _) | (with_reducible refine bt ?_ (by assumption))))⟩
    · have := hk 5 (by omega); clear hk
      go_enter Try.func22, Try.ntmps22
      go_wp2
      go_ret
      exact ⟨204, by omega, rfl, by (repeat (first | (with_reducible exact Below.refl _ _) | (with_reducible assumption) | (with_reducible apply bd) | (with_reducible apply ba) | (with_reducible refine bp ?_ (by first | omega | (simp [pad_size]; done) | (simp [pad_size]; omega)) _ _) | (with_reducible refine bs ?_ (by first | omega | (simp [pad_size]; done) | (simp [pad_size]; omega)) _) | (with_reducible refine bt ?_ (by assumption))))⟩
set_option maxRecDepth 100000 in
set_option maxHeartbeats 8000000 in
theorem coins9_even (d f t : Int) (a : Option Addr) (l : List Cn) (cap : Nat) (w : World) (hl : IsCoins w (.slice a l.length cap) l) (hwf : ∀ x ∈ l, CnWf x) (hl8 : l.length ≤ 1048576) :
    Calls Try.prog 23 #[.agg #[.int .u8 d, .int .u8 f, .int .u8 t, .slice a l.length cap, .bool false]] w fun e w' => ∃ v, e = .returned v ∧ w'.ownsRow w.heap.size 65 5 v (lst (ofP l) 8).length (cellsL (lst (ofP l) 8)) ∧ Below w.heap.size w w' := by
  have hpad := pads
  go_enter Try.func23, Try.ntmps23
  go_wp2
  go_loopw [4] (fun i wr => ∃ (k m : Nat) (g : Nat → Obj) (dr : Nat) (z : Nat → Cn), k ≤ l.length ∧ i = .int .i64 k ∧ Hid (z = ofP (l.take k)) ∧ w.heap.size + 1 + 1 ≤ m ∧ wr = pad ((w.alloc (.cells #[.int .u8 d, .int .u8 f, .int .u8 t, .slice a l.length cap, .bool false] 40)).alloc (.cells #[.int .u64 (z 0).a, .int .u64 (z 0).b, .int .u64 (z 0).c, .int .u64 (z 0).e, .int .u64 (z 1).a, .int .u64 (z 1).b, .int .u64 (z 1).c, .int .u64 (z 1).e, .int .u64 (z 2).a, .int .u64 (z 2).b, .int .u64 (z 2).c, .int .u64 (z 2).e, .int .u64 (z 3).a, .int .u64 (z 3).b, .int .u64 (z 3).c, .int .u64 (z 3).e, .int .u64 (z 4).a, .int .u64 (z 4).b, .int .u64 (z 4).c, .int .u64 (z 4).e, .int .u64 (z 5).a, .int .u64 (z 5).b, .int .u64 (z 5).c, .int .u64 (z 5).e, .int .u64 (z 6).a, .int .u64 (z 6).b, .int .u64 (z 6).c, .int .u64 (z 6).e, .int .u64 (z 7).a, .int .u64 (z 7).b, .int .u64 (z 7).c, .int .u64 (z 7).e] 74)) m g dr) (fun i _ => l.length - (intOf i).toNat)
  case atStart =>
    obtain ⟨m, g, dr, hm, e⟩ := pad_of (Below.refl _ ((w.alloc (.cells #[.int .u8 d, .int .u8 f, .int .u8 t, .slice a l.length cap, .bool false] 40)).alloc (.cells #[.int .u64 0, .int .u64 0, .int .u64 0, .int .u64 0, .int .u64 0, .int .u64 0, .int .u64 0, .int .u64 0, .int .u64 0, .int .u64 0, .int .u64 0, .int .u64 0, .int .u64 0, .int .u64 0, .int .u64 0, .int .u64 0, .int .u64 0, .int .u64 0, .int .u64 0, .int .u64 0, .int .u64 0, .int .u64 0, .int .u64 0, .int .u64 0, .int .u64 0, .int .u64 0, .int .u64 0, .int .u64 0, .int .u64 0, .int .u64 0, .int .u64 0, .int .u64 0] 74)))
    refine ⟨0, m, g, dr, zeroP, Nat.zero_le _, rfl, rfl, by simpa using hm, ?_⟩
    simp only [zeroP_a]
    exact e
  case round =>
    obtain ⟨k, m, g, dr, z, hk, rfl, hz, hm, rfl⟩ := hrel
    have st := sz2 (n := w.heap.size) (m := m) hm
    by_cases hkl : k < l.length
    · obtain ⟨blk, off, cap', ev, hlt, h0, h1, h2, h3, h4⟩ := cn_at hl hkl
      simp at ev
      obtain ⟨rfl, rfl⟩ := ev
      obtain ⟨⟨hd0, hd1⟩, hlim⟩ := hwf l[k] (List.getElem_mem hkl)
      have htk : Hid (ofP (l.take (k + 1)) = putP (ofP (l.take k)) (l[k].d % 8).toNat l[k]) := by
        unfold Hid; rw [List.take_succ_eq_append_getElem hkl, ofP_snoc]
      have hlm : blk < m := by omega
      have hgn : ¬ blk = w.heap.size := by omega
      have hgn1 : ¬ blk = w.heap.size + 1 := by omega
      have hgl : blk < w.heap.size + 1 := by omega
      have hgl1 : blk < w.heap.size + 1 + 1 := by omega
      generalize l[k] = x at *
      obtain ⟨j, hj⟩ : ∃ j : Nat, Hid (x.d % 8 = j) := ⟨(x.d % 8).toNat, by unfold Hid; omega⟩
      have hj8 : j < 8 := by have := hj.out; omega
      have hjm : x.d.tmod 8 = (j : Int) := by rw [Int.tmod_eq_emod_of_nonneg hd0, hj.out]
      obtain ⟨kk, hkk⟩ : ∃ kk : Nat, Hid (kk = k + 1) := ⟨_, rfl⟩
      have hn : Hid (∀ z', z' = putP z j x → z' = ofP (l.take kk)) := by
        intro z' e'; rw [e', hkk.out, htk.out, hz.out, hj.out]; rfl
      clear htk hwf hl
      rcases (show j = 0 ∨ j = 1 ∨ j = 2 ∨ j = 3 ∨ j = 4 ∨ j = 5 ∨ j = 6 ∨ j = 7 by omega) with rfl | rfl | rfl | rfl | rfl | rfl | rfl | rfl
      all_goals
        clear hj8 hj
        go_wp2
        go_region
        all_goals go_wp2
        all_goals go_roundw
        case rel =>
          have e := hkk.out
          refine ⟨kk, m, g, dr + 1, _, by omega, by rw [e]; go_num, hn.out _ rfl, hm, ?_⟩
          simp [putP]
        case measure => (simp [intOf] <;> omega)
    · have hk' : k = l.length := by omega
      subst hk'
      rw [List.take_length] at hz
      have hp : Purse z := by rw [hz.out]; exact purse_of l (fun x hx => (hwf x hx).2)
      go_wp2_with (first | (refine wpList_load_row rfl 74 _ rfl (w.heap.size + 1) rfl 74 #[.int .u64 (z 0).a, .int .u64 (z 0).b, .int .u64 (z 0).c, .int .u64 (z 0).e, .int .u64 (z 1).a, .int .u64 (z 1).b, .int .u64 (z 1).c, .int .u64 (z 1).e, .int .u64 (z 2).a, .int .u64 (z 2).b, .int .u64 (z 2).c, .int .u64 (z 2).e, .int .u64 (z 3).a, .int .u64 (z 3).b, .int .u64 (z 3).c, .int .u64 (z 3).e, .int .u64 (z 4).a, .int .u64 (z 4).b, .int .u64 (z 4).c, .int .u64 (z 4).e, .int .u64 (z 5).a, .int .u64 (z 5).b, .int .u64 (z 5).c, .int .u64 (z 5).e, .int .u64 (z 6).a, .int .u64 (z 6).b, .int .u64 (z 6).c, .int .u64 (z 6).e, .int .u64 (z 7).a, .int .u64 (z 7).b, .int .u64 (z 7).c, .int .u64 (z 7).e] (0, 0) _ (by (repeat (first | (with_reducible exact al_at (by simp [pad_size])) | (with_reducible refine Eq.trans (dr_blk _ _) ?_) | (with_reducible refine Eq.trans (al_old (by first | omega | (simp [pad_size]; done) | (simp [pad_size]; omega))) ?_) | (with_reducible refine Eq.trans (pad_block (by first | omega | (simp [pad_size]; done) | (simp [pad_size]; omega)) (by first | omega | (simp [pad_size]; done) | (simp [pad_size]; omega))) ?_) | (with_reducible assumption)))) Try.underlying74 rfl (by kernel_rfl) ?_) | (go_at_call 34; refine (listR_any z hp _).mono ?_; rintro e w1 ⟨v, rfl, ho, hb⟩))
      go_ret
      rw [← hz.out]
      exact ⟨_, rfl, row_base ho (by simp [pad_size]; omega), bt (by (repeat (first | (with_reducible exact Below.refl _ _) | (with_reducible assumption) | (with_reducible apply bd) | (with_reducible apply ba) | (with_reducible refine bp ?_ (by first | omega | (simp [pad_size]; done) | (simp [pad_size]; omega)) _ _) | (with_reducible refine bs ?_ (by first | omega | (simp [pad_size]; done) | (simp [pad_size]; omega)) _) | (with_reducible refine bt ?_ (by assumption))))) hb⟩
set_option maxHeartbeats 4000000 in
theorem coins9_odd (d f t : Int) (a : Option Addr) (n cap : Nat) (w : World) :
    Calls Try.prog 23 #[.agg #[.int .u8 d, .int .u8 f, .int .u8 t, .slice a n cap, .bool true]] w fun e w' => e = .returned (.slice a n cap) ∧ Below w.heap.size w w' := by
  go_enter Try.func23, Try.ntmps23
  go_wp2
  go_ret
  exact ⟨rfl, by (repeat (first | (with_reducible exact Below.refl _ _) | (with_reducible assumption) | (with_reducible apply bd) | (with_reducible apply ba) | (with_reducible refine bp ?_ (by first | omega | (simp [pad_size]; done) | (simp [pad_size]; omega)) _ _) | (with_reducible refine bs ?_ (by first | omega | (simp [pad_size]; done) | (simp [pad_size]; omega)) _) | (with_reducible refine bt ?_ (by assumption))))⟩
end Go.Proofs.Ytgphdioolcfmmaa

/- bank: the law's deeds as they come in; few. -/
namespace Go.Proofs.Ytgphdioolcfmmaa
open Go.ChangeShapes Go.WideShapes Go.ChangeAt Go.RowKit

/-- A deed: its number, two addresses' numbers, coins (what they are, if there are not many), odd or not. -/
structure Ac where
  d : Int
  f : Int
  t : Int
  a : Option Addr
  n : Nat
  cap : Nat
  o : Bool
  L : List Cn
def acV (y : Ac) : List Value := [.int .u8 y.d, .int .u8 y.f, .int .u8 y.t, .slice y.a y.n y.cap, .bool y.o]
structure AcIn (w : World) (y : Ac) : Prop where
  d : 0 ≤ y.d ∧ y.d ≤ 255
  f : 0 ≤ y.f ∧ y.f ≤ 255
  t : 0 ≤ y.t ∧ y.t ≤ 255
  n : y.n ≤ 9223372036854775807
  l : y.n ≤ 1048576 → IsCoins w (.slice y.a y.n y.cap) y.L ∧ y.L.length = y.n ∧ ∀ x ∈ y.L, CnWf x
section
variable {H : Type} {enc : TypeId × Value → H} {w : World} {base : Nat} {spare : Nat → Bool} {held : Bool} {fuel : Nat} {cs : List Value} {x : DataW H × List MemPlace}
theorem Try.cellsAct9 : Try.prog.cellsOf 40 = 5 := by kernel_rfl
theorem Try.cellsCs : Try.prog.cellsOf 29 = 1 := by kernel_rfl
theorem Try.cellsBool9 : Try.prog.cellsOf 4 = 1 := by kernel_rfl
theorem ac_of_cells (h : DataW.trod enc Try.prog w base spare held fuel 40 cs = some x) : ∃ y : Ac, cs = acV y ∧ (acV y).length = 5 ∧ AcIn w y := by
  obtain ⟨xs, m, -, -, hl, hx, hi⟩ := DataW.trod_struct Try.underlying40 h
  rw [Try.cellsAct9] at hl
  have f0 : DataW.trod enc Try.prog w base spare held m 5 ((cs.drop 0).take (Try.prog.cellsOf 5)) = xs[0]? := hi 0 _ rfl
  have f1 : DataW.trod enc Try.prog w base spare held m 5 ((cs.drop 1).take (Try.prog.cellsOf 5)) = xs[1]? := hi 1 _ rfl
  have f2 : DataW.trod enc Try.prog w base spare held m 5 ((cs.drop 2).take (Try.prog.cellsOf 5)) = xs[2]? := hi 2 _ rfl
  have f3 : DataW.trod enc Try.prog w base spare held m 29 ((cs.drop 3).take (Try.prog.cellsOf 29)) = xs[3]? := hi 3 _ rfl
  have f4 : DataW.trod enc Try.prog w base spare held m 4 ((cs.drop 4).take (Try.prog.cellsOf 4)) = xs[4]? := hi 4 _ rfl
  rw [Try.cellsU8'] at f0 f1 f2
  rw [Try.cellsCs] at f3
  rw [Try.cellsBool9] at f4
  match cs, hl with
  | [c0, c1, c2, c3, c4], _ =>
    have hx2 : xs.length = 5 := hx
    obtain ⟨d, ed, -, wd⟩ := DataW.trod_int Try.underlying5 (f0.trans (List.getElem?_eq_getElem (by omega)))
    obtain ⟨f, ef, -, wf⟩ := DataW.trod_int Try.underlying5 (f1.trans (List.getElem?_eq_getElem (by omega)))
    obtain ⟨t, et, -, wt⟩ := DataW.trod_int Try.underlying5 (f2.trans (List.getElem?_eq_getElem (by omega)))
    have g3 := f3.trans (List.getElem?_eq_getElem (by omega))
    obtain ⟨a, n, cap, ea, hn⟩ := slice_form Try.underlying29 g3
    obtain ⟨o, eo, -⟩ := DataW.trod_bool Try.underlying4 (f4.trans (List.getElem?_eq_getElem (by omega)))
    simp at ed ef et ea eo
    subst ed ef et ea eo
    obtain ⟨L, hL⟩ : ∃ L : List Cn, n ≤ 1048576 → IsCoins w (.slice a n cap) L ∧ L.length = n ∧ ∀ x ∈ L, CnWf x := by
      by_cases hn : n ≤ 1048576
      · obtain ⟨q, h1, h2, h3⟩ := coins_open g3 hn; exact ⟨q, fun _ => ⟨h1, h2, h3⟩⟩
      · exact ⟨[], fun h => absurd h hn⟩
    exact ⟨⟨d, f, t, a, n, cap, o, L⟩, rfl, rfl, wf_u8 wd, wf_u8 wf, wf_u8 wt, hn, hL⟩
/-- A list of deeds that came in. -/
structure AcsIn (w : World) (a : Option Addr) (len : Nat) (l : List Ac) : Prop where
  num : l.length = len
  ok : ∀ y ∈ l, AcIn w y
  cell : len = 0 ∨ ∃ blk off, a = some ⟨blk, off, none⟩ ∧ blk < w.heap.size ∧ ∀ i y, l[i]? = some y → ∀ j v, (acV y)[j]? = some v → w.cell? ⟨blk, off + i * 5 + j, none⟩ = some v
theorem acts9_open {a : Option Addr} {len cap : Nat} (h : DataW.trod enc Try.prog w base spare held fuel 22 [.slice a len cap] = some x) : ∃ l, AcsIn w a len l := by
  obtain ⟨l, h1, h2, h3⟩ := @open_list H enc w base spare held fuel x Ac ⟨⟨0, 0, 0, none, 0, 0, false, []⟩⟩ 22 40 5 (by omega) Try.underlying22 Try.cellsAct9 acV (AcIn w) (fun m cs x h => ac_of_cells h) a len cap h
  exact ⟨l, h1, h2, h3⟩
end
/-- A deed's cells. -/
theorem ac_at {w X : World} {a : Option Addr} {len : Nat} {l : List Ac} (h : AcsIn w a len l) (hX : Below w.heap.size w X) {i : Nat} (hi : i < l.length) : ∃ blk off, a = some ⟨blk, off, none⟩ ∧ blk < w.heap.size ∧ X.cell? ⟨blk, off + i * 5, none⟩ = some (.int .u8 l[i].d) ∧ X.cell? ⟨blk, off + i * 5 + 1, none⟩ = some (.int .u8 l[i].f) ∧ X.cell? ⟨blk, off + i * 5 + 2, none⟩ = some (.int .u8 l[i].t) ∧ X.cell? ⟨blk, off + i * 5 + 3, none⟩ = some (.slice l[i].a l[i].n l[i].cap) ∧ X.cell? ⟨blk, off + i * 5 + 4, none⟩ = some (.bool l[i].o) := by
  obtain ⟨h1, h2, h3⟩ := h
  obtain ⟨blk, off, rfl, hb, hcell⟩ := h3.resolve_left (by omega)
  have hg := List.getElem?_eq_getElem hi
  exact ⟨blk, off, rfl, hb, (hX.cell (p := ⟨blk, off + i * 5, none⟩) hb).trans (hcell i l[i] hg 0 _ rfl), (hX.cell (p := ⟨blk, off + i * 5 + 1, none⟩) hb).trans (hcell i l[i] hg 1 _ rfl), (hX.cell (p := ⟨blk, off + i * 5 + 2, none⟩) hb).trans (hcell i l[i] hg 2 _ rfl), (hX.cell (p := ⟨blk, off + i * 5 + 3, none⟩) hb).trans (hcell i l[i] hg 3 _ rfl), (hX.cell (p := ⟨blk, off + i * 5 + 4, none⟩) hb).trans (hcell i l[i] hg 4 _ rfl)⟩
def fewA (l : List Ac) : Bool := decide (l.length ≤ 30) && l.all (fun y => decide (y.n ≤ 12))
theorem fewA_t {l : List Ac} (h : fewA l = true) : l.length ≤ 30 ∧ ∀ y ∈ l, y.n ≤ 12 := by
  simp only [fewA, Bool.and_eq_true, decide_eq_true_eq, List.all_eq_true] at h; exact h
set_option maxHeartbeats 4000000 in
theorem few9_any {w : World} {a : Option Addr} {len cap : Nat} {l : List Ac} (hm : len ≤ 9223372036854775807) (h : AcsIn w a len l) (W : World) (hB : Below w.heap.size w W) :
    Calls Try.prog 10 #[.slice a len cap] W fun e w' => e = .returned (.bool (fewA l)) ∧ Below W.heap.size W w' := by
  have hl := h.num
  by_cases h40 : 30 < len
  · have h' : (30 : Int) < (len : Int) := by omega
    have e : fewA l = false := by simp [fewA]; omega
    rw [e]
    go_enter Try.func10, Try.ntmps10
    go_wp2
    go_ret
    exact ⟨rfl, Below.refl _ _⟩
  · have h' : ¬ (30 : Int) < (len : Int) := by omega
    go_enter Try.func10, Try.ntmps10
    go_wp2
    go_loopw [3] (fun i X => ∃ (k : Nat), k ≤ len ∧ i = .int .i64 (k : Int) ∧ (∀ y ∈ l.take k, y.n ≤ 12) ∧ Below W.heap.size W X) (fun i _ => len - (intOf i).toNat)
    case atStart => exact ⟨0, by omega, rfl, by simp, Below.refl _ _⟩
    case round =>
      obtain ⟨k, hk, rfl, hall, hX⟩ := hrel
      by_cases hlt : k < len
      · have hkl : k < l.length := by omega
        obtain ⟨blk, off, rfl, hb, -, -, -, c3, -⟩ := ac_at h (bt hB hX) hkl
        have hy1 := (h.ok l[k] (List.getElem_mem hkl)).n
        have htk : Hid (∀ n, l[k].n = n → n ≤ 12 → ∀ y ∈ l.take (k + 1), y.n ≤ 12) := by
          intro n hn hn2 y hy
          rw [List.take_succ_eq_append_getElem hkl] at hy
          rcases List.mem_append.1 hy with hy | hy
          · exact hall y hy
          · rw [List.mem_singleton] at hy; rw [hy, hn]; exact hn2
        have hno : Hid (∀ n, l[k].n = n → 12 < n → fewA l = false) := by
          intro n hn hn2
          simp only [fewA, Bool.and_eq_false_iff]
          right
          rw [List.all_eq_false]
          refine ⟨l[k], List.getElem_mem hkl, ?_⟩
          simp; omega
        generalize hn : l[k].n = n at *
        have hlt' : (k : Int) < (len : Int) := by omega
        clear hall
        by_cases hn2 : 12 < n
        · have hn' : (12 : Int) < (n : Int) := by omega
          have e : Hid (fewA l = false) := hno.out n rfl hn2
          clear hno htk
          go_wp2
          go_ret
          exact ⟨congrArg (fun b => Ending.returned (.bool b)) e.out.symm, hX⟩
        · have hn' : ¬ (12 : Int) < (n : Int) := by omega
          have htk' : Hid _ := htk.out n rfl (by omega)
          clear htk hno
          go_wp2
          all_goals go_roundw
          case rel => exact ⟨k + 1, by omega, by go_num, htk'.out, hX⟩
          case measure => (simp [intOf]; omega)
      · obtain rfl : k = len := by omega
        rw [List.take_of_length_le (by omega)] at hall
        have e : Hid (fewA l = true) := by
          unfold Hid
          simp only [fewA, Bool.and_eq_true, decide_eq_true_eq, List.all_eq_true]
          exact ⟨by omega, hall⟩
        go_wp2
        go_ret
        exact ⟨congrArg (fun b => Ending.returned (.bool b)) e.out.symm, hX⟩
end Go.Proofs.Ytgphdioolcfmmaa

/- bank: both banks, side by side: each deed. -/
namespace Go.Proofs.Ytgphdioolcfmmaa
open Go.RowKit

/-- The program's bank and the document's, of the same balances. -/
def BP (w X : World) (s m : Nat) (b : Nat → Nat → Cn) (n : Nat) : Prop :=
  ∃ (A : Nat → Prop) (L : List (List Int × List Int)) (base : Nat) (B : Nat → Prop) (base' : Nat) (vs vb : Value) (M : List (Nat × Value)), StD X s base A L [] n ∧ BkL L b ∧ BInv b ∧ Stt X m base' B vs vb M b ∧ (∀ k, A k → ¬ B k) ∧ Below w.heap.size w X ∧ w.heap.size ≤ base ∧ w.heap.size ≤ base'
theorem BP.below {w X Y : World} {s m n : Nat} {b : Nat → Nat → Cn} (h : BP w X s m b n) (hb : Below X.heap.size X Y) : BP w Y s m b n := by
  obtain ⟨A, L, base, B, base', vs, vb, M, h1, h2, h3, h4, h5, h6, h7, h8⟩ := h
  exact ⟨A, L, base, B, base', vs, vb, M, h1.below hb, h2, h3, h4.below hb, h5, bt h6 hb, h7, h8⟩
theorem BP.up {w X : World} {s m n k : Nat} {b : Nat → Nat → Cn} (h : BP w X s m b n) (hk : n ≤ k) : BP w X s m b k := by
  obtain ⟨A, L, base, B, base', vs, vb, M, h1, h2⟩ := h
  exact ⟨A, L, base, B, base', vs, vb, M, h1.up hk, h2⟩
theorem BP.out {w X : World} {s m n : Nat} {b : Nat → Nat → Cn} (h : BP w X s m b n) : Below w.heap.size w X := by
  obtain ⟨A, L, base, B, base', vs, vb, M, h1, h2, h3, h4, h5, h6, h7, h8⟩ := h
  exact h6
/-- Coins that are neither bank's. -/
def Arg (w X : World) (v : Value) (l : List Cn) : Prop := l = [] ∨ ∀ g, v.ownBlock = some g → g < w.heap.size ∨ X.heap.size ≤ g
theorem stt_over {X Y : World} {s m base base' n : Nat} {A A' B : Nat → Prop} {vs vb : Value} {M : List (Nat × Value)} {b : Nat → Nat → Cn} (h4 : Stt X m base' B vs vb M b) (h5 : ∀ k, A k → ¬ B k) (f : Fr X Y A A') : Stt Y m base' B vs vb M b :=
  h4.kept (fun k hk => f.block k (h4.foot k hk).2 (fun hA => h5 k hA hk)) f.size
theorem bp_step {w X Y Z : World} {s m base base' n k : Nat} {A A' B B' : Nat → Prop} {L' : List (List Int × List Int)} {vs' vb' vs vb : Value} {M' M : List (Nat × Value)} {b b' : Nat → Nat → Cn}
    (h4 : Stt X m base' B vs vb M b) (h5 : ∀ k, A k → ¬ B k) (h6 : Below w.heap.size w X) (h7 : w.heap.size ≤ base) (h8 : w.heap.size ≤ base') (hA : ∀ k, A k → base ≤ k ∧ k < X.heap.size)
    (q1 : StD Y s base A' L' [] k) (q2 : BkL L' b') (f : Fr X Y A A') (hI : BInv b') (r1 : Stt Z m base' B' vs' vb' M' b') (g : Fr Y Z B B') : BP w Z s m b' k := by
  have hd : ∀ k, A' k → ¬ B k := fun k hk hB => by
    rcases f.sub k hk with h | h
    · exact h5 k h hB
    · have := (h4.foot k hB).2; omega
  have e : ∀ k, A' k → Z.heap[k]? = Y.heap[k]? := fun k hk => g.block k (q1.foot k hk).2 (hd k hk)
  refine ⟨A', L', base, B', base', vs', vb', M', q1.kept e g.size, q2, hI, r1, fun k hk hB => ?_, ?_, h7, h8⟩
  · rcases g.sub k hB with h | h
    · exact hd k hk h
    · have := (q1.foot k hk).2; omega
  · have hw : Below w.heap.size w Y := Fr.out h6 f (fun k hk => Nat.le_trans h7 (hA k hk).1)
    exact Fr.out hw g (fun k hk => Nat.le_trans h8 (h4.foot k hk).1)
theorem two_send {w X0 X : World} {s m n : Nat} {b : Nat → Nat → Cn} (h : BP w X s m b n) (hn : n ≤ 800) {f t : Nat} (hf : f ≤ 255) (ht : t ≤ 255) {v : Value} {l : List Cn} (hv : IsCoins X v l) (hwf : ∀ x ∈ l, CnWf x) (hX0 : Below X0.heap.size X0 X) (h0 : BP w X0 s m b n) (hv0 : Arg w X0 v l) :
    ∃ (c : Int) (P : World → Prop), Calls Try.prog 24 #[.pointer (some ⟨s, 0, none⟩), .int .u8 f, .int .u8 t, v] X (fun e w' => e = .returned (.int .i64 c) ∧ P w') ∧ ∀ Y, P Y → Calls Try.prog 29 #[.pointer (some ⟨m, 0, none⟩), .int .u8 f, .int .u8 t, v] Y fun e w' => e = .returned (.int .i64 c) ∧ ∃ b', BP w w' s m b' (n + 16) := by
  obtain ⟨A, L, base, B, base', vs, vb, M, hD0, hB, hI, hS0, hdis, hw0, hlo, hlo'⟩ := h0
  have hD := hD0.below hX0
  have hS := hS0.below hX0
  have hw := bt hw0 hX0
  have hoA : Out A v l := hv0.imp id (fun f g hg hA => by have h1 := hD0.foot g hA; rcases f g hg with h2 | h2 <;> omega)
  have hoB : Out B v l := hv0.imp id (fun f g hg hA => by have h1 := hS0.foot g hA; rcases f g hg with h2 | h2 <;> omega)
  by_cases hbad : f < 205 ∧ rightFrom 0 l = true ∧ t < 205
  · obtain ⟨h1, h2, h3⟩ := hbad
    by_cases hc : Has b f (fun d => amt l d)
    · refine ⟨0, fun Y => ∃ A' L', StD Y s base A' L' [] (n + 16) ∧ BkL L' (giveB (takeB b f (fun d => amt l d)) t (fun d => amt l d)) ∧ Fr X Y A A', (send_ok hD hB hI hn h1 h3 hv hoA hwf h2 hc).mono (fun e w' q => ⟨q.1, q.2⟩), ?_⟩
      rintro Y ⟨A', L', q1, q2, f1⟩
      refine (sendR_ok (stt_over (s := s) (base := base) (n := n) hS hdis f1) hI h1 h3 (hv.fr f1 hoA) hoB hwf h2 hc).mono ?_
      rintro e w' ⟨rfl, B', vs', vb', M', r1, g1⟩
      exact ⟨rfl, _, bp_step (n := n) hS hdis hw hlo hlo' (fun k hk => hD.foot k hk) q1 q2 f1 (hI.send (purse_amt hwf) h1 h3 hc) r1 g1⟩
    · refine ⟨3, fun Y => Below X.heap.size X Y, send_no hD hB hn h1 h3 hv hwf h2 hc, ?_⟩
      intro Y hb
      refine (sendR_no (hS.below hb) hI.pur h1 h3 (hv.below hb) hwf h2 hc).mono ?_
      rintro e w' ⟨rfl, hb2⟩
      exact ⟨rfl, b, (h.below (bt hb hb2)).up (by omega)⟩
  · refine ⟨1, fun Y => Below X.heap.size X Y, send_bad hf ht hv hwf hbad, ?_⟩
    intro Y hb
    refine (sendR_bad hf ht (hv.below hb) hwf hbad).mono ?_
    rintro e w' ⟨rfl, hb2⟩
    exact ⟨rfl, b, (h.below (bt hb hb2)).up (by omega)⟩
theorem two_mint {w X0 X : World} {s m n : Nat} {b : Nat → Nat → Cn} (h : BP w X s m b n) (hn : n ≤ 800) {t : Nat} (ht : t ≤ 255) {v : Value} {l : List Cn} (hv : IsCoins X v l) (hwf : ∀ x ∈ l, CnWf x) (hX0 : Below X0.heap.size X0 X) (h0 : BP w X0 s m b n) (hv0 : Arg w X0 v l) :
    ∃ (c : Int) (P : World → Prop), Calls Try.prog 27 #[.pointer (some ⟨s, 0, none⟩), .int .u8 t, v] X (fun e w' => e = .returned (.int .i64 c) ∧ P w') ∧ ∀ Y, P Y → Calls Try.prog 30 #[.pointer (some ⟨m, 0, none⟩), .int .u8 t, v] Y fun e w' => e = .returned (.int .i64 c) ∧ ∃ b', BP w w' s m b' (n + 16) := by
  obtain ⟨A, L, base, B, base', vs, vb, M, hD0, hB, hI, hS0, hdis, hw0, hlo, hlo'⟩ := h0
  have hD := hD0.below hX0
  have hS := hS0.below hX0
  have hw := bt hw0 hX0
  have hoA : Out A v l := hv0.imp id (fun f g hg hA => by have h1 := hD0.foot g hA; rcases f g hg with h2 | h2 <;> omega)
  have hoB : Out B v l := hv0.imp id (fun f g hg hA => by have h1 := hS0.foot g hA; rcases f g hg with h2 | h2 <;> omega)
  by_cases hbad : t < 205 ∧ rightFrom 0 l = true
  · obtain ⟨h1, h2⟩ := hbad
    by_cases hc : Fits b 256 (fun d => amt l d)
    · refine ⟨0, fun Y => ∃ A' L', StD Y s base A' L' [] (n + 16) ∧ BkL L' (giveB (giveB b 256 (fun d => amt l d)) t (fun d => amt l d)) ∧ Fr X Y A A', (mint_ok hD hB hI hn h1 hv hoA hwf h2 hc).mono (fun e w' q => ⟨q.1, q.2⟩), ?_⟩
      rintro Y ⟨A', L', q1, q2, f1⟩
      refine (mintR_ok (stt_over (s := s) (base := base) (n := n) hS hdis f1) hI h1 (hv.fr f1 hoA) hoB hwf h2 hc).mono ?_
      rintro e w' ⟨rfl, B', vs', vb', M', r1, g1⟩
      exact ⟨rfl, _, bp_step (n := n) hS hdis hw hlo hlo' (fun k hk => hD.foot k hk) q1 q2 f1 (hI.mint (purse_amt hwf) h1 hc) r1 g1⟩
    · refine ⟨2, fun Y => Below X.heap.size X Y, mint_no hD hB hn h1 hv hwf h2 hc, ?_⟩
      intro Y hb
      refine (mintR_no (hS.below hb) hI.pur h1 (hv.below hb) hwf h2 hc).mono ?_
      rintro e w' ⟨rfl, hb2⟩
      exact ⟨rfl, b, (h.below (bt hb hb2)).up (by omega)⟩
  · refine ⟨1, fun Y => Below X.heap.size X Y, mint_bad ht hv hwf hbad, ?_⟩
    intro Y hb
    refine (mintR_bad ht (hv.below hb) hwf hbad).mono ?_
    rintro e w' ⟨rfl, hb2⟩
    exact ⟨rfl, b, (h.below (bt hb hb2)).up (by omega)⟩
theorem two_burn {w X0 X : World} {s m n : Nat} {b : Nat → Nat → Cn} (h : BP w X s m b n) (hn : n ≤ 800) {t : Nat} (ht : t ≤ 255) {v : Value} {l : List Cn} (hv : IsCoins X v l) (hwf : ∀ x ∈ l, CnWf x) (hX0 : Below X0.heap.size X0 X) (h0 : BP w X0 s m b n) (hv0 : Arg w X0 v l) :
    ∃ (c : Int) (P : World → Prop), Calls Try.prog 28 #[.pointer (some ⟨s, 0, none⟩), .int .u8 t, v] X (fun e w' => e = .returned (.int .i64 c) ∧ P w') ∧ ∀ Y, P Y → Calls Try.prog 31 #[.pointer (some ⟨m, 0, none⟩), .int .u8 t, v] Y fun e w' => e = .returned (.int .i64 c) ∧ ∃ b', BP w w' s m b' (n + 16) := by
  obtain ⟨A, L, base, B, base', vs, vb, M, hD0, hB, hI, hS0, hdis, hw0, hlo, hlo'⟩ := h0
  have hD := hD0.below hX0
  have hS := hS0.below hX0
  have hw := bt hw0 hX0
  have hoA : Out A v l := hv0.imp id (fun f g hg hA => by have h1 := hD0.foot g hA; rcases f g hg with h2 | h2 <;> omega)
  have hoB : Out B v l := hv0.imp id (fun f g hg hA => by have h1 := hS0.foot g hA; rcases f g hg with h2 | h2 <;> omega)
  by_cases hbad : t < 205 ∧ rightFrom 0 l = true
  · obtain ⟨h1, h2⟩ := hbad
    by_cases hc : Has b t (fun d => amt l d)
    · refine ⟨0, fun Y => ∃ A' L', StD Y s base A' L' [] (n + 16) ∧ BkL L' (takeB (takeB b t (fun d => amt l d)) 256 (fun d => amt l d)) ∧ Fr X Y A A', (burn_ok hD hB hI hn h1 hv hoA hwf h2 hc).mono (fun e w' q => ⟨q.1, q.2⟩), ?_⟩
      rintro Y ⟨A', L', q1, q2, f1⟩
      refine (burnR_ok (stt_over (s := s) (base := base) (n := n) hS hdis f1) hI h1 (hv.fr f1 hoA) hoB hwf h2 hc).mono ?_
      rintro e w' ⟨rfl, B', vs', vb', M', r1, g1⟩
      exact ⟨rfl, _, bp_step (n := n) hS hdis hw hlo hlo' (fun k hk => hD.foot k hk) q1 q2 f1 (hI.burn (purse_amt hwf) h1 hc) r1 g1⟩
    · refine ⟨3, fun Y => Below X.heap.size X Y, burn_no hD hB hn h1 hv hwf h2 hc, ?_⟩
      intro Y hb
      refine (burnR_no (hS.below hb) hI.pur h1 (hv.below hb) hwf h2 hc).mono ?_
      rintro e w' ⟨rfl, hb2⟩
      exact ⟨rfl, b, (h.below (bt hb hb2)).up (by omega)⟩
  · refine ⟨1, fun Y => Below X.heap.size X Y, burn_bad ht hv hwf hbad, ?_⟩
    intro Y hb
    refine (burnR_bad ht (hv.below hb) hwf hbad).mono ?_
    rintro e w' ⟨rfl, hb2⟩
    exact ⟨rfl, b, (h.below (bt hb hb2)).up (by omega)⟩
end Go.Proofs.Ytgphdioolcfmmaa

/- bank: the law's does. -/
namespace Go.Proofs.Ytgphdioolcfmmaa
open Go.RowKit

theorem coins9_any {w : World} {y : Ac} (hy : AcIn w y) (h12 : y.n ≤ 12) (Z : World) (hZ : Below w.heap.size w Z) :
    Calls Try.prog 23 #[.agg #[.int .u8 y.d, .int .u8 y.f, .int .u8 y.t, .slice y.a y.n y.cap, .bool y.o]] Z fun e w' => ∃ v l, e = .returned v ∧ IsCoins w' v l ∧ (∀ x ∈ l, CnWf x) ∧ Arg w Z v l ∧ Below Z.heap.size Z w' := by
  obtain ⟨h1, h2, h3⟩ := hy.l (by omega)
  cases ho : y.o
  · have h4 := h1.below hZ
    rw [← h2] at h4
    rw [← h2]
    refine (coins9_even y.d y.f y.t y.a y.L y.cap Z h4 h3 (by omega)).mono ?_
    rintro e w' ⟨v, rfl, hr, hb⟩
    have hP := purse_of y.L (fun x hx => (h3 x hx).2)
    exact ⟨v, _, rfl, own_coins hr (lst8 _), lst_wf hP, .inr (fun g hg => .inr (hr.lt g hg).1), hb⟩
  · refine (coins9_odd y.d y.f y.t y.a y.n y.cap Z).mono ?_
    rintro e w' ⟨rfl, hb⟩
    refine ⟨_, y.L, rfl, h1.below (bt hZ hb), h3, ?_, hb⟩
    rcases h1 with ⟨h5, -⟩ | ⟨blk, off, cap, e, -, -, hlt, -⟩
    · exact .inl h5
    · refine .inr (fun g hg => .inl ?_)
      rw [e] at hg; injection hg with hg; simp only at hg; omega
set_option maxHeartbeats 8000000 in
theorem does9_any {w X : World} {s m n : Nat} {b : Nat → Nat → Cn} (h : BP w X s m b n) (hn : n ≤ 800) {y : Ac} (hy : AcIn w y) (h12 : y.n ≤ 12) :
    Calls Try.prog 12 #[.pointer (some ⟨s, 0, none⟩), .pointer (some ⟨m, 0, none⟩), .agg #[.int .u8 y.d, .int .u8 y.f, .int .u8 y.t, .slice y.a y.n y.cap, .bool y.o]] X fun e w' => e = .returned (.bool true) ∧ ∃ b', BP w w' s m b' (n + 16) := by
  have hC := fun Z hZ => coins9_any hy h12 Z (bt h.out hZ)
  replace hC : Hid (∀ Z, Below X.heap.size X Z → _) := hC
  obtain ⟨⟨hd0, hd1⟩, ⟨hf0, hf1⟩, ⟨ht0, ht1⟩, -, -⟩ := hy
  obtain ⟨d, f, t, a, k, cap, o, L⟩ := y
  simp only at hC hd0 hd1 hf0 hf1 ht0 ht1 ⊢
  clear h12
  obtain ⟨f, rfl⟩ := Int.eq_ofNat_of_zero_le hf0
  obtain ⟨t, rfl⟩ := Int.eq_ofNat_of_zero_le ht0
  have hf : f ≤ 255 := by omega
  have ht : t ≤ 255 := by omega
  clear hf0 hf1 ht0 ht1
  obtain ⟨j, hj⟩ : ∃ j : Nat, d % 4 = (j : Int) := ⟨(d % 4).toNat, by omega⟩
  have hj4 : j < 4 := by omega
  have hjm : d.tmod 4 = (j : Int) := by rw [Int.tmod_eq_emod_of_nonneg hd0, hj]
  have hKp : Hid (∀ Z, Below (X.alloc (.cells #[.int .u8 d, .int .u8 f, .int .u8 t, .slice a k cap, .bool o] 40)).heap.size (X.alloc (.cells #[.int .u8 d, .int .u8 f, .int .u8 t, .slice a k cap, .bool o] 40)) Z → Z.cell? ⟨X.heap.size, 0, none⟩ = some (.int .u8 d) ∧ Z.cell? ⟨X.heap.size, 1, none⟩ = some (.int .u8 f) ∧ Z.cell? ⟨X.heap.size, 2, none⟩ = some (.int .u8 t)) := fun Z hZ => by
    have q1 := (cells_of_block ((hZ.block X.heap.size (by simp)).trans (al_at rfl))).1
    exact ⟨q1 0, q1 1, q1 2⟩
  clear hj hd0 hd1
  have walk : ∀ j : Nat, d.tmod 4 = (j : Int) → j < 4 → Calls Try.prog 12 #[.pointer (some ⟨s, 0, none⟩), .pointer (some ⟨m, 0, none⟩), .agg #[.int .u8 d, .int .u8 f, .int .u8 t, .slice a k cap, .bool o]] X fun e w' => e = .returned (.bool true) ∧ ∃ b', BP w w' s m b' (n + 16) := by
    clear hjm hj4 j
    intro j hjm hj4
    go_enter Try.func12, Try.ntmps12
    go_upto_region 2 with (go_at_call 23; refine (hC.out _ (by (repeat (first | (with_reducible exact Below.refl _ _) | (with_reducible assumption) | (with_reducible apply bd) | (with_reducible apply ba) | (with_reducible refine bp ?_ (by first | omega | (simp [pad_size]; done) | (simp [pad_size]; omega)) _ _) | (with_reducible refine bs ?_ (by first | omega | (simp [pad_size]; done) | (simp [pad_size]; omega)) _) | (with_reducible refine bt ?_ (by assumption)))))).mono ?_; rintro e w1 ⟨v, l, rfl, hv, hwf, hArg, hb1⟩)
    have hB1 : Below X.heap.size X w1 := bt (by (repeat (first | (with_reducible exact Below.refl _ _) | (with_reducible assumption) | (with_reducible apply bd) | (with_reducible apply ba) | (with_reducible refine bp ?_ (by first | omega | (simp [pad_size]; done) | (simp [pad_size]; omega)) _ _) | (with_reducible refine bs ?_ (by first | omega | (simp [pad_size]; done) | (simp [pad_size]; omega)) _) | (with_reducible refine bt ?_ (by assumption))))) hb1
    have hArgX : Arg w X v l := hArg.imp id (fun g q hq => (g q hq).imp id (fun h => by simp at h; omega))
    clear hArg hC
    go_region_held2 (fun Z => Z.cell? ⟨X.heap.size, 1, none⟩ = some (.int .u8 f) ∧ Z.cell? ⟨X.heap.size, 2, none⟩ = some (.int .u8 t)) (first | (with_reducible assumption) | exact (hKp.out _ (by (repeat (first | (with_reducible exact Below.refl _ _) | (with_reducible assumption) | (with_reducible apply bd) | (with_reducible apply ba) | (with_reducible refine bp ?_ (by first | omega | (simp [pad_size]; done) | (simp [pad_size]; omega)) _ _) | (with_reducible refine bs ?_ (by first | omega | (simp [pad_size]; done) | (simp [pad_size]; omega)) _) | (with_reducible refine bt ?_ (by assumption)))))).2) (first
      | (go_at_call 22; with_reducible refine (addr9_any f hf _).mono ?_; rintro e w2 ⟨p, hp, rfl, hb2⟩)
      | (go_at_call 22; with_reducible refine (addr9_any t ht _).mono ?_; rintro e w3 ⟨q, hq, rfl, hb3⟩))
    have hB13 : Below w1.heap.size w1 w3 := (by first | exact bt hb2 hb3 | exact bt (bt (bd (Below.refl _ _)) hb2) hb3 | exact bt (bt (bd (bd (Below.refl _ _))) hb2) hb3)
    have hB3 : Below X.heap.size X w3 := bt hB1 hB13
    have c0 := (hKp.out _ (bt hb1 hB13)).1
    rcases (show j = 0 ∨ j = 1 ∨ j = 2 ∨ j = 3 by omega) with rfl | rfl | rfl | rfl
    all_goals go_wp2_with (first
      | (go_at_call 24; obtain ⟨c, P, hS, hR⟩ := two_send (h.below hB3) hn hp hq (hv.below hB13) hwf hB3 h hArgX; refine hS.mono ?_; clear hS; rintro e w5 ⟨rfl, hP5⟩)
      | (go_at_call 29; refine (hR _ hP5).mono ?_; clear hR; rintro e w6 ⟨rfl, hQ⟩)
      | (go_at_call 27; obtain ⟨c, P, hS, hR⟩ := two_mint (h.below hB3) hn hq (hv.below hB13) hwf hB3 h hArgX; refine hS.mono ?_; clear hS; rintro e w5 ⟨rfl, hP5⟩)
      | (go_at_call 30; refine (hR _ hP5).mono ?_; clear hR; rintro e w6 ⟨rfl, hQ⟩)
      | (go_at_call 28; obtain ⟨c, P, hS, hR⟩ := two_burn (h.below hB3) hn hp (hv.below hB13) hwf hB3 h hArgX; refine hS.mono ?_; clear hS; rintro e w5 ⟨rfl, hP5⟩)
      | (go_at_call 31; refine (hR _ hP5).mono ?_; clear hR; rintro e w6 ⟨rfl, hQ⟩))
    all_goals go_ret
    all_goals exact ⟨rfl, hQ⟩
  exact walk j hjm hj4
end Go.Proofs.Ytgphdioolcfmmaa

/- bank: the law's same. -/
namespace Go.Proofs.Ytgphdioolcfmmaa
open Go.RowKit

theorem AllAt.at {X : World} {lo : Nat} {ov : Value} {O : List (Nat × Value)} {b : Nat → Nat → Cn} {k : Nat} (h : AllAt X lo ov O b k) {i : Nat} (hi : i < O.length) : ∃ g cap, ov = .slice (some ⟨g, 0, none⟩) O.length cap ∧ g < X.heap.size ∧ X.cell? ⟨g, i * 2, none⟩ = some (.int .u8 (O[i].1 : Int)) ∧ X.cell? ⟨g, i * 2 + 1, none⟩ = some O[i].2 := by
  obtain ⟨a, c, ev⟩ := row_slice h.row
  subst ev
  rcases h.row.2 with ⟨e, h0⟩ | ⟨g, cap, cur, e, hb, hg, r⟩
  · omega
  · simp at e
    obtain ⟨rfl, rfl⟩ := e
    obtain ⟨q1, q2⟩ := cellsB_at O i (List.getElem?_eq_getElem hi)
    refine ⟨g, c, rfl, (Array.getElem?_eq_some_iff.1 hg).1, ?_, ?_⟩
    · rw [World.ownsRow.cellAt h.row (i * 2) (by omega)]; exact q1
    · rw [World.ownsRow.cellAt h.row (i * 2 + 1) (by omega)]; exact q2
set_option maxRecDepth 100000 in
set_option maxHeartbeats 8000000 in
theorem same9_any {w X : World} {s m n : Nat} {b : Nat → Nat → Cn} (h : BP w X s m b n) (hn : n ≤ 1000) :
    Calls Try.prog 13 #[.pointer (some ⟨s, 0, none⟩), .pointer (some ⟨m, 0, none⟩)] X fun e w' => e = .returned (.bool true) ∧ Below X.heap.size X w' := by
  have hpad := pads
  obtain ⟨A, L, base, B, base', vs, vb, M, hD, hB, hI, hS, hdis, -, -, -⟩ := h
  obtain ⟨as', ks, evs⟩ := cn_slice hS.sup
  obtain ⟨ab, kb, evb⟩ := row_slice hS.row
  have hml := (hS.foot m hS.bm).2
  have hKp : Hid (∀ Z, Below X.heap.size X Z → Z.cell? ⟨m, 1, none⟩ = some (.slice as' (lst (b 256) 8).length ks) ∧ Z.cell? ⟨m, 2, none⟩ = some (.slice ab M.length kb)) := fun Z hZ => by
    have q1 := (cells_of_block ((hZ.block m hml).trans hS.blk)).1
    exact ⟨by rw [q1, ← evs]; rfl, by rw [q1, ← evb]; rfl⟩
  have hsup := hS.sup
  rw [evs] at hsup
  have hsp : Hid (∀ Z, Below X.heap.size X Z → Calls Try.prog 17 #[.pointer (some ⟨s, 0, none⟩)] Z fun e w' => ∃ v, e = .returned v ∧ IsCoins w' v (lst (b 256) 8) ∧ Below Z.heap.size Z w') := fun Z hZ => supply_any (hD.below hZ) hB hn
  have hco : Hid (∀ Z (p : Nat), p ≤ 255 → Below X.heap.size X Z → Calls Try.prog 21 #[.pointer (some ⟨s, 0, none⟩), .int .u8 p] Z fun e w' => ∃ v, e = .returned v ∧ IsCoins w' v (lst (b p) 8) ∧ Below Z.heap.size Z w') := fun Z p hp hZ => coinsB_any (hD.below hZ) hB hn hp
  have hlM := hS.len
  go_enter Try.func13, Try.ntmps13
  go_upto_region 2 with (go_at_call 14; refine (allB_any hD hB hn).mono ?_; rintro e w1 ⟨ov, O, rfl, hO, hb1⟩; obtain ⟨ao, ko, rfl⟩ := row_slice hO.row; have hlen : O.length = M.length := (by have e1 := congrArg List.length (hO.adr.trans hS.adr.symm); simpa using e1); have hadr := hO.adr.trans hS.adr.symm; rw [hlen])
  have k1 := hKp.out _ hb1
  have hs1 := hsup.below hb1
  go_region_held2 (fun Z => Z.cell? ⟨m, 1, none⟩ = some (.slice as' (lst (b 256) 8).length ks) ∧ Z.cell? ⟨m, 2, none⟩ = some (.slice ab M.length kb)) (first | (with_reducible assumption) | exact hKp.out _ (bt hb1 (by (repeat (first | (with_reducible exact Below.refl _ _) | (with_reducible assumption) | (with_reducible apply bd) | (with_reducible apply ba) | (with_reducible refine bp ?_ (by first | omega | (simp [pad_size]; done) | (simp [pad_size]; omega)) _ _) | (with_reducible refine bs ?_ (by first | omega | (simp [pad_size]; done) | (simp [pad_size]; omega)) _) | (with_reducible refine bt ?_ (by assumption))))))) (first
    | (go_at_call 17; with_reducible refine (hsp.out _ (bt hb1 (by (repeat (first | (with_reducible exact Below.refl _ _) | (with_reducible assumption) | (with_reducible apply bd) | (with_reducible apply ba) | (with_reducible refine bp ?_ (by first | omega | (simp [pad_size]; done) | (simp [pad_size]; omega)) _ _) | (with_reducible refine bs ?_ (by first | omega | (simp [pad_size]; done) | (simp [pad_size]; omega)) _) | (with_reducible refine bt ?_ (by assumption))))))).mono ?_; rintro e w2 ⟨v2, rfl, hv2, hb2⟩)
    | (go_at_call 16; with_reducible refine (sameC_any _ hv2 (hs1.below (by (repeat (first | (with_reducible exact Below.refl _ _) | (with_reducible assumption) | (with_reducible apply bd) | (with_reducible apply ba) | (with_reducible refine bp ?_ (by first | omega | (simp [pad_size]; done) | (simp [pad_size]; omega)) _ _) | (with_reducible refine bs ?_ (by first | omega | (simp [pad_size]; done) | (simp [pad_size]; omega)) _) | (with_reducible refine bt ?_ (by assumption))))))).mono ?_; rintro e w3 ⟨rfl, hb3⟩))
  have hB3 : Below w1.heap.size w1 w3 := (by first | exact bt hb2 hb3 | exact bt (bt (bd (Below.refl _ _)) hb2) hb3)
  have hX3 : Below X.heap.size X w3 := bt hb1 hB3
  clear hb2 hb3 hv2 k1 hs1 hsp hsup
  go_wp2
  go_loopw [6] (fun i Y => ∃ j : Nat, j ≤ M.length ∧ i = .int .i64 (j : Int) ∧ Below w3.heap.size w3 Y) (fun i _ => M.length - (intOf i).toNat)
  case atStart => exact ⟨0, by omega, rfl, Below.refl _ _⟩
  case round =>
    obtain ⟨j, hj, rfl, hY⟩ := hrel
    have hXr : Below X.heap.size X wr := bt hX3 hY
    have h1r : Below w1.heap.size w1 wr := bt hB3 hY
    have k2 := (hKp.out _ hXr).2
    by_cases hlt : j < M.length
    · obtain ⟨gb, cb, ev, hgb, d0, d1⟩ := hS.at hlt
      rw [evb] at ev
      simp at ev
      obtain ⟨rfl, rfl⟩ := ev
      obtain ⟨go, co, ev, hgo, f0, f1⟩ := hO.at (i := j) (by omega)
      rw [hlen] at ev
      simp at ev
      obtain ⟨rfl, rfl⟩ := ev
      have hp : O[j].1 = M[j].1 := by
        have e1 : (O.map (·.1))[j]'(by simpa [hlen] using hlt) = (M.map (·.1))[j]'(by simpa using hlt) := by simp only [hadr]
        simpa using e1
      have hp255 : M[j].1 ≤ 255 := by
        have h2 : M[j].1 ∈ asF b 205 0 := by rw [← hS.adr]; exact List.mem_map.2 ⟨_, List.getElem_mem hlt, rfl⟩
        have := (asF_mem 205 0).1 h2
        omega
      have q1 := (hO.all O[j] (List.getElem_mem (by omega))).1
      have q2 := (hS.all M[j] (List.getElem_mem hlt)).1
      rw [hp] at q1 f0
      obtain ⟨a1, n1, e1⟩ := cn_slice q1
      obtain ⟨a2, n2, e2⟩ := cn_slice q2
      rw [e1] at q1 f1
      rw [e2] at q2 d1
      have q1r := q1.below h1r
      have q2r := q2.below hXr
      have d0r := (hXr.cell (p := ⟨gb, j * 2, none⟩) hgb).trans d0
      have d1r := (hXr.cell (p := ⟨gb, j * 2 + 1, none⟩) hgb).trans d1
      have hgr : go < wr.heap.size := Nat.lt_of_lt_of_le hgo h1r.size
      have f0r := (h1r.cell (p := ⟨go, j * 2, none⟩) hgo).trans f0
      have f1r := (h1r.cell (p := ⟨go, j * 2 + 1, none⟩) hgo).trans f1
      clear q1 q2 d0 d1 f0 f1 e1 e2 hp
      generalize M[j].1 = pp at *
      have hcoP := fun Z hZ => hco.out Z pp hp255 hZ
      replace hcoP : Hid (∀ Z, Below X.heap.size X Z → _) := hcoP
      clear hco
      generalize lst (b pp) 8 = lc at *
      have hlt' : (j : Int) < (M.length : Int) := by omega
      have hK8 : Hid (∀ Z, Below (wr.alloc (.cells #[.int .u8 (pp : Int), .slice a2 lc.length n2] 46)).heap.size (wr.alloc (.cells #[.int .u8 (pp : Int), .slice a2 lc.length n2] 46)) Z → Z.cell? ⟨go, j * 2, none⟩ = some (.int .u8 (pp : Int)) ∧ Z.cell? ⟨go, j * 2 + 1, none⟩ = some (.slice a1 lc.length n1) ∧ Z.cell? ⟨wr.heap.size, 0, none⟩ = some (.int .u8 (pp : Int)) ∧ Z.cell? ⟨wr.heap.size, 1, none⟩ = some (.slice a2 lc.length n2)) := fun Z hZ => by
        have hw : Below wr.heap.size wr Z := (ba (Below.refl _ _) _ : Below wr.heap.size wr (wr.alloc _)).trans (hZ.mono (by simp))
        have q1 := (cells_of_block ((hZ.block wr.heap.size (by simp)).trans (al_at rfl))).1
        exact ⟨(hw.cell (p := ⟨go, j * 2, none⟩) hgr).trans f0r, (hw.cell (p := ⟨go, j * 2 + 1, none⟩) hgr).trans f1r, q1 0, q1 1⟩
      clear hS hD hB hI hdis hO hadr hKp evs evb hlen
      go_upto_region 8 with fail
      go_region_held2 (fun Z => Z.cell? ⟨go, j * 2, none⟩ = some (.int .u8 (pp : Int)) ∧ Z.cell? ⟨go, j * 2 + 1, none⟩ = some (.slice a1 lc.length n1) ∧ Z.cell? ⟨wr.heap.size, 0, none⟩ = some (.int .u8 (pp : Int)) ∧ Z.cell? ⟨wr.heap.size, 1, none⟩ = some (.slice a2 lc.length n2)) (first | (with_reducible assumption) | exact hK8.out _ (by (repeat (first | (with_reducible exact Below.refl _ _) | (with_reducible assumption) | (with_reducible apply bd) | (with_reducible apply ba) | (with_reducible refine bp ?_ (by first | omega | (simp [pad_size]; done) | (simp [pad_size]; omega)) _ _) | (with_reducible refine bs ?_ (by first | omega | (simp [pad_size]; done) | (simp [pad_size]; omega)) _) | (with_reducible refine bt ?_ (by assumption)))))) (first
        | (go_at_call 16; with_reducible refine (sameC_any _ (q1r.below (by (repeat (first | (with_reducible exact Below.refl _ _) | (with_reducible assumption) | (with_reducible apply bd) | (with_reducible apply ba) | (with_reducible refine bp ?_ (by first | omega | (simp [pad_size]; done) | (simp [pad_size]; omega)) _ _) | (with_reducible refine bs ?_ (by first | omega | (simp [pad_size]; done) | (simp [pad_size]; omega)) _) | (with_reducible refine bt ?_ (by assumption)))))) (q2r.below (by (repeat (first | (with_reducible exact Below.refl _ _) | (with_reducible assumption) | (with_reducible apply bd) | (with_reducible apply ba) | (with_reducible refine bp ?_ (by first | omega | (simp [pad_size]; done) | (simp [pad_size]; omega)) _ _) | (with_reducible refine bs ?_ (by first | omega | (simp [pad_size]; done) | (simp [pad_size]; omega)) _) | (with_reducible refine bt ?_ (by assumption))))))).mono ?_; rintro e w4 ⟨rfl, hb4⟩)
        | (go_at_call 21; with_reducible refine (hcoP.out _ (bt hXr (by (repeat (first | (with_reducible exact Below.refl _ _) | (with_reducible assumption) | (with_reducible apply bd) | (with_reducible apply ba) | (with_reducible refine bp ?_ (by first | omega | (simp [pad_size]; done) | (simp [pad_size]; omega)) _ _) | (with_reducible refine bs ?_ (by first | omega | (simp [pad_size]; done) | (simp [pad_size]; omega)) _) | (with_reducible refine bt ?_ (by assumption))))))).mono ?_; rintro e w5 ⟨v5, rfl, hv5, hb5⟩)
        | (go_at_call 16; with_reducible refine (sameC_any _ hv5 (q2r.below (by (repeat (first | (with_reducible exact Below.refl _ _) | (with_reducible assumption) | (with_reducible apply bd) | (with_reducible apply ba) | (with_reducible refine bp ?_ (by first | omega | (simp [pad_size]; done) | (simp [pad_size]; omega)) _ _) | (with_reducible refine bs ?_ (by first | omega | (simp [pad_size]; done) | (simp [pad_size]; omega)) _) | (with_reducible refine bt ?_ (by assumption))))))).mono ?_; rintro e w6 ⟨rfl, hb6⟩))
      have hB6 : Below wr.heap.size wr w6 := (by first | exact bt (bt (bt (ba (Below.refl _ _) _) hb4) hb5) hb6 | exact bt (bt (bt (bd (ba (Below.refl _ _) _)) hb4) hb5) hb6 | exact bt (bt (bt (ba (bd (Below.refl _ _)) _) hb4) hb5) hb6)
      all_goals go_wp2
      all_goals go_roundw
      case rel => exact ⟨j + 1, by omega, by go_num, bt hY hB6⟩
      case measure => (simp [intOf] <;> omega)
    · have hjn : j = M.length := by omega
      subst hjn
      go_wp2
      go_ret
      exact ⟨rfl, hXr⟩
end Go.Proofs.Ytgphdioolcfmmaa

/- bank: the document's example. -/
namespace Go.Proofs.Ytgphdioolcfmmaa
open Go.RowKit

def c1 (n : Int) : Cn := ⟨0, n, 0, 0, 0⟩
def y1 (n : Int) : Nat → Cn := fun d => amt [c1 n] d
theorem coin_blk {X : World} {g : Nat} {x : Cn} (h : X.heap[g]? = some (.cells #[.int .u8 x.d, .int .u64 x.a, .int .u64 x.b, .int .u64 x.c, .int .u64 x.e] 65 (0, 0))) : IsCoins X (.slice (some ⟨g, 0, none⟩) 1 1) [x] := by
  refine .inr ⟨g, 0, 1, rfl, by simp, by simp, (Array.getElem?_eq_some_iff.1 h).1, fun i y hi => ?_⟩
  have hi0 : i = 0 := by have := (List.getElem?_eq_some_iff.1 hi).1; simp at this; omega
  subst hi0
  simp at hi
  subst hi
  have c := (cells_of_block h).1
  exact ⟨c 0, c 1, c 2, c 3, c 4⟩
theorem wf_c1 {n : Int} (h : 0 ≤ n ∧ n < 18446744073709551616) : ∀ x ∈ [c1 n], CnWf x := by
  intro x hx
  rw [List.mem_singleton] at hx
  subst hx
  unfold CnWf c1 Lim
  simp only
  omega
def bS1 : Nat → Nat → Cn := giveB (giveB (fun _ => zeroP) 256 (y1 5)) 1 (y1 5)
def bS2 : Nat → Nat → Cn := giveB (takeB bS1 1 (y1 2)) 3 (y1 2)
def bS3 : Nat → Nat → Cn := takeB (takeB bS2 3 (y1 1)) 256 (y1 1)
theorem ex_fits : Fits (fun _ => zeroP) 256 (fun d => amt [c1 5] d) := by
  show ∀ d : Nat, d < 8 → vl (zeroP d) + vl (amt [c1 5] d) < 115792089237316195423570985008687907853269984665640564039457584007913129639936
  decide +kernel
theorem ex_has1 : Has bS1 1 (fun d => amt [c1 2] d) := by
  show ∀ d : Nat, d < 8 → vl (amt [c1 2] d) ≤ vl (bS1 1 d)
  decide +kernel
theorem ex_has2 : Has bS2 3 (fun d => amt [c1 1] d) := by
  show ∀ d : Nat, d < 8 → vl (amt [c1 1] d) ≤ vl (bS2 3 d)
  decide +kernel
theorem ex_all : lst (bS3 256) 8 = [c1 4] := by kernel_rfl
theorem ex_bal : amt (lst (bS3 1) 8) 0 = c1 3 := by kernel_rfl
theorem inv1 : BInv bS1 := BInv.new.mint (purse_amt (wf_c1 (by omega))) (by omega) ex_fits
theorem inv2 : BInv bS2 := inv1.send (purse_amt (wf_c1 (by omega))) (by omega) (by omega) ex_has1
theorem right_c1 {n : Int} (h : n ≠ 0) : rightFrom 0 [c1 n] = true := by
  simp [rightFrom, c1, eq4, h]
section
variable {W : World} {s base g : Nat} {A : Nat → Prop} {L : List (List Int × List Int)} {ds : List (List (List Int × List Int))} {n : Nat}
theorem ex_mint (h : StD W s base A [] ds 0) (hg : W.heap[g]? = some (.cells #[.int .u8 0, .int .u64 5, .int .u64 0, .int .u64 0, .int .u64 0] 65 (0, 0))) (hA : ¬ A g) :
    Calls Try.prog 27 #[.pointer (some ⟨s, 0, none⟩), .int .u8 1, .slice (some ⟨g, 0, none⟩) 1 1] W fun e w' => e = .returned (.int .i64 0) ∧ ∃ A' L', StD w' s base A' L' ds 16 ∧ BkL L' bS1 ∧ Fr W w' A A' :=
  mint_ok h BkL.new BInv.new (by omega) (t := 1) (by omega) (coin_blk (x := c1 5) hg) (.inr fun k hk => by injection hk with hk; subst hk; exact hA) (wf_c1 (by omega)) (right_c1 (by omega)) ex_fits
theorem ex_send (h : StD W s base A L ds 16) (hB : BkL L bS1) (hg : W.heap[g]? = some (.cells #[.int .u8 0, .int .u64 2, .int .u64 0, .int .u64 0, .int .u64 0] 65 (0, 0))) (hA : ¬ A g) :
    Calls Try.prog 24 #[.pointer (some ⟨s, 0, none⟩), .int .u8 1, .int .u8 3, .slice (some ⟨g, 0, none⟩) 1 1] W fun e w' => e = .returned (.int .i64 0) ∧ ∃ A' L', StD w' s base A' L' ds 32 ∧ BkL L' bS2 ∧ Fr W w' A A' :=
  send_ok h hB inv1 (by omega) (f := 1) (t := 3) (by omega) (by omega) (coin_blk (x := c1 2) hg) (.inr fun k hk => by injection hk with hk; subst hk; exact hA) (wf_c1 (by omega)) (right_c1 (by omega)) ex_has1
theorem ex_burn (h : StD W s base A L ds 32) (hB : BkL L bS2) (hg : W.heap[g]? = some (.cells #[.int .u8 0, .int .u64 1, .int .u64 0, .int .u64 0, .int .u64 0] 65 (0, 0))) (hA : ¬ A g) :
    Calls Try.prog 28 #[.pointer (some ⟨s, 0, none⟩), .int .u8 3, .slice (some ⟨g, 0, none⟩) 1 1] W fun e w' => e = .returned (.int .i64 0) ∧ ∃ A' L', StD w' s base A' L' ds 48 ∧ BkL L' bS3 ∧ Fr W w' A A' :=
  burn_ok h hB inv2 (by omega) (t := 3) (by omega) (coin_blk (x := c1 1) hg) (.inr fun k hk => by injection hk with hk; subst hk; exact hA) (wf_c1 (by omega)) (right_c1 (by omega)) ex_has2
theorem ex_supply (h : StD W s base A L ds 48) (hB : BkL L bS3) :
    Calls Try.prog 17 #[.pointer (some ⟨s, 0, none⟩)] W fun e w' => ∃ g o cap, e = .returned (.slice (some ⟨g, o, none⟩) 1 cap) ∧ g < w'.heap.size ∧ CnAt w' g o (c1 4) ∧ Below W.heap.size W w' := by
  refine (supply_any h hB (by omega)).mono ?_
  rintro e w' ⟨v, rfl, hv, hb⟩
  rw [ex_all] at hv
  obtain ⟨g, o, cap, rfl, hg, hc⟩ := cn_at hv (j := 0) (by simp)
  exact ⟨g, o, cap, rfl, hg, by simpa using hc, hb⟩
theorem ex_balance (h : StD W s base A L ds 48) (hB : BkL L bS3) :
    Calls Try.prog 18 #[.pointer (some ⟨s, 0, none⟩), .int .u8 1, .int .u8 0] W fun e w' => e = .returned (.agg #[.int .u64 3, .int .u64 0, .int .u64 0, .int .u64 0]) ∧ Below W.heap.size W w' := by
  have := balance_any h hB (by omega) (a := 1) (d := 0) (by omega) (by omega)
  have e : amt (lst (bS3 1) 8) ((0 : Nat) : Int) = c1 3 := ex_bal
  rw [e] at this
  exact this
theorem ex_no (W : World) : Calls Try.prog 24 #[.pointer (some ⟨s, 0, none⟩), .int .u8 1, .int .u8 250, .slice none 0 0] W fun e w' => e = .returned (.int .i64 1) ∧ Below W.heap.size W w' :=
  send_bad (f := 1) (t := 250) (by omega) (by omega) (l := []) (.inl ⟨rfl, _, _, rfl⟩) (by simp) (by omega)
end
set_option maxHeartbeats 8000000 in
theorem sends_any (w : World) : Calls Try.prog 9 #[] w fun e w' => e = .returned (.bool true) ∧ Below w.heap.size w w' := by
  have heq := eq_num
  have he4 : eq4 4 0 0 0 4 0 0 0 = true := by decide
  have he3 : eq4 3 0 0 0 3 0 0 0 = true := by decide
  go_enter Try.func9, Try.ntmps9
  go_wp2_with (first
    | (go_at_call 11; refine (stdNew _).mono ?_; rintro e w1 ⟨rfl, h1, hb1⟩; have hlt1 := (h1.foot _ rfl).2)
    | (go_at_call 27; refine (ex_mint (g := w1.heap.size) (h1.below (by (repeat (first | (with_reducible exact Below.refl _ _) | (with_reducible assumption) | (with_reducible apply bd) | (with_reducible apply ba) | (with_reducible refine bp ?_ (by first | omega | (simp [pad_size]; done) | (simp [pad_size]; omega)) _ _) | (with_reducible refine bs ?_ (by first | omega | (simp [pad_size]; done) | (simp [pad_size]; omega)) _) | (with_reducible refine bt ?_ (by assumption)))))) (by (repeat (first | (with_reducible exact al_at (by simp [pad_size])) | (with_reducible refine Eq.trans (dr_blk _ _) ?_) | (with_reducible refine Eq.trans (al_old (by first | omega | (simp [pad_size]; done) | (simp [pad_size]; omega))) ?_) | (with_reducible refine Eq.trans (pad_block (by first | omega | (simp [pad_size]; done) | (simp [pad_size]; omega)) (by first | omega | (simp [pad_size]; done) | (simp [pad_size]; omega))) ?_) | (with_reducible assumption)))) (by show ¬ _ = _; omega)).mono ?_; rintro e w2 ⟨rfl, A2, L2, h2, hB2, f2⟩; have z2 := f2.size; simp at z2; have q2 : w2.heap[w1.heap.size + 1]? = some (.cells #[.int .u8 0, .int .u64 2, .int .u64 0, .int .u64 0, .int .u64 0] 65 (0, 0)) := (f2.block (w1.heap.size + 1) (by simp <;> omega) (by show ¬ _ = _; omega)).trans (by (repeat (first | (with_reducible exact al_at (by simp [pad_size])) | (with_reducible refine Eq.trans (dr_blk _ _) ?_) | (with_reducible refine Eq.trans (al_old (by first | omega | (simp [pad_size]; done) | (simp [pad_size]; omega))) ?_) | (with_reducible refine Eq.trans (pad_block (by first | omega | (simp [pad_size]; done) | (simp [pad_size]; omega)) (by first | omega | (simp [pad_size]; done) | (simp [pad_size]; omega))) ?_) | (with_reducible assumption)))); have q3 : w2.heap[w1.heap.size + 1 + 1]? = some (.cells #[.int .u8 0, .int .u64 1, .int .u64 0, .int .u64 0, .int .u64 0] 65 (0, 0)) := (f2.block (w1.heap.size + 1 + 1) (by simp <;> omega) (by show ¬ _ = _; omega)).trans (by (repeat (first | (with_reducible exact al_at (by simp [pad_size])) | (with_reducible refine Eq.trans (dr_blk _ _) ?_) | (with_reducible refine Eq.trans (al_old (by first | omega | (simp [pad_size]; done) | (simp [pad_size]; omega))) ?_) | (with_reducible refine Eq.trans (pad_block (by first | omega | (simp [pad_size]; done) | (simp [pad_size]; omega)) (by first | omega | (simp [pad_size]; done) | (simp [pad_size]; omega))) ?_) | (with_reducible assumption)))); have n2 : ¬ A2 (w1.heap.size + 1) := (fun hc => by rcases f2.sub _ hc with h | h; exact absurd (show w1.heap.size + 1 = w.heap.size from h) (by omega); (simp at h <;> omega)); have n3 : ¬ A2 (w1.heap.size + 1 + 1) := (fun hc => by rcases f2.sub _ hc with h | h; exact absurd (show w1.heap.size + 1 + 1 = w.heap.size from h) (by omega); (simp at h <;> omega)))
    | (go_at_call 24; refine (ex_send h2 hB2 q2 n2).mono ?_; rintro e w3 ⟨rfl, A3, L3, h3, hB3, f3⟩; have z3 := f3.size; have q4 := (f3.block _ (by omega) n3).trans q3; have n4 : ¬ A3 (w1.heap.size + 1 + 1) := (fun hc => by rcases f3.sub _ hc with h | h; exact n3 h; omega); clear q2 n2 q3)
    | (go_at_call 28; refine (ex_burn h3 hB3 q4 n4).mono ?_; rintro e w4 ⟨rfl, A4, L4, h4, hB4, f4⟩; clear q4)
    | (go_at_call 17; refine (ex_supply h4 hB4).mono ?_; rintro e w5 ⟨g, o, cap, rfl, hg5, ⟨d0, d1, d2, d3, d4⟩, hb5⟩; simp only [c1] at d0 d1 d2 d3 d4)
    | (go_at_call 18; refine (ex_balance (h4.below hb5) hB4).mono ?_; rintro e w6 ⟨rfl, hb6⟩)
    | (go_at_call 24; refine (ex_no _).mono ?_; rintro e w7 ⟨rfl, hb7⟩))
  go_ret
  have hX : Below w.heap.size w (((w1.alloc (.cells #[.int .u8 0, .int .u64 5, .int .u64 0, .int .u64 0, .int .u64 0] 65)).alloc (.cells #[.int .u8 0, .int .u64 2, .int .u64 0, .int .u64 0, .int .u64 0] 65)).alloc (.cells #[.int .u8 0, .int .u64 1, .int .u64 0, .int .u64 0, .int .u64 0] 65)) := bt hb1 (by (repeat (first | (with_reducible exact Below.refl _ _) | (with_reducible assumption) | (with_reducible apply bd) | (with_reducible apply ba) | (with_reducible refine bp ?_ (by first | omega | (simp [pad_size]; done) | (simp [pad_size]; omega)) _ _) | (with_reducible refine bs ?_ (by first | omega | (simp [pad_size]; done) | (simp [pad_size]; omega)) _) | (with_reducible refine bt ?_ (by assumption)))))
  have hY := Fr.out hX ((f2.trans f3).trans f4) (fun n hn => Nat.le_of_eq (show n = w.heap.size from hn).symm)
  exact ⟨rfl, bt (bt (bt hY hb5) hb6) hb7⟩
end Go.Proofs.Ytgphdioolcfmmaa

/- bank: both banks anew. -/
namespace Go.Proofs.Ytgphdioolcfmmaa
open Go.RowKit

/-- An empty state in memory. -/
theorem stt_new (W : World) : Stt (W.alloc (.cells #[.int .u64 0, .slice none 0 0, .slice none 0 0, .slice none 0 0, .slice none 0 0, .slice none 0 0, .slice none 0 0, .slice none 0 0] 37)) W.heap.size W.heap.size (fun k => k = W.heap.size) (.slice none 0 0) (.slice none 0 0) [] (fun _ => zeroP) := by
  have hz : lst zeroP 8 = [] := lst_zero 8
  have ha : ∀ k p, asF (fun _ => zeroP) k p = [] := by
    intro k
    induction k with
    | zero => intro p; rfl
    | succ k ih => intro p; simp only [asF]; rw [ih (p + 1), if_pos hz]; rfl
  refine ⟨al_at rfl, rfl, .inl ⟨hz, _, _, rfl⟩, by simp [Value.ownBlock], World.ownsRow_nil _ _ _ _, by simp [Value.ownBlock], by simp, (ha 205 0).symm, fun k hk => ?_⟩
  have e : k = W.heap.size := hk
  subst e
  exact ⟨Nat.le_refl _, by simp⟩
theorem bp_new {w X Y : World} (hX : Below w.heap.size w X) (h : StD Y X.heap.size X.heap.size (fun k => k = X.heap.size) [] [] 0) (hb : Below X.heap.size X Y) : BP w (Y.alloc (.cells #[.int .u64 0, .slice none 0 0, .slice none 0 0, .slice none 0 0, .slice none 0 0, .slice none 0 0, .slice none 0 0, .slice none 0 0] 37)) X.heap.size Y.heap.size (fun _ => zeroP) 0 := by
  have hlt := (h.foot X.heap.size rfl).2
  refine ⟨_, _, _, _, _, _, _, _, h.below (ba (Below.refl _ _) _), BkL.new, BInv.new, stt_new Y, fun k hk hk2 => ?_, bt hX (bt hb (ba (Below.refl _ _) _)), hX.size, Nat.le_trans hX.size hb.size⟩
  have e1 : k = X.heap.size := hk
  have e2 : k = Y.heap.size := hk2
  omega
end Go.Proofs.Ytgphdioolcfmmaa

/- bank: sent and sent back; a deed alone as argument. -/
namespace Go.Proofs.Ytgphdioolcfmmaa
open Go.ChangeShapes Go.WideShapes Go.ChangeAt Go.RowKit

section
variable {H : Type} {enc : TypeId × Value → H} {w : World} {base : Nat} {spare : Nat → Bool} {held : Bool} {fuel : Nat} {cs : List Value} {x : DataW H × List MemPlace}
theorem okWide_act9 {W : World} {r : Reach} {b : Nat} {v : Value} (h : Value.okWide Try.prog W r b 40 v) : ∃ cs, v = .agg cs := by
  unfold Value.okWide at h
  rw [Try.underlying40] at h
  obtain ⟨cs, e, -⟩ := h
  exact ⟨cs, e⟩
theorem act9_in {W : World} {b : Nat} {r : Reach} {v : Value} (hv : Value.okWide Try.prog W r b 40 v) (h : ∃ fuel, DataW.trod enc Try.prog w base spare held fuel 40 v.cells.toList = some x) :
    ∃ y : Ac, v = .agg #[.int .u8 y.d, .int .u8 y.f, .int .u8 y.t, .slice y.a y.n y.cap, .bool y.o] ∧ AcIn w y := by
  obtain ⟨cs, rfl⟩ := okWide_act9 hv
  obtain ⟨fuel, h⟩ := h
  obtain ⟨y, e, -, hl⟩ := ac_of_cells h
  refine ⟨y, ?_, hl⟩
  cases cs
  simp [Value.cells, acV] at e
  rw [e]
end
theorem cn_ext {z : Nat → Cn} (hz : Purse z) {d : Nat} (hd : d < 8) {n : Int} (h : n = vl (z d)) : cnOf d n = z d := by
  rw [h]; exact (cn_one (hz d hd).1 (hz d hd).2 rfl).symm
/-- To oneself it is nothing. -/
theorem self_back {b : Nat → Nat → Cn} {y : Nat → Cn} {f : Nat} (hb : ∀ p, p ≤ 256 → Purse (b p)) (hf : f ≤ 256) (hy : Has b f y) : ∀ p d, p ≤ 256 → d < 8 → giveB (takeB b f y) f y p d = b p d := by
  intro p d hp hd
  by_cases e : p = f
  · subst e
    unfold giveB takeB
    rw [setB_at, setB_at]
    show cnOf d (vl (opP restI (b p) y d) + vl (y d)) = _
    rw [opP_vl]
    unfold restI
    rw [if_pos (hy d hd)]
    exact cn_ext (hb p hp) hd (by omega)
  · unfold giveB takeB
    rw [setB_off e, setB_off e]
/-- What is sent, and sent back, is as it was. -/
theorem there_back {b : Nat → Nat → Cn} {y : Nat → Cn} {f t : Nat} (hb : ∀ p, p ≤ 256 → Purse (b p)) (hne : f ≠ t) (hf : f ≤ 256) (ht : t ≤ 256) (hy : Has b f y) : Has (giveB (takeB b f y) t y) t y ∧ (∀ p d, p ≤ 256 → d < 8 → giveB (takeB (giveB (takeB b f y) t y) t y) f y p d = b p d) := by
  have e1 : ∀ d, vl (giveB (takeB b f y) t y t d) = vl (b t d) + vl (y d) := fun d => by
    unfold giveB takeB
    rw [setB_at, opP_vl, setB_off (Ne.symm hne)]
  constructor
  · intro d hd
    rw [e1]
    have := vl_lo (hb t ht) hd
    omega
  · intro p d hp hd
    by_cases e : p = f
    · subst e
      have e2 : giveB (takeB (giveB (takeB b p y) t y) t y) p y p d = cnOf d (vl (takeB b p y p d) + vl (y d)) := by
        conv => lhs; unfold giveB; rw [setB_at]
        show cnOf d (vl (takeB (giveB (takeB b p y) t y) t y p d) + vl (y d)) = _
        unfold takeB giveB
        rw [setB_off hne, setB_off hne]
      rw [e2]
      unfold takeB
      rw [setB_at, opP_vl]
      unfold restI
      rw [if_pos (hy d hd)]
      exact cn_ext (hb p hp) hd (by omega)
    · by_cases e2 : p = t
      · subst e2
        have h0 := vl_lo (hb p hp) hd
        have e3 : giveB (takeB (giveB (takeB b f y) p y) p y) f y p d = cnOf d (restI (vl (giveB (takeB b f y) p y p d)) (vl (y d))) := by
          conv => lhs; unfold giveB; rw [setB_off e]
          unfold takeB
          rw [setB_at]
          rfl
        rw [e3, e1]
        unfold restI
        rw [if_pos (by omega)]
        exact cn_ext (hb p hp) hd (by omega)
      · unfold giveB takeB
        rw [setB_off e, setB_off e2, setB_off e2, setB_off e]
end Go.Proofs.Ytgphdioolcfmmaa

/- bank: Send there and back, of both banks side by side. -/
namespace Go.Proofs.Ytgphdioolcfmmaa
open Go.RowKit

theorem AcIn.below {w W : World} {y : Ac} (h : AcIn w y) (hb : Below w.heap.size w W) : AcIn W y :=
  ⟨h.d, h.f, h.t, h.n, fun hn => ⟨(h.l hn).1.below hb, (h.l hn).2⟩⟩
theorem AcsIn.below {w W : World} {a : Option Addr} {len : Nat} {l : List Ac} (h : AcsIn w a len l) (hb : Below w.heap.size w W) : AcsIn W a len l := by
  refine ⟨h.num, fun y hy => (h.ok y hy).below hb, ?_⟩
  rcases h.cell with h0 | ⟨blk, off, e, hlt, hc⟩
  · exact .inl h0
  · exact .inr ⟨blk, off, e, Nat.lt_of_lt_of_le hlt hb.size, fun i y hi j v hj => (hb.cell (p := ⟨blk, off + i * 5 + j, none⟩) hlt).trans (hc i y hi j v hj)⟩
theorem back_no {X : World} {s n : Nat} {A : Nat → Prop} {L : List (List Int × List Int)} {base : Nat} {b : Nat → Nat → Cn} (hD : StD X s base A L [] n) (hB : BkL L b) (hn : n ≤ 800) {f t : Nat} (hf : f ≤ 255) (ht : t ≤ 255) {v : Value} {l : List Cn} (hv : IsCoins X v l) (hwf : ∀ x ∈ l, CnWf x) (hno : ¬ ((f < 205 ∧ rightFrom 0 l = true ∧ t < 205) ∧ Has b f (fun d => amt l d))) :
    ∃ c : Int, (c = 1 ∨ c = 3) ∧ Calls Try.prog 24 #[.pointer (some ⟨s, 0, none⟩), .int .u8 f, .int .u8 t, v] X fun e w' => e = .returned (.int .i64 c) ∧ Below X.heap.size X w' := by
  by_cases hb : f < 205 ∧ rightFrom 0 l = true ∧ t < 205
  · exact ⟨3, .inr rfl, send_no hD hB hn hb.1 hb.2.2 hv hwf hb.2.1 (fun hc => hno ⟨hb, hc⟩)⟩
  · exact ⟨1, .inl rfl, send_bad hf ht hv hwf hb⟩
theorem back_ok {w X0 X : World} {s m n : Nat} {b : Nat → Nat → Cn} (h0 : BP w X0 s m b n) (hX0 : Below X0.heap.size X0 X) (hn : n ≤ 700) {f t : Nat} {v : Value} {l : List Cn} (hv : IsCoins X v l) (hwf : ∀ x ∈ l, CnWf x) (hv0 : Arg w X0 v l) (hf : f < 205) (hr : rightFrom 0 l = true) (ht : t < 205) (hy : Has b f (fun d => amt l d)) :
    ∃ P : World → Prop, Calls Try.prog 24 #[.pointer (some ⟨s, 0, none⟩), .int .u8 f, .int .u8 t, v] X (fun e w' => e = .returned (.int .i64 0) ∧ P w') ∧ (f = t → ∀ Y, P Y → BP w Y s m b (n + 32)) ∧ (f ≠ t → ∀ Y, P Y → Calls Try.prog 24 #[.pointer (some ⟨s, 0, none⟩), .int .u8 t, .int .u8 f, v] Y fun e w' => e = .returned (.int .i64 0) ∧ BP w w' s m b (n + 32)) := by
  obtain ⟨A, L, base, B, base', vs, vb, M, hD0, hB, hI, hS0, hdis, hw0, hlo, hlo'⟩ := h0
  have hD := hD0.below hX0
  have hS := hS0.below hX0
  have hw := bt hw0 hX0
  have hoA : Out A v l := hv0.imp id (fun f g hg hA => by have h1 := hD0.foot g hA; rcases f g hg with h2 | h2 <;> omega)
  refine ⟨fun Y => ∃ A' L', StD Y s base A' L' [] (n + 16) ∧ BkL L' (giveB (takeB b f (fun d => amt l d)) t (fun d => amt l d)) ∧ Fr X Y A A', (send_ok hD hB hI (by omega) hf ht hv hoA hwf hr hy).mono (fun e w' q => ⟨q.1, q.2⟩), ?_, ?_⟩
  · rintro rfl Y ⟨A', L', q1, q2, f1⟩
    exact bp_step (n := n) hS hdis hw hlo hlo' (fun k hk => hD.foot k hk) (q1.up (by omega)) (q2.congr (self_back hI.pur (by omega) hy)) f1 hI (stt_over (s := s) (base := base) (n := n) hS hdis f1) (Fr.below (Below.refl _ _))
  · rintro hne Y ⟨A', L', q1, q2, f1⟩
    obtain ⟨hb1, hb2⟩ := there_back hI.pur hne (by omega) (by omega) hy
    refine (send_ok q1 q2 (hI.send (purse_amt hwf) hf ht hy) (by omega) ht hf (hv.fr f1 hoA) (hv.out f1 hoA) hwf hr hb1).mono ?_
    rintro e w' ⟨rfl, A2, L2, r1, r2, f2⟩
    have f12 := f1.trans f2
    exact ⟨rfl, bp_step (n := n) hS hdis hw hlo hlo' (fun k hk => hD.foot k hk) (r1.up (by omega)) (r2.congr hb2) f12 hI (stt_over (s := s) (base := base) (n := n) hS hdis f12) (Fr.below (Below.refl _ _))⟩
end Go.Proofs.Ytgphdioolcfmmaa

/- bank: of no store. -/
namespace Go.Proofs.Ytgphdioolcfmmaa
open Go.RowKit

set_option maxHeartbeats 1000000 in
theorem kept_nil {t : ByteArray} {p : Nat} (ht : StrIs t (plc p)) (W : World) :
    Calls Try.prog 35 #[.pointer none, .string t] W fun e w' => e = .returned (.slice none 0 0) ∧ Below W.heap.size W w' := by
  obtain ⟨cap, cur, hcv, hc1, hc2, hc3⟩ := cv_str ht (byte_plc p) W
  replace hc3 : Hid _ := hc3
  go_enter Try.func35, Try.ntmps35
  go_wp2_with (go_at_call 51; refine (keys_nil (W := (W.alloc (.cells cur 5 (cap, cap + 1))).drew) (src_cur (cap := cap) (fz := (cap, cap + 1)) ((dr_blk _ _).trans (al_at rfl)) hc3.out) (byte_plc p)).mono ?_; rintro e w1 ⟨rfl, hb1⟩)
  apply wp_loop_rounds 1
  simp only [Code.rounds]
  go_wp2
  go_ret
  exact ⟨rfl, bt (by (repeat (first | (with_reducible exact Below.refl _ _) | (with_reducible assumption) | (with_reducible apply bd) | (with_reducible apply ba) | (with_reducible refine bp ?_ (by first | omega | (simp [pad_size]; done) | (simp [pad_size]; omega)) _ _) | (with_reducible refine bs ?_ (by first | omega | (simp [pad_size]; done) | (simp [pad_size]; omega)) _) | (with_reducible refine bt ?_ (by assumption))))) hb1⟩
set_option maxHeartbeats 1000000 in
theorem coinsB_nil (a : Nat) (ha : a ≤ 255) (W : World) :
    Calls Try.prog 21 #[.pointer none, .int .u8 a] W fun e w' => e = .returned (.slice none 0 0) ∧ Below W.heap.size W w' := by
  go_enter Try.func21, Try.ntmps21
  go_wp2_with (first
    | (go_at_call 38; refine (of_any a ha _).mono ?_; rintro e w1 ⟨t, rfl, ht, hb1⟩)
    | (go_at_call 35; refine (kept_nil ht _).mono ?_; rintro e w2 ⟨rfl, hb2⟩))
  go_ret
  exact ⟨rfl, bt hb1 hb2⟩
set_option maxHeartbeats 1000000 in
theorem supply_nil (W : World) : Calls Try.prog 17 #[.pointer none] W fun e w' => e = .returned (.slice none 0 0) ∧ Below W.heap.size W w' := by
  go_enter Try.func17, Try.ntmps17
  go_wp2_with (go_at_call 35; refine (kept_nil strIs_all _).mono ?_; rintro e w2 ⟨rfl, hb2⟩)
  go_ret
  exact ⟨rfl, hb2⟩
set_option maxHeartbeats 1000000 in
theorem amt_nil {u : Value} {p d : Nat} (hd : d ≤ 255) {W : World} (hu : Src W u (ky p d)) :
    Calls Try.prog 36 #[.pointer none, u] W fun e w' => e = .returned (.agg #[.int .u64 0, .int .u64 0, .int .u64 0, .int .u64 0]) ∧ Below W.heap.size W w' := by
  have hpad := pads
  obtain ⟨su, cu, rfl, -⟩ := hu.parts
  have hR : ∀ X : World, Calls Try.prog 54 #[.slice none 0 0] X fun e w' => e = .returned (.tuple #[.agg #[.int .u64 0, .int .u64 0, .int .u64 0, .int .u64 0], .int .i64 0]) ∧ Below X.heap.size X w' := fun X => read_good good_nil (by simp) lim_zero (val0.trans rd_nil.symm) X (.inl ⟨rfl, _, _, rfl⟩)
  go_enter Try.func36, Try.ntmps36
  go_wp2_with (first
    | (go_at_call 53; refine (get_nil (hu.kept (grown_none (by (repeat (first | (with_reducible exact Below.refl _ _) | (with_reducible assumption) | (with_reducible apply bd) | (with_reducible apply ba) | (with_reducible refine bp ?_ (by first | omega | (simp [pad_size]; done) | (simp [pad_size]; omega)) _ _) | (with_reducible refine bs ?_ (by first | omega | (simp [pad_size]; done) | (simp [pad_size]; omega)) _) | (with_reducible refine bt ?_ (by assumption))))))) (byte_ky p hd)).mono ?_; rintro e w1 ⟨rfl, hb1⟩)
    | (go_at_call 54; refine (hR _).mono ?_; rintro e w2 ⟨rfl, hb2⟩; obtain ⟨m2, g2, d2, hm2, rfl⟩ := pad_of (bt hb1 hb2); clear hb1 hb2; (try simp at hm2); have st := sz1 (n := W.heap.size) (m := m2) hm2))
  refine bodyPost_ret (v := .agg #[.int .u64 0, .int .u64 0, .int .u64 0, .int .u64 0]) (by simp only [results, Try.results36]; go_simp) rfl ⟨rfl, ?_⟩
  (repeat (first | (with_reducible exact Below.refl _ _) | (with_reducible assumption) | (with_reducible apply bd) | (with_reducible apply ba) | (with_reducible refine bp ?_ (by first | omega | (simp [pad_size]; done) | (simp [pad_size]; omega)) _ _) | (with_reducible refine bs ?_ (by first | omega | (simp [pad_size]; done) | (simp [pad_size]; omega)) _) | (with_reducible refine bt ?_ (by assumption))))
set_option maxHeartbeats 1000000 in
theorem balance_nil {a d : Nat} (ha : a ≤ 255) (hd : d ≤ 255) (W : World) :
    Calls Try.prog 18 #[.pointer none, .int .u8 a, .int .u8 d] W fun e w' => e = .returned (.agg #[.int .u64 0, .int .u64 0, .int .u64 0, .int .u64 0]) ∧ Below W.heap.size W w' := by
  have hpad := pads
  have hpl : (plc a).length < 1000 := by have := plc_len a; omega
  go_enter Try.func18, Try.ntmps18
  go_wp2_with (first
    | (go_at_call 38; refine (of_any a ha _).mono ?_; rintro e w1 ⟨t, rfl, ht, hb1⟩)
    | (go_at_call 37; refine (key_any ht (byte_plc a) hpl d _).mono ?_; rintro e w2 ⟨g, cap, rfl, hs2, -, -, hb2⟩; have hB2 := bt hb1 hb2)
    | (go_at_call 36; refine (amt_nil (p := a) hd hs2).mono ?_; rintro e w3 ⟨rfl, hb3⟩; clear hs2; obtain ⟨m2, g2, d2, hm2, rfl⟩ := pad_of (bt hB2 hb3); clear hb3 hB2 hb1 hb2; (try simp at hm2); have st := sz1 (n := W.heap.size) (m := m2) hm2))
  refine bodyPost_ret (v := .agg #[.int .u64 0, .int .u64 0, .int .u64 0, .int .u64 0]) (by simp only [results, Try.results18]; go_simp) rfl ⟨rfl, ?_⟩
  (repeat (first | (with_reducible exact Below.refl _ _) | (with_reducible assumption) | (with_reducible apply bd) | (with_reducible apply ba) | (with_reducible refine bp ?_ (by first | omega | (simp [pad_size]; done) | (simp [pad_size]; omega)) _ _) | (with_reducible refine bs ?_ (by first | omega | (simp [pad_size]; done) | (simp [pad_size]; omega)) _) | (with_reducible refine bt ?_ (by assumption))))
set_option maxHeartbeats 1000000 in
theorem may_nil (a : Int) (v : Value) (W : World) : Calls Try.prog 39 #[.pointer none, .int .u8 a, v] W fun e w' => e = .returned (.bool false) ∧ w' = W := by
  go_enter Try.func39, Try.ntmps39
  go_wp2
  go_ret
  exact ⟨rfl, rfl⟩
set_option maxHeartbeats 1000000 in
theorem send_nil (a c : Int) (v : Value) (W : World) : Calls Try.prog 24 #[.pointer none, .int .u8 a, .int .u8 c, v] W fun e w' => e = .returned (.int .i64 1) ∧ w' = W := by
  go_enter Try.func24, Try.ntmps24
  go_wp2_with (go_at_call 39; refine (may_nil _ _ _).mono ?_; rintro e w1 ⟨rfl, hw⟩; obtain rfl := hw.symm)
  go_ret
  exact ⟨rfl, rfl⟩
set_option maxHeartbeats 1000000 in
theorem mint_nil (a : Int) (v : Value) (W : World) : Calls Try.prog 27 #[.pointer none, .int .u8 a, v] W fun e w' => e = .returned (.int .i64 1) ∧ w' = W := by
  go_enter Try.func27, Try.ntmps27
  go_wp2_with (go_at_call 39; refine (may_nil _ _ _).mono ?_; rintro e w1 ⟨rfl, hw⟩; obtain rfl := hw.symm)
  go_ret
  exact ⟨rfl, rfl⟩
set_option maxHeartbeats 1000000 in
theorem burn_nil (a : Int) (v : Value) (W : World) : Calls Try.prog 28 #[.pointer none, .int .u8 a, v] W fun e w' => e = .returned (.int .i64 1) ∧ w' = W := by
  go_enter Try.func28, Try.ntmps28
  go_wp2_with (go_at_call 39; refine (may_nil _ _ _).mono ?_; rintro e w1 ⟨rfl, hw⟩; obtain rfl := hw.symm)
  go_ret
  exact ⟨rfl, rfl⟩
set_option maxHeartbeats 2000000 in
theorem all_nil9 (W : World) : Calls Try.prog 14 #[.pointer none] W fun e w' => e = .returned (.slice none 0 0) ∧ Below W.heap.size W w' := by
  go_enter Try.func14, Try.ntmps14
  go_wp2
  go_loopw [3, 6] (fun v i X => ∃ k : Nat, k ≤ 205 ∧ v = .slice none 0 0 ∧ i = .int .u8 (k : Int) ∧ Below W.heap.size W X) (fun _ i _ => 205 - (intOf i).toNat)
  case atStart => exact ⟨0, by omega, rfl, rfl, Below.refl _ _⟩
  case round =>
    obtain ⟨k, hk, rfl, rfl, hX⟩ := hrel
    by_cases hlt : k < 205
    · have hlt' : (k : Int) < 205 := by omega
      go_wp2_with (go_at_call 21; refine (coinsB_nil k (by omega) _).mono ?_; rintro e w1 ⟨rfl, hb1⟩)
      all_goals go_roundw
      case rel => exact ⟨k + 1, by omega, rfl, by go_num, bt hX hb1⟩
      case measure => (simp [intOf] <;> omega)
    · have hk' : k = 205 := by omega
      subst hk'
      go_wp2
      go_ret
      exact ⟨rfl, hX⟩
end Go.Proofs.Ytgphdioolcfmmaa
