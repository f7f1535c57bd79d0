
/- bank: what is kept at a place becomes another purse. -/
import Derived.Test.YtgphdioolcfmmaaBK3
set_option linter.unusedSimpArgs false
set_option linter.unusedVariables false
set_option maxRecDepth 20000
namespace Go.Proofs.Ytgphdioolcfmmaa
open Go.RowKit

/-- A list of coins outside of what is a store's (or none). -/
def Out (A : Nat → Prop) (v : Value) (l : List Cn) : Prop := l = [] ∨ ∀ g, v.ownBlock = some g → ¬ A g
theorem IsCoins.fr {W W' : World} {A A' : Nat → Prop} {v : Value} {l : List Cn} (h : IsCoins W v l) (hf : Fr W W' A A') (ho : Out A v l) : IsCoins W' v l := by
  rcases h with h | ⟨blk, off, cap, hv, hne, hlen, hlt, hall⟩
  · exact .inl h
  · have hb := hf.block blk hlt (ho.resolve_left hne blk (by rw [hv]; rfl))
    refine .inr ⟨blk, off, cap, hv, hne, hlen, Nat.lt_of_lt_of_le hlt hf.size, fun i x hi => ?_⟩
    obtain ⟨h0, h1, h2, h3, h4⟩ := hall i x hi
    exact ⟨(World.cell?_of_block (a := ⟨blk, _, none⟩) hb).trans h0, (World.cell?_of_block (a := ⟨blk, _, none⟩) hb).trans h1, (World.cell?_of_block (a := ⟨blk, _, none⟩) hb).trans h2, (World.cell?_of_block (a := ⟨blk, _, none⟩) hb).trans h3, (World.cell?_of_block (a := ⟨blk, _, none⟩) hb).trans h4⟩
theorem IsCoins.out {W W' : World} {A A' : Nat → Prop} {v : Value} {l : List Cn} (h : IsCoins W v l) (hf : Fr W W' A A') (ho : Out A v l) : Out A' v l := by
  rcases h with ⟨h, -⟩ | ⟨blk, off, cap, hv, hne, hlen, hlt, hall⟩
  · exact .inl h
  · refine .inr fun g hg hA => ?_
    rcases hf.sub g hA with h1 | h1
    · exact ho.resolve_left hne g hg h1
    · rw [hv] at hg; injection hg with hg; simp only at hg; omega
theorem out_row {W X : World} {A : Nat → Prop} {e : TypeId} {k m : Nat} {v : Value} {xs : List Value} {l : List Cn} (h : X.ownsRow W.heap.size e k v m xs) (hA : ∀ g, A g → g < W.heap.size) : Out A v l := .inr fun g hg hA' => by
  have := (h.lt g hg).1
  have := hA g hA'
  omega

set_option maxHeartbeats 2000000 in
theorem addC_row {va vb : Value} {z y : Nat → Cn} (hz : Purse z) (hy : Purse y) (h : ∀ d, d < 8 → vl (z d) + vl (y d) < 115792089237316195423570985008687907853269984665640564039457584007913129639936) (w : World) (hA : IsCoins w va (lst z 8)) (hB : IsCoins w vb (lst y 8)) :
    Calls Try.prog 42 #[va, vb] w fun e w' => ∃ u, e = .returned (.tuple #[u, .int .i64 0]) ∧ w'.ownsRow w.heap.size 65 5 u (lst (opP (· + ·) z y) 8).length (cellsL (lst (opP (· + ·) z y) 8)) ∧ Below w.heap.size w w' := by
  have hof : ∀ (x0 x1 x2 x3 y0 y1 y2 y3 : Int) (W : World), Lim x0 x1 x2 x3 → Lim y0 y1 y2 y3 →
      Below (w.alloc (.cells #[.func (.func 60) #[] #[]] 106)).heap.size (w.alloc (.cells #[.func (.func 60) #[] #[]] 106)) W →
      Calls Try.prog 60 (#[.agg #[.int .u64 x0, .int .u64 x1, .int .u64 x2, .int .u64 x3], .agg #[.int .u64 y0, .int .u64 y1, .int .u64 y2, .int .u64 y3]] ++ #[]) W fun e w' =>
        ∃ z0 z1 z2 z3 c : Int, e = .returned (.tuple #[.agg #[.int .u64 z0, .int .u64 z1, .int .u64 z2, .int .u64 z3], .int .i64 c]) ∧ Lim z0 z1 z2 z3 ∧ AddS (val x0 x1 x2 x3) (val y0 y1 y2 y3) (val z0 z1 z2 z3) c ∧ Below W.heap.size W w' :=
    fun x0 x1 x2 x3 y0 y1 y2 y3 W hx hy _ => add_any x0 x1 x2 x3 y0 y1 y2 y3 hx hy W
  go_enter Try.func42, Try.ntmps42
  go_wp2_with (first
    | (go_at_call 58; refine (ofEachM_any _ _ rfl).mono ?_; rintro e w1 ⟨rfl, rfl⟩)
    | (go_at_call 71; refine (ofEach_any 60 #[] AddS w.heap.size _ (hA.below (by (repeat (first | (with_reducible exact Below.refl _ _) | (with_reducible assumption) | (with_reducible apply bd) | (with_reducible apply ba) | (with_reducible refine bp ?_ (by first | omega | (simp [pad_size]; done) | (simp [pad_size]; omega)) _ _) | (with_reducible refine bs ?_ (by first | omega | (simp [pad_size]; done) | (simp [pad_size]; omega)) _) | (with_reducible refine bt ?_ (by assumption)))))) (hB.below (by (repeat (first | (with_reducible exact Below.refl _ _) | (with_reducible assumption) | (with_reducible apply bd) | (with_reducible apply ba) | (with_reducible refine bp ?_ (by first | omega | (simp [pad_size]; done) | (simp [pad_size]; omega)) _ _) | (with_reducible refine bs ?_ (by first | omega | (simp [pad_size]; done) | (simp [pad_size]; omega)) _) | (with_reducible refine bt ?_ (by assumption)))))) (amt_lim hz) (amt_lim hy) (by (repeat (first | (with_reducible exact al_at (by simp [pad_size])) | (with_reducible refine Eq.trans (dr_blk _ _) ?_) | (with_reducible refine Eq.trans (al_old (by first | omega | (simp [pad_size]; done) | (simp [pad_size]; omega))) ?_) | (with_reducible refine Eq.trans (pad_block (by first | omega | (simp [pad_size]; done) | (simp [pad_size]; omega)) (by first | omega | (simp [pad_size]; done) | (simp [pad_size]; omega))) ?_) | (with_reducible assumption)))) (enters_of Try.func60 (by kernel_rfl) rfl) hof).mono ?_; clear hof; rintro e w1 (⟨s, v, rfl, hs, hown, hb⟩ | ⟨kk, c, z0, hk, hc, hS, rfl, hb⟩)))
  · go_ret2
    refine ⟨v, rfl, ?_, bt (by (repeat (first | (with_reducible exact Below.refl _ _) | (with_reducible assumption) | (with_reducible apply bd) | (with_reducible apply ba) | (with_reducible refine bp ?_ (by first | omega | (simp [pad_size]; done) | (simp [pad_size]; omega)) _ _) | (with_reducible refine bs ?_ (by first | omega | (simp [pad_size]; done) | (simp [pad_size]; omega)) _) | (with_reducible refine bt ?_ (by assumption))))) hb⟩
    have e : lst s 8 = lst (opP (· + ·) z y) 8 := lst_op (s := s) (fun d hd => ⟨(hs d hd).1, (hs d hd).2.1, by
      have h1 := h d hd
      have h2 := (hs d hd).2.2
      rw [amt_full hz hd, amt_full hy hd] at h2
      rcases h2 with ⟨-, -, e⟩ | ⟨-, e, -⟩
      · exact e
      · omega⟩)
    rw [e] at hown
    exact row_base hown (by simp)
  · go_ret2
    exfalso
    have h1 := h kk hk
    rw [amt_full hz hk, amt_full hy hk] at hS
    rcases hS with ⟨-, e, -⟩ | ⟨e, -⟩ <;> omega
set_option maxHeartbeats 2000000 in
theorem subC_row {va vb : Value} {z y : Nat → Cn} (hz : Purse z) (hy : Purse y) (h : ∀ d, d < 8 → vl (y d) ≤ vl (z d)) (w : World) (hA : IsCoins w va (lst z 8)) (hB : IsCoins w vb (lst y 8)) :
    Calls Try.prog 41 #[va, vb] w fun e w' => ∃ u, e = .returned (.tuple #[u, .int .i64 0]) ∧ w'.ownsRow w.heap.size 65 5 u (lst (opP restI z y) 8).length (cellsL (lst (opP restI z y) 8)) ∧ Below w.heap.size w w' := by
  have hof : ∀ (x0 x1 x2 x3 y0 y1 y2 y3 : Int) (W : World), Lim x0 x1 x2 x3 → Lim y0 y1 y2 y3 →
      Below (w.alloc (.cells #[.func (.func 59) #[] #[]] 106)).heap.size (w.alloc (.cells #[.func (.func 59) #[] #[]] 106)) W →
      Calls Try.prog 59 (#[.agg #[.int .u64 x0, .int .u64 x1, .int .u64 x2, .int .u64 x3], .agg #[.int .u64 y0, .int .u64 y1, .int .u64 y2, .int .u64 y3]] ++ #[]) W fun e w' =>
        ∃ z0 z1 z2 z3 c : Int, e = .returned (.tuple #[.agg #[.int .u64 z0, .int .u64 z1, .int .u64 z2, .int .u64 z3], .int .i64 c]) ∧ Lim z0 z1 z2 z3 ∧ SubS (val x0 x1 x2 x3) (val y0 y1 y2 y3) (val z0 z1 z2 z3) c ∧ Below W.heap.size W w' :=
    fun x0 x1 x2 x3 y0 y1 y2 y3 W hx hy _ => sub_any x0 x1 x2 x3 y0 y1 y2 y3 hx hy W
  go_enter Try.func41, Try.ntmps41
  go_wp2_with (first
    | (go_at_call 58; refine (ofEachM_any _ _ rfl).mono ?_; rintro e w1 ⟨rfl, rfl⟩)
    | (go_at_call 71; refine (ofEach_any 59 #[] SubS w.heap.size _ (hA.below (by (repeat (first | (with_reducible exact Below.refl _ _) | (with_reducible assumption) | (with_reducible apply bd) | (with_reducible apply ba) | (with_reducible refine bp ?_ (by first | omega | (simp [pad_size]; done) | (simp [pad_size]; omega)) _ _) | (with_reducible refine bs ?_ (by first | omega | (simp [pad_size]; done) | (simp [pad_size]; omega)) _) | (with_reducible refine bt ?_ (by assumption)))))) (hB.below (by (repeat (first | (with_reducible exact Below.refl _ _) | (with_reducible assumption) | (with_reducible apply bd) | (with_reducible apply ba) | (with_reducible refine bp ?_ (by first | omega | (simp [pad_size]; done) | (simp [pad_size]; omega)) _ _) | (with_reducible refine bs ?_ (by first | omega | (simp [pad_size]; done) | (simp [pad_size]; omega)) _) | (with_reducible refine bt ?_ (by assumption)))))) (amt_lim hz) (amt_lim hy) (by (repeat (first | (with_reducible exact al_at (by simp [pad_size])) | (with_reducible refine Eq.trans (dr_blk _ _) ?_) | (with_reducible refine Eq.trans (al_old (by first | omega | (simp [pad_size]; done) | (simp [pad_size]; omega))) ?_) | (with_reducible refine Eq.trans (pad_block (by first | omega | (simp [pad_size]; done) | (simp [pad_size]; omega)) (by first | omega | (simp [pad_size]; done) | (simp [pad_size]; omega))) ?_) | (with_reducible assumption)))) (enters_of Try.func59 (by kernel_rfl) rfl) hof).mono ?_; clear hof; rintro e w1 (⟨s, v, rfl, hs, hown, hb⟩ | ⟨kk, c, z0, hk, hc, hS, rfl, hb⟩)))
  · go_ret2
    refine ⟨v, rfl, ?_, bt (by (repeat (first | (with_reducible exact Below.refl _ _) | (with_reducible assumption) | (with_reducible apply bd) | (with_reducible apply ba) | (with_reducible refine bp ?_ (by first | omega | (simp [pad_size]; done) | (simp [pad_size]; omega)) _ _) | (with_reducible refine bs ?_ (by first | omega | (simp [pad_size]; done) | (simp [pad_size]; omega)) _) | (with_reducible refine bt ?_ (by assumption))))) hb⟩
    have e : lst s 8 = lst (opP restI z y) 8 := lst_op (s := s) (fun d hd => ⟨(hs d hd).1, (hs d hd).2.1, by
      have h1 := h d hd
      have h2 := (hs d hd).2.2
      rw [amt_full hz hd, amt_full hy hd] at h2
      rcases h2 with ⟨-, -, e⟩ | ⟨-, e, -⟩
      · rw [e]; unfold restI; rw [if_pos h1]
      · omega⟩)
    rw [e] at hown
    exact row_base hown (by simp)
  · go_ret2
    exfalso
    have h1 := h kk hk
    rw [amt_full hz hk, amt_full hy hk] at hS
    rcases hS with ⟨-, e, -⟩ | ⟨e, -⟩ <;> omega

def setB (b : Nat → Nat → Cn) (p : Nat) (z : Nat → Cn) : Nat → Nat → Cn := fun q => if q = p then z else b q
/-- Of a place some numbers are changed. -/
def mixB (b : Nat → Nat → Cn) (p : Nat) (z : Nat → Cn) (T : List Nat) : Nat → Nat → Cn := fun q e => if q = p ∧ e ∈ T then z e else b q e
theorem mixB_nil (b : Nat → Nat → Cn) (p : Nat) (z : Nat → Cn) : mixB b p z [] = b := by funext q e; simp [mixB]
theorem mixB_snoc (b : Nat → Nat → Cn) (p : Nat) (z : Nat → Cn) (T : List Nat) (d : Nat) : mixB b p z (T ++ [d]) = upB (mixB b p z T) p d (z d) := by
  funext q e
  unfold mixB upB
  by_cases h : q = p ∧ e = d
  · obtain ⟨rfl, rfl⟩ := h; simp
  · by_cases h1 : q = p
    · have h2 : ¬ e = d := fun h2 => h ⟨h1, h2⟩
      simp [h1, h2]
    · simp [h1]
theorem mixB_all {b : Nat → Nat → Cn} {p : Nat} {z y : Nat → Cn} (h : ∀ d, d < 8 → vl (y d) = 0 → z d = b p d) : ∀ q d, q ≤ 256 → d < 8 → mixB b p z (dsL y 8) q d = setB b p z q d := by
  intro q d hq hd
  unfold mixB setB
  by_cases h1 : q = p
  · subst h1
    by_cases h2 : d ∈ dsL y 8
    · simp [h2]
    · simp [h2]
      rw [h d hd (Classical.byContradiction fun e => h2 (dsL_mem.2 ⟨hd, e⟩))]
  · simp [h1]
theorem cn_at {W : World} {v : Value} {l : List Cn} (h : IsCoins W v l) {j : Nat} (hj : j < l.length) : ∃ blk off cap, v = .slice (some ⟨blk, off, none⟩) l.length cap ∧ blk < W.heap.size ∧ CnAt W blk (off + j * 5) l[j] := by
  rcases h with ⟨rfl, -⟩ | ⟨blk, off, cap, hv, hne, hlen, hlt, hall⟩
  · simp at hj
  · exact ⟨blk, off, cap, hv, hlt, hall j _ (List.getElem?_eq_getElem hj)⟩
theorem cn_slice {W : World} {v : Value} {l : List Cn} (h : IsCoins W v l) : ∃ a cap, v = .slice a l.length cap := by
  rcases h with ⟨rfl, a, cap, rfl⟩ | ⟨blk, off, cap, hv, -⟩
  · exact ⟨a, cap, rfl⟩
  · exact ⟨_, _, hv⟩
section
variable {W : World} {s base : Nat} {A : Nat → Prop} {L : List (List Int × List Int)} {ds : List (List (List Int × List Int))} {n : Nat} {b : Nat → Nat → Cn}
set_option maxHeartbeats 8000000 in
theorem change_ok {k : Nat} (hk : k = 42 ∨ k = 41) {t : ByteArray} {p : Nat} {y z : Nat → Cn} {v : Value} (h : StD W s base A L ds n) (hB : BkL L b) (hn : n ≤ 900) (hp : p ≤ 256) (ht : StrIs t (plc p)) (hy : Purse y) (hz : Purse z) (hzy : ∀ d, d < 8 → vl (y d) = 0 → z d = b p d) (hv : IsCoins W v (lst y 8)) (hvo : Out A v (lst y 8))
    (hcall : ∀ X va vb, IsCoins X va (lst (b p) 8) → IsCoins X vb (lst y 8) → Calls Try.prog k #[va, vb] X fun e w' => ∃ u, e = .returned (.tuple #[u, .int .i64 0]) ∧ w'.ownsRow X.heap.size 65 5 u (lst z 8).length (cellsL (lst z 8)) ∧ Below X.heap.size X w') :
    Calls Try.prog 40 #[.pointer (some ⟨s, 0, none⟩), .string t, .func (.func k) #[] #[], v] W fun e w' => e = .returned (.int .i64 0) ∧ ∃ A' L', StD w' s base A' L' ds (n + 8) ∧ BkL L' (setB b p z) ∧ Fr W w' A A' := by
  have hpad := pads
  have hK := kept_any h hB (by omega) hp ht
  have hcall : Hid _ := hcall
  have hL := lst_dsL hy 8 (Nat.le_refl _)
  have hdl : (dsL y 8).length ≤ 8 := by
    have : ((dsL y 8).map y).length ≤ 8 := by rw [← hL]; exact lst_len _ _
    simpa using this
  have hfin : Hid _ := mixB_all hzy
  have hdm : ∀ d ∈ dsL y 8, d < 8 := fun d hd => (dsL_mem.1 hd).1
  rw [hL] at hv hvo
  have hvl : ∀ X, IsCoins X v ((dsL y 8).map y) → IsCoins X v (lst y 8) := fun X hX => by rw [hL]; exact hX
  have hcall2 : Hid (∀ X va, IsCoins X va (lst (b p) 8) → IsCoins X v ((dsL y 8).map y) → Calls Try.prog k #[va, v] X fun e w' => ∃ u, e = .returned (.tuple #[u, .int .i64 0]) ∧ w'.ownsRow X.heap.size 65 5 u (lst z 8).length (cellsL (lst z 8)) ∧ Below X.heap.size X w') := fun X va h1 h2 => hcall.out X va v h1 (hvl X h2)
  clear hcall hvl hL
  generalize dsL y 8 = D at *
  obtain ⟨av, cv, rfl⟩ := cn_slice hv
  simp only [List.length_map] at hv hcall2 hvo
  rcases hk with rfl | rfl
  · go_enter Try.func40, Try.ntmps40
    go_wp2_with (first
      | (go_at_call 35; refine hK.mono ?_; clear hK; rintro e w1 ⟨v0, rfl, hv0, hb1⟩)
      | (go_at_call 42; refine (hcall2.out _ _ hv0 (hv.below hb1)).mono ?_; clear hcall2; rintro e w2 ⟨u, rfl, hu, hb2⟩; have hB2 : Below W.heap.size W w2 := bt hb1 hb2; have hI : IsCoins w2 u (lst z 8) := own_coins hu (lst8 z); have huo : Out A u (lst z 8) := out_row hu (fun g hg => Nat.lt_of_lt_of_le (h.foot g hg).2 hb1.size); replace h := h.below hB2; replace hv := hv.below hB2; clear hv0 hu hb1 hb2))
    go_loopw [27] (fun i X => ∃ (j : Nat) (A1 : Nat → Prop) (L1 : List (List Int × List Int)), j ≤ D.length ∧ i = .int .i64 (j : Int) ∧ StD X s base A1 L1 ds (n + j) ∧ BkL L1 (mixB b p z (D.take j)) ∧ Fr w2 X A A1) (fun i _ => D.length - (intOf i).toNat)
    case atStart => exact ⟨0, A, L, by omega, rfl, h, by rw [List.take_zero, mixB_nil]; exact hB, Fr.below (Below.refl _ _)⟩
    case round =>
      obtain ⟨j, A1, L1, hj, rfl, h1, hB1, f1⟩ := hrel
      by_cases hlt : j < D.length
      · have hvr := hv.fr f1 hvo
        have hIr := hI.fr f1 huo
        obtain ⟨blk, off, cap, ev, hbl, c0, c1, c2, c3, c4⟩ := cn_at hvr (j := j) (by simpa using hlt)
        simp only [List.getElem_map, List.length_map] at ev c0 c1 c2 c3 c4
        simp at ev
        obtain ⟨rfl, rfl⟩ := ev
        have hd8 := hdm _ (List.getElem_mem hlt)
        have hyd := (hy _ hd8).2
        have hzd := hz _ hd8
        have htk : Hid (mixB b p z (D.take (j + 1)) = upB (mixB b p z (D.take j)) p D[j] (z D[j])) := by
          show _ = _
          rw [List.take_succ_eq_append_getElem hlt, mixB_snoc]
        have hA : Hid (∀ X, Below wr.heap.size wr X → Calls Try.prog 57 #[u, .int .u8 (D[j] : Nat)] X fun e w' => e = .returned (.agg #[.int .u64 (z D[j]).a, .int .u64 (z D[j]).b, .int .u64 (z D[j]).c, .int .u64 (z D[j]).e]) ∧ Below X.heap.size X w') := fun X hX => by
          have := amount_any (D[j] : Nat) X (hIr.below hX)
          rwa [amt_full hz hd8] at this
        have hKp : Hid (∀ X, Below (wr.alloc (.cells #[.int .u8 (D[j] : Nat), .int .u64 (y D[j]).a, .int .u64 (y D[j]).b, .int .u64 (y D[j]).c, .int .u64 (y D[j]).e] 65)).heap.size (wr.alloc (.cells #[.int .u8 (D[j] : Nat), .int .u64 (y D[j]).a, .int .u64 (y D[j]).b, .int .u64 (y D[j]).c, .int .u64 (y D[j]).e] 65)) X → X.cell? ⟨wr.heap.size, 0, none⟩ = some (.int .u8 (D[j] : Nat))) := fun X hX => (World.cell?_of_block (a := ⟨wr.heap.size, 0, none⟩) (hX.block wr.heap.size (by simp))).trans ((cells_of_block (al_at rfl)).1 0)
        have hP : Hid (∀ X g c, Below (wr.alloc (.cells #[.int .u8 (D[j] : Nat), .int .u64 (y D[j]).a, .int .u64 (y D[j]).b, .int .u64 (y D[j]).c, .int .u64 (y D[j]).e] 65)).heap.size (wr.alloc (.cells #[.int .u8 (D[j] : Nat), .int .u64 (y D[j]).a, .int .u64 (y D[j]).b, .int .u64 (y D[j]).c, .int .u64 (y D[j]).e] 65)) X → Src X (.slice (some ⟨g, 0, none⟩) ((plc p).length + 1) c) (ky p D[j]) → wr.heap.size ≤ g → Calls Try.prog 56 #[.pointer (some ⟨s, 0, none⟩), .slice (some ⟨g, 0, none⟩) ((plc p).length + 1) c, .agg #[.int .u64 (z D[j]).a, .int .u64 (z D[j]).b, .int .u64 (z D[j]).c, .int .u64 (z D[j]).e]] X fun e w' => e = .returned (.tuple #[]) ∧ ∃ A' L', StD w' s base A' L' ds (n + (j + 1)) ∧ BkL L' (mixB b p z (D.take (j + 1))) ∧ Fr w2 w' A A' ∧ w'.cell? ⟨wr.heap.size, 0, none⟩ = some (.int .u8 (D[j] : Nat))) := fun X g c hX0 hs hg => by
          have hX : Below wr.heap.size wr X := (ba (Below.refl _ _) _ : Below wr.heap.size wr (wr.alloc (.cells #[.int .u8 (D[j] : Nat), .int .u64 (y D[j]).a, .int .u64 (y D[j]).b, .int .u64 (y D[j]).c, .int .u64 (y D[j]).e] 65))).trans (hX0.mono (by simp))
          refine (putB_any (h1.below hX) hB1 (by omega) hp hd8 hs (fun g' hg' hA => by injection hg' with hg'; simp only at hg'; have := (h1.foot g' hA).2; omega) hzd.1 hzd.2).mono ?_
          rintro e w' ⟨rfl, A2, L2, q1, q2, q3⟩
          have h9 : wr.heap.size < X.heap.size := by have := hX0.size; simp at this; omega
          exact ⟨rfl, A2, L2, q1, by rw [htk.out]; exact q2, (f1.trans (Fr.below hX)).trans q3, (World.cell?_of_block (a := ⟨wr.heap.size, 0, none⟩) (q3.block wr.heap.size h9 (fun hA => by have := (h1.foot _ hA).2; omega))).trans (hKp.out X hX0)⟩
        have hky : ∀ (X : World) (d : Nat), Calls Try.prog 37 #[.string t, .int .u8 d] X fun e w' => ∃ g cap, e = .returned (.slice (some ⟨g, 0, none⟩) ((plc p).length + 1) cap) ∧ Src w' (.slice (some ⟨g, 0, none⟩) ((plc p).length + 1) cap) (ky p d) ∧ X.heap.size ≤ g ∧ g < w'.heap.size ∧ Below X.heap.size X w' := fun X d => key_any ht (byte_plc p) (by have := plc_len p; omega) d X
        replace hky : Hid _ := hky
        rw [hyd] at c0
        generalize y D[j] = x at *
        generalize z D[j] = zx at *
        generalize D[j] = d at *
        have hdl : decide ((j : Int) < (D.length : Int)) = true := by simpa using hlt
        clear hv hI hvr hIr h hB hB1 h1 f1 htk hdm hfin hyd hzd ht hvo huo
        go_upto_region 7 with fail
        go_region_held2 (fun X => X.cell? ⟨wr.heap.size, 0, none⟩ = some (.int .u8 (d : Int))) (first | (with_reducible assumption) | exact hKp.out _ (by (repeat (first | (with_reducible exact Below.refl _ _) | (with_reducible assumption) | (with_reducible apply bd) | (with_reducible apply ba) | (with_reducible refine bp ?_ (by first | omega | (simp [pad_size]; done) | (simp [pad_size]; omega)) _ _) | (with_reducible refine bs ?_ (by first | omega | (simp [pad_size]; done) | (simp [pad_size]; omega)) _) | (with_reducible refine bt ?_ (by assumption)))))) (first
          | (go_at_call 57; refine (hA.out _ (by (repeat (first | (with_reducible exact Below.refl _ _) | (with_reducible assumption) | (with_reducible apply bd) | (with_reducible apply ba) | (with_reducible refine bp ?_ (by first | omega | (simp [pad_size]; done) | (simp [pad_size]; omega)) _ _) | (with_reducible refine bs ?_ (by first | omega | (simp [pad_size]; done) | (simp [pad_size]; omega)) _) | (with_reducible refine bt ?_ (by assumption)))))).mono ?_; rintro e w4 ⟨rfl, hb4⟩)
          | (go_at_call 37; refine (hky.out _ _).mono ?_; rintro e w3 ⟨g3, c3', rfl, hs3, hg3, hl3, hb3⟩)
          | (go_at_call 56; go_loud (refine (hP.out _ _ _ (by (repeat (first | (with_reducible exact Below.refl _ _) | (with_reducible assumption) | (with_reducible apply bd) | (with_reducible apply ba) | (with_reducible refine bp ?_ (by first | omega | (simp [pad_size]; done) | (simp [pad_size]; omega)) _ _) | (with_reducible refine bs ?_ (by first | omega | (simp [pad_size]; done) | (simp [pad_size]; omega)) _) | (with_reducible refine bt ?_ (by assumption))))) (by first | exact hs3 | exact hs3.kept (grown_none (by assumption))) (by first | omega | (simp at hg3; omega))).mono ?_; rintro e w5 ⟨rfl, A5, L5, h5, hB5, f5, k5⟩)))
        all_goals go_wp2
        all_goals go_roundw
        case rel => exact ⟨j + 1, A5, L5, by omega, by go_num, h5, hB5, f5⟩
        case measure => (simp [intOf] <;> omega)
      · have hjn : j = D.length := by omega
        subst hjn
        rw [List.take_length] at hB1
        go_wp2
        go_ret
        exact ⟨rfl, A1, L1, h1.up (by omega), hB1.congr hfin.out, (Fr.below hB2).trans f1⟩
  · go_enter Try.func40, Try.ntmps40
    go_wp2_with (first
      | (go_at_call 35; refine hK.mono ?_; clear hK; rintro e w1 ⟨v0, rfl, hv0, hb1⟩)
      | (go_at_call 41; refine (hcall2.out _ _ hv0 (hv.below hb1)).mono ?_; clear hcall2; rintro e w2 ⟨u, rfl, hu, hb2⟩; have hB2 : Below W.heap.size W w2 := bt hb1 hb2; have hI : IsCoins w2 u (lst z 8) := own_coins hu (lst8 z); have huo : Out A u (lst z 8) := out_row hu (fun g hg => Nat.lt_of_lt_of_le (h.foot g hg).2 hb1.size); replace h := h.below hB2; replace hv := hv.below hB2; clear hv0 hu hb1 hb2))
    go_loopw [27] (fun i X => ∃ (j : Nat) (A1 : Nat → Prop) (L1 : List (List Int × List Int)), j ≤ D.length ∧ i = .int .i64 (j : Int) ∧ StD X s base A1 L1 ds (n + j) ∧ BkL L1 (mixB b p z (D.take j)) ∧ Fr w2 X A A1) (fun i _ => D.length - (intOf i).toNat)
    case atStart => exact ⟨0, A, L, by omega, rfl, h, by rw [List.take_zero, mixB_nil]; exact hB, Fr.below (Below.refl _ _)⟩
    case round =>
      obtain ⟨j, A1, L1, hj, rfl, h1, hB1, f1⟩ := hrel
      by_cases hlt : j < D.length
      · have hvr := hv.fr f1 hvo
        have hIr := hI.fr f1 huo
        obtain ⟨blk, off, cap, ev, hbl, c0, c1, c2, c3, c4⟩ := cn_at hvr (j := j) (by simpa using hlt)
        simp only [List.getElem_map, List.length_map] at ev c0 c1 c2 c3 c4
        simp at ev
        obtain ⟨rfl, rfl⟩ := ev
        have hd8 := hdm _ (List.getElem_mem hlt)
        have hyd := (hy _ hd8).2
        have hzd := hz _ hd8
        have htk : Hid (mixB b p z (D.take (j + 1)) = upB (mixB b p z (D.take j)) p D[j] (z D[j])) := by
          show _ = _
          rw [List.take_succ_eq_append_getElem hlt, mixB_snoc]
        have hA : Hid (∀ X, Below wr.heap.size wr X → Calls Try.prog 57 #[u, .int .u8 (D[j] : Nat)] X fun e w' => e = .returned (.agg #[.int .u64 (z D[j]).a, .int .u64 (z D[j]).b, .int .u64 (z D[j]).c, .int .u64 (z D[j]).e]) ∧ Below X.heap.size X w') := fun X hX => by
          have := amount_any (D[j] : Nat) X (hIr.below hX)
          rwa [amt_full hz hd8] at this
        have hKp : Hid (∀ X, Below (wr.alloc (.cells #[.int .u8 (D[j] : Nat), .int .u64 (y D[j]).a, .int .u64 (y D[j]).b, .int .u64 (y D[j]).c, .int .u64 (y D[j]).e] 65)).heap.size (wr.alloc (.cells #[.int .u8 (D[j] : Nat), .int .u64 (y D[j]).a, .int .u64 (y D[j]).b, .int .u64 (y D[j]).c, .int .u64 (y D[j]).e] 65)) X → X.cell? ⟨wr.heap.size, 0, none⟩ = some (.int .u8 (D[j] : Nat))) := fun X hX => (World.cell?_of_block (a := ⟨wr.heap.size, 0, none⟩) (hX.block wr.heap.size (by simp))).trans ((cells_of_block (al_at rfl)).1 0)
        have hP : Hid (∀ X g c, Below (wr.alloc (.cells #[.int .u8 (D[j] : Nat), .int .u64 (y D[j]).a, .int .u64 (y D[j]).b, .int .u64 (y D[j]).c, .int .u64 (y D[j]).e] 65)).heap.size (wr.alloc (.cells #[.int .u8 (D[j] : Nat), .int .u64 (y D[j]).a, .int .u64 (y D[j]).b, .int .u64 (y D[j]).c, .int .u64 (y D[j]).e] 65)) X → Src X (.slice (some ⟨g, 0, none⟩) ((plc p).length + 1) c) (ky p D[j]) → wr.heap.size ≤ g → Calls Try.prog 56 #[.pointer (some ⟨s, 0, none⟩), .slice (some ⟨g, 0, none⟩) ((plc p).length + 1) c, .agg #[.int .u64 (z D[j]).a, .int .u64 (z D[j]).b, .int .u64 (z D[j]).c, .int .u64 (z D[j]).e]] X fun e w' => e = .returned (.tuple #[]) ∧ ∃ A' L', StD w' s base A' L' ds (n + (j + 1)) ∧ BkL L' (mixB b p z (D.take (j + 1))) ∧ Fr w2 w' A A' ∧ w'.cell? ⟨wr.heap.size, 0, none⟩ = some (.int .u8 (D[j] : Nat))) := fun X g c hX0 hs hg => by
          have hX : Below wr.heap.size wr X := (ba (Below.refl _ _) _ : Below wr.heap.size wr (wr.alloc (.cells #[.int .u8 (D[j] : Nat), .int .u64 (y D[j]).a, .int .u64 (y D[j]).b, .int .u64 (y D[j]).c, .int .u64 (y D[j]).e] 65))).trans (hX0.mono (by simp))
          refine (putB_any (h1.below hX) hB1 (by omega) hp hd8 hs (fun g' hg' hA => by injection hg' with hg'; simp only at hg'; have := (h1.foot g' hA).2; omega) hzd.1 hzd.2).mono ?_
          rintro e w' ⟨rfl, A2, L2, q1, q2, q3⟩
          have h9 : wr.heap.size < X.heap.size := by have := hX0.size; simp at this; omega
          exact ⟨rfl, A2, L2, q1, by rw [htk.out]; exact q2, (f1.trans (Fr.below hX)).trans q3, (World.cell?_of_block (a := ⟨wr.heap.size, 0, none⟩) (q3.block wr.heap.size h9 (fun hA => by have := (h1.foot _ hA).2; omega))).trans (hKp.out X hX0)⟩
        have hky : ∀ (X : World) (d : Nat), Calls Try.prog 37 #[.string t, .int .u8 d] X fun e w' => ∃ g cap, e = .returned (.slice (some ⟨g, 0, none⟩) ((plc p).length + 1) cap) ∧ Src w' (.slice (some ⟨g, 0, none⟩) ((plc p).length + 1) cap) (ky p d) ∧ X.heap.size ≤ g ∧ g < w'.heap.size ∧ Below X.heap.size X w' := fun X d => key_any ht (byte_plc p) (by have := plc_len p; omega) d X
        replace hky : Hid _ := hky
        rw [hyd] at c0
        generalize y D[j] = x at *
        generalize z D[j] = zx at *
        generalize D[j] = d at *
        have hdl : decide ((j : Int) < (D.length : Int)) = true := by simpa using hlt
        clear hv hI hvr hIr h hB hB1 h1 f1 htk hdm hfin hyd hzd ht hvo huo
        go_upto_region 7 with fail
        go_region_held2 (fun X => X.cell? ⟨wr.heap.size, 0, none⟩ = some (.int .u8 (d : Int))) (first | (with_reducible assumption) | exact hKp.out _ (by (repeat (first | (with_reducible exact Below.refl _ _) | (with_reducible assumption) | (with_reducible apply bd) | (with_reducible apply ba) | (with_reducible refine bp ?_ (by first | omega | (simp [pad_size]; done) | (simp [pad_size]; omega)) _ _) | (with_reducible refine bs ?_ (by first | omega | (simp [pad_size]; done) | (simp [pad_size]; omega)) _) | (with_reducible refine bt ?_ (by assumption)))))) (first
          | (go_at_call 57; refine (hA.out _ (by (repeat (first | (with_reducible exact Below.refl _ _) | (with_reducible assumption) | (with_reducible apply bd) | (with_reducible apply ba) | (with_reducible refine bp ?_ (by first | omega | (simp [pad_size]; done) | (simp [pad_size]; omega)) _ _) | (with_reducible refine bs ?_ (by first | omega | (simp [pad_size]; done) | (simp [pad_size]; omega)) _) | (with_reducible refine bt ?_ (by assumption)))))).mono ?_; rintro e w4 ⟨rfl, hb4⟩)
          | (go_at_call 37; refine (hky.out _ _).mono ?_; rintro e w3 ⟨g3, c3', rfl, hs3, hg3, hl3, hb3⟩)
          | (go_at_call 56; go_loud (refine (hP.out _ _ _ (by (repeat (first | (with_reducible exact Below.refl _ _) | (with_reducible assumption) | (with_reducible apply bd) | (with_reducible apply ba) | (with_reducible refine bp ?_ (by first | omega | (simp [pad_size]; done) | (simp [pad_size]; omega)) _ _) | (with_reducible refine bs ?_ (by first | omega | (simp [pad_size]; done) | (simp [pad_size]; omega)) _) | (with_reducible refine bt ?_ (by assumption))))) (by first | exact hs3 | exact hs3.kept (grown_none (by assumption))) (by first | omega | (simp at hg3; omega))).mono ?_; rintro e w5 ⟨rfl, A5, L5, h5, hB5, f5, k5⟩)))
        all_goals go_wp2
        all_goals go_roundw
        case rel => exact ⟨j + 1, A5, L5, by omega, by go_num, h5, hB5, f5⟩
        case measure => (simp [intOf] <;> omega)
      · have hjn : j = D.length := by omega
        subst hjn
        rw [List.take_length] at hB1
        go_wp2
        go_ret
        exact ⟨rfl, A1, L1, h1.up (by omega), hB1.congr hfin.out, (Fr.below hB2).trans f1⟩
end
end Go.Proofs.Ytgphdioolcfmmaa
