
/- store: Commit, undo, Rollback. -/
import Derived.Test.YthajolagpnakkaaO9
import Derived.ScopeJumps
set_option linter.unusedSimpArgs false
set_option linter.unusedVariables false
namespace Go.Proofs.Ythajolagpnakkaa
open Go.RowKit

/-- A scope with jumps back to one label: what is behind the label is walked once. -/
theorem wp_scope_jumps2 {P : Program} {a : Act} {w : World} {Q : Exit → Act → World → Prop} {c rest : Code} (l : Nat) (J : Act → World → Prop) (μ : Act → World → Nat) (hf : findLabel c l = some rest)
    (pass : ∀ a w, J a w → rest.wp P (Exit.jump l (fun a' w' => J a' w' ∧ μ a' w' < μ a w) Q) a w)
    (first : (∀ a w, J a w → rest.wp P (Exit.jump l J Q) a w) → c.wp P (Exit.jump l J Q) a w) : (Code.scope c).wp P Q a w := by
  refine wp_scope_jumps l J μ hf (first fun a w hJ => Code.wp_mono ?_ (pass a w hJ)) pass
  intro e a' w' h
  cases e with
  | goto l' => exact ⟨h.1, h.2.1⟩
  | _ => exact h

/-- With no part begun any more nothing is noted. -/
def keepJ (b : List Nat) (j : List Was) : List Was := if b = [] then [] else j
theorem cellsJ_len (j : List Was) : (cellsJ j).length = j.length * 3 := by
  induction j with
  | nil => rfl
  | cons x j ih => rw [cellsJ, List.flatMap_cons, List.length_append, ← cellsJ, ih, List.length_cons]; simp; omega
theorem cellsJ_last (j : List Was) (x : Was) : (cellsJ (j ++ [x]))[j.length * 3]? = some x.kv ∧ (cellsJ (j ++ [x]))[j.length * 3 + 1]? = some x.vv ∧ (cellsJ (j ++ [x]))[j.length * 3 + 2]? = some (.bool x.there) := by
  have hl := cellsJ_len j
  rw [cellsJ_app]
  refine ⟨?_, ?_, ?_⟩ <;> rw [List.getElem?_append_right (by omega)]
  · rw [show j.length * 3 - (cellsJ j).length = 0 by omega]; rfl
  · rw [show j.length * 3 + 1 - (cellsJ j).length = 1 by omega]; rfl
  · rw [show j.length * 3 + 2 - (cellsJ j).length = 2 by omega]; rfl
def undoS (l : List (List Int × List Int)) (x : Was) : List (List Int × List Int) := if x.there then putS l x.k x.v else dropS l x.k
/-- All that was noted since is undone, the last first. -/
def rollS (l : List (List Int × List Int)) (j : List Was) : List (List Int × List Int) := j.foldr (fun x l => undoS l x) l
theorem rollS_snoc (l : List (List Int × List Int)) (j : List Was) (x : Was) : rollS l (j ++ [x]) = rollS (undoS l x) j := by simp [rollS]
section
variable {W : World} {s base : Nat} {A : Nat → Prop} {vp vj vb : Value} {r : List Rec} {j : List Was} {b : List Nat}
set_option maxHeartbeats 1000000 in
theorem new_any (W : World) : Calls Try.prog 13 #[] W fun e w' => e = .returned (.pointer (some ⟨W.heap.size, 0, none⟩)) ∧ StC w' W.heap.size W.heap.size (fun k => k = W.heap.size) (.slice none 0 0) (.slice none 0 0) (.slice none 0 0) [] [] [] ∧ Below W.heap.size W w' := by
  go_enter Try.func13, Try.ntmps13
  go_wp2
  go_ret
  refine ⟨rfl, ⟨World.alloc_heap_new W _, World.ownsRow_nil _ _ _ _, World.ownsRow_nil _ _ _ _, World.ownsRow_nil _ _ _ _, by simp, by simp, fun k hk => by subst hk; simp, rfl, fun g hg => by simp [Value.ownBlock] at hg, fun g hg => by simp [Value.ownBlock] at hg, fun g hg => by simp [Value.ownBlock] at hg, by simp⟩, ba (Below.refl _ _) _⟩
set_option maxHeartbeats 1000000 in
theorem commit_none (h : StC W s base A vp vj vb r j []) : Calls Try.prog 20 #[.pointer (some ⟨s, 0, none⟩)] W fun e w' => e = .returned (.bool false) ∧ w' = W := by
  have hO := over_none h
  go_enter Try.func20, Try.ntmps20
  go_wp2_with (go_at_call 38; refine hO.mono ?_; rintro e w1 ⟨rfl, hw⟩; obtain rfl := hw.symm)
  go_ret
  exact ⟨rfl, rfl⟩
set_option maxHeartbeats 4000000 in
theorem commit_some {n : Nat} (h : StC W s base A vp vj vb r j (b ++ [n])) (hb : b.length ≤ 100000) : Calls Try.prog 20 #[.pointer (some ⟨s, 0, none⟩)] W fun e w' => e = .returned (.bool true) ∧ ∃ A' vj' vb', StC w' s base A' vp vj' vb' r (keepJ b j) b ∧ Fr W w' A A' := by
  have hO := over_some h hb
  by_cases hb0 : b = []
  · subst hb0
    go_enter Try.func20, Try.ntmps20
    go_wp2_with (first
      | (go_at_call 38; refine hO.mono ?_; rintro e w1 ⟨rfl, A1, vb1, h1, f1⟩; have hD := depth_any h1; obtain ⟨c, fz⟩ := cells_of_block h1.blk)
      | (go_at_call 18; refine hD.mono ?_; rintro e w2 ⟨rfl, hw⟩; obtain rfl := hw.symm))
    go_ret
    obtain ⟨q1, q2⟩ := h1.jour_to (W1 := w1) (j' := []) (vj' := .slice none 0 0) (World.ownsRow_nil _ _ _ _) (grown_ref _ _) (.inl rfl) (by simp)
    exact ⟨rfl, _, _, _, by simpa [keepJ] using q1, f1.trans q2⟩
  · have hb1 : ¬ (b.length : Int) = 0 := by intro e; exact hb0 (List.eq_nil_of_length_eq_zero (by omega))
    go_enter Try.func20, Try.ntmps20
    go_wp2_with (first
      | (go_at_call 38; refine hO.mono ?_; rintro e w1 ⟨rfl, A1, vb1, h1, f1⟩; have hD := depth_any h1; obtain ⟨c, fz⟩ := cells_of_block h1.blk)
      | (go_at_call 18; refine hD.mono ?_; rintro e w2 ⟨rfl, hw⟩; obtain rfl := hw.symm))
    go_ret
    exact ⟨rfl, _, _, _, by rw [keepJ, if_neg hb0]; exact h1, f1⟩
set_option maxHeartbeats 4000000 in
theorem undo_any {x : Was} (h : StC W s base A vp vj vb r j b) (hs : Srt r) (hn : r.length < 100000) (hx : WasAt W A x) :
    Calls Try.prog 39 #[.pointer (some ⟨s, 0, none⟩), .agg #[x.kv, x.vv, .bool x.there]] W fun e w' => e = .returned (.tuple #[]) ∧ ∃ A' vp' r', StC w' s base A' vp' vj vb r' j b ∧ Srt r' ∧ cont r' = undoS (cont r) x ∧ r'.length ≤ r.length + 1 ∧ Fr W w' A A' := by
  obtain ⟨hk, hv1, hv0⟩ := hx
  obtain ⟨kv, vv, k, v, t⟩ := x
  simp only at hk hv1 hv0
  obtain ⟨sk, ck, rfl, -⟩ := hk.src.parts
  have hg := World.grownBy_alloc W (.cells #[.slice sk k.length ck, vv, .bool t] 68) none
  have h1 := h.kept (fun n hn => hg.block n (h.foot n hn).2 (by simp)) hg.size
  have hk1 := hk.kept (W' := W.alloc (.cells #[.slice sk k.length ck, vv, .bool t] 68)) (fun n hn => hg.block n (h.foot n hn).2 (by simp))
  have hf : Fr W (W.alloc (.cells #[.slice sk k.length ck, vv, .bool t] 68)) A A := Fr.below (ba (Below.refl _ _) _)
  cases t with
  | true =>
    have hv := hv1 rfl
    obtain ⟨sv, cv, rfl, -⟩ := hv.src.parts
    have hv1 := hv.kept (fun n hn => hg.block n (h.foot n hn).2 (by simp))
    have hP := put_any h1 hs hn hk1 hv1
    go_enter Try.func39, Try.ntmps39
    go_wp2_with (go_at_call 47; refine hP.mono ?_; rintro e w4 ⟨rfl, A4, vp4, r4, h4, hs4, hc4, hl4, f4⟩)
    refine bodyPost_end (v := .tuple #[]) (by simp [results, Try.results39]) rfl ?_
    exact ⟨rfl, _, _, _, h4, hs4, by simpa [undoS] using hc4, hl4, hf.trans f4⟩
  | false =>
    have hv := hv0 rfl
    subst hv
    have hD := drop_any h1 hs (by omega) hk1.src hk.2.1
    go_enter Try.func39, Try.ntmps39
    go_wp2_with (go_at_call 48; refine hD.mono ?_; rintro e w4 ⟨rfl, A4, vp4, r4, h4, hs4, hc4, hl4, f4⟩)
    refine bodyPost_end (v := .tuple #[]) (by simp [results, Try.results39]) rfl ?_
    exact ⟨rfl, _, _, _, h4, hs4, by simpa [undoS] using hc4, by omega, hf.trans f4⟩
set_option maxHeartbeats 1000000 in
theorem rollback_none (h : StC W s base A vp vj vb r j []) : Calls Try.prog 21 #[.pointer (some ⟨s, 0, none⟩)] W fun e w' => e = .returned (.bool false) ∧ w' = W := by
  have hO := over_none h
  go_enter Try.func21, Try.ntmps21
  go_wp2
  go_step3
  go_wp2_with (go_at_call 38; refine hO.mono ?_; rintro e w1 ⟨rfl, hw⟩; obtain rfl := hw.symm)
  try simp only [Exit.jump]
  try rw [Exit.noGoto_ret]
  go_ret
  exact ⟨rfl, rfl⟩
end
/-- What holds whenever one goes on undoing. -/
def RbI (W : World) (s base : Nat) (A : Nat → Prop) (vb : Value) (r : List Rec) (j : List Was) (b : List Nat) (n : Nat) (L : List (List Int × List Int)) (X : World) : Prop :=
  ∃ A' vp' vj' r', ∃ m : Nat, StC X s base A' vp' vj' vb r' (j.take m) b ∧ Srt r' ∧ n ≤ m ∧ m ≤ j.length ∧ rollS (cont r') ((j.take m).drop n) = L ∧ r'.length + m ≤ r.length + j.length ∧ Fr W X A A'
set_option maxRecDepth 10000 in
set_option maxHeartbeats 8000000 in
theorem rollback_some {W : World} {s base : Nat} {A : Nat → Prop} {vp vj vb : Value} {r : List Rec} {j : List Was} {b : List Nat} {n : Nat} (h : StC W s base A vp vj vb r j (b ++ [n])) (hs : Srt r) (hn : n ≤ j.length) (hb : b.length ≤ 100000) (hl : r.length + j.length < 100000) :
    Calls Try.prog 21 #[.pointer (some ⟨s, 0, none⟩)] W fun e w' => e = .returned (.bool true) ∧ ∃ A' vp' vj' vb' r', StC w' s base A' vp' vj' vb' r' (j.take n) b ∧ Srt r' ∧ cont r' = rollS (cont r) (j.drop n) ∧ r'.length ≤ r.length + j.length ∧ Fr W w' A A' := by
  have hO := over_some h hb
  obtain ⟨L, hL⟩ : ∃ L, L = rollS (cont r) (j.drop n) := ⟨_, rfl⟩
  rw [← hL]
  go_enter Try.func21, Try.ntmps21
  go_wp2
  refine wp_scope_jumps2 0 (fun a' X => ∃ (u1 u4 u5 u6 u7 u8 u9 u10 u11 u12 u13 u14 u15 u16 u17 u18 u19 u20 u21 u22 u23 u24 u25 u26 u27 u28 u29 u30 u31 u32 u33 u34 u35 u36 u37 u38 u39 u40 u41 u42 u43 u44 u45 u46 vb' : Value), a' = { tmps := #[.pointer (some ⟨s, 0, none⟩), u1, .bool false, .int .i64 (n : Int), u4, u5, u6, u7, u8, u9, u10, u11, u12, u13, u14, u15, u16, u17, u18, u19, u20, u21, u22, u23, u24, u25, u26, u27, u28, u29, u30, u31, u32, u33, u34, u35, u36, u37, u38, u39, u40, u41, u42, u43, u44, u45, u46], defers := [] } ∧ RbI W s base A vb' r j b n L X) (fun _ X => match X.cell? ⟨s, 1, none⟩ with | some (.slice _ k _) => k | _ => 0) rfl ?_ ?_
  · rintro a' X ⟨u1, u4, u5, u6, u7, u8, u9, u10, u11, u12, u13, u14, u15, u16, u17, u18, u19, u20, u21, u22, u23, u24, u25, u26, u27, u28, u29, u30, u31, u32, u33, u34, u35, u36, u37, u38, u39, u40, u41, u42, u43, u44, u45, u46, vb', rfl, A1, vp1, vj1, r1, m, h1, hs1, hnm, hm, hroll, hlen, f1⟩
    have hml : (j.take m).length = m := by rw [List.length_take]; omega
    have hjr := h1.jour
    rw [hml] at hjr
    obtain ⟨aj, cj, rfl⟩ := row_slice hjr
    obtain ⟨c, fz⟩ := cells_of_block h1.blk
    have hm' : (m : Int) ≤ 100000 := by omega
    by_cases hlt : n < m
    · obtain ⟨m1, rfl⟩ : ∃ m1, m = m1 + 1 := ⟨m - 1, by omega⟩
      have hm1 : m1 < j.length := by omega
      have htk : j.take (m1 + 1) = j.take m1 ++ [j[m1]] := List.take_succ_eq_append_getElem hm1
      have hm1l : (j.take m1).length = m1 := by rw [List.length_take]; omega
      obtain ⟨g, hv⟩ : ∃ g, aj = some ⟨g, 0, none⟩ := by
        rcases hjr.2 with ⟨e, _⟩ | ⟨g, cap', _, e, _⟩
        · simp at e
        · simp at e; exact ⟨g, e.1⟩
      subst hv
      have hcap : m1 + 1 ≤ cj := by
        rcases hjr.2 with ⟨e, _⟩ | ⟨g', cap', _, e, _, _, h3, _⟩
        · simp at e
        · simp at e; omega
      have hxw := h1.was j[m1] (by rw [htk]; exact List.mem_append_right _ (List.mem_singleton.2 rfl))
      have hU := undo_any h1 hs1 (by omega) hxw
      obtain ⟨l0, l1, l2⟩ := cellsJ_last (j.take m1) j[m1]
      rw [← htk, hm1l] at l0 l1 l2
      have p0 := (World.ownsRow.cellAt hjr (m1 * 3) (by omega)).trans l0
      have p1 := (World.ownsRow.cellAt hjr (m1 * 3 + 1) (by omega)).trans l1
      have p2 := (World.ownsRow.cellAt hjr (m1 * 3 + 2) (by omega)).trans l2
      have hroll2 : Hid (rollS (undoS (cont r1) j[m1]) ((j.take m1).drop n) = L) := by
        unfold Hid; rw [← rollS_snoc, ← hroll, htk, List.drop_append_of_le_length (by rw [hm1l]; omega)]
      have hcX : X.cell? ⟨s, 1, none⟩ = some (.slice (some ⟨g, 0, none⟩) (m1 + 1) cj) := c 1
      have k1 : (n : Int) ≤ (m1 : Int) := by omega
      have k2 : ((m1 + 1 : Nat) : Int) - 1 = (m1 : Int) := by omega
      have k3 : (m1 : Int) ≤ (cj : Int) := by omega
      have k4 : (m1 : Int) < ((m1 + 1 : Nat) : Int) := by omega
      generalize hxx : j[m1] = x at *
      clear l0 l1 l2 hroll
      go_wp2_with (go_at_call 39; refine hU.mono ?_; rintro e w2 ⟨rfl, A2, vp2, r2, h2, hs2, hc2, hl2, f2⟩; have hjr2 := h2.jour; rw [hml] at hjr2; obtain ⟨c2, fz2⟩ := cells_of_block h2.blk; have q0 := World.ownsRow.cellAt hjr2 (m1 * 3) (by omega); have q1 := World.ownsRow.cellAt hjr2 (m1 * 3 + 1) (by omega); have q2 := World.ownsRow.cellAt hjr2 (m1 * 3 + 2) (by omega); have z0 := World.ownsRow.frozenAt hjr2 (m1 * 3); have z1 := World.ownsRow.frozenAt hjr2 (m1 * 3 + 1); have z2 := World.ownsRow.frozenAt hjr2 (m1 * 3 + 2); obtain ⟨l0, l1, l2⟩ := cellsJ_last (j.take m1) x; rw [← htk, hm1l] at l0 l1 l2; rw [l0] at q0; rw [l1] at q1; rw [l2] at q2; clear l0 l1 l2; have hgs : ¬ g = s := fun e => (not_row h2.blk (by decide) hjr2 (by rw [← e]; rfl)))
      go_step3
      have hg3 : w2.grownBy (((w2.setCell ⟨g, m1 * 3, none⟩ (.slice none 0 0)).setCell ⟨g, m1 * 3 + 1, none⟩ (.slice none 0 0)).setCell ⟨g, m1 * 3 + 2, none⟩ (.bool false)) (some g) := grown_se (grown_se (grown_se (grown_ref _ _) _ _) _ _) _ _
      have hrow3 := row_cut (m := m1) (World.ownsRow.stored (World.ownsRow.stored (World.ownsRow.stored hjr2 (m1 * 3) (.slice none 0 0)).1 (m1 * 3 + 1) (.slice none 0 0)).1 (m1 * 3 + 2) (.bool false)).1 (by omega)
      rw [List.take_set_of_le (by omega), List.take_set_of_le (by omega), List.take_set_of_le (by omega), htk, cellsJ_app, List.take_append_of_le_length (by rw [cellsJ_len, hm1l]; omega), List.take_of_length_le (by rw [cellsJ_len, hm1l]; omega)] at hrow3
      obtain ⟨y1, y2⟩ := h2.jour_to (j' := j.take m1) (vj' := .slice (some ⟨g, 0, none⟩) m1 cj) (by rw [hm1l]; exact hrow3) hg3 (.inr (.inl rfl)) (fun y hy => h2.was y (by rw [htk]; exact List.mem_append_left _ hy))
      have hR : RbI W s base A vb' r j b n L ((((w2.setCell ⟨g, m1 * 3, none⟩ (.slice none 0 0)).setCell ⟨g, m1 * 3 + 1, none⟩ (.slice none 0 0)).setCell ⟨g, m1 * 3 + 2, none⟩ (.bool false)).setCell ⟨s, 1, none⟩ (.slice (some ⟨g, 0, none⟩) m1 cj)) :=
        ⟨_, _, _, r2, m1, y1, hs2, by omega, by omega, by rw [hc2]; exact hroll2.out, by omega, (f1.trans f2).trans y2⟩
      have hcY := (cells_of_block y1.blk).1 1
      refine ⟨rfl, ⟨_, _, _, _, _, _, _, _, _, _, _, _, _, _, _, _, _, _, _, _, _, _, _, _, _, _, _, _, _, _, _, _, _, _, _, _, _, _, _, _, _, _, _, _, vb', rfl, hR⟩, ?_⟩
      simp only [hcX]
      rw [hcY]
      simp
    · obtain rfl : n = m := by omega
      rw [List.drop_of_length_le (by rw [hml]; omega)] at hroll
      have k1 : ¬ (n : Int) ≤ (n : Int) - 1 := by omega
      go_wp2
      try simp only [Exit.jump]
      try rw [Exit.noGoto_ret]
      go_ret
      exact ⟨rfl, _, _, _, _, _, h1, hs1, hroll, by omega, f1⟩
  · intro _
    go_wp2_with (go_at_call 38; refine hO.mono ?_; rintro e w1 ⟨rfl, A1, vb1, h1, f1⟩)
    go_step3
    obtain ⟨m, hmj⟩ : ∃ m, m = j.length := ⟨_, rfl⟩
    have htm : j.take m = j := by rw [hmj, List.take_length]
    have hs1 := hs
    have hnm : n ≤ m := by omega
    have hm : m ≤ j.length := by omega
    have hlen : r.length + m ≤ r.length + j.length := by omega
    have hroll : rollS (cont r) ((j.take m).drop n) = L := by rw [htm, hL]
    rw [← htm] at h1
    obtain ⟨r1, hr1⟩ : ∃ r1, r1 = r := ⟨_, rfl⟩
    rw [← hr1] at h1 hs1 hroll
    have hlen : r1.length + m ≤ r.length + j.length := by rw [hr1]; exact hlen
    clear htm hmj hr1 hs
    have hml : (j.take m).length = m := by rw [List.length_take]; omega
    have hjr := h1.jour
    rw [hml] at hjr
    obtain ⟨aj, cj, rfl⟩ := row_slice hjr
    obtain ⟨c, fz⟩ := cells_of_block h1.blk
    have hm' : (m : Int) ≤ 100000 := by omega
    by_cases hlt : n < m
    · obtain ⟨m1, rfl⟩ : ∃ m1, m = m1 + 1 := ⟨m - 1, by omega⟩
      have hm1 : m1 < j.length := by omega
      have htk : j.take (m1 + 1) = j.take m1 ++ [j[m1]] := List.take_succ_eq_append_getElem hm1
      have hm1l : (j.take m1).length = m1 := by rw [List.length_take]; omega
      obtain ⟨g, hv⟩ : ∃ g, aj = some ⟨g, 0, none⟩ := by
        rcases hjr.2 with ⟨e, _⟩ | ⟨g, cap', _, e, _⟩
        · simp at e
        · simp at e; exact ⟨g, e.1⟩
      subst hv
      have hcap : m1 + 1 ≤ cj := by
        rcases hjr.2 with ⟨e, _⟩ | ⟨g', cap', _, e, _, _, h3, _⟩
        · simp at e
        · simp at e; omega
      have hxw := h1.was j[m1] (by rw [htk]; exact List.mem_append_right _ (List.mem_singleton.2 rfl))
      have hU := undo_any h1 hs1 (by omega) hxw
      obtain ⟨l0, l1, l2⟩ := cellsJ_last (j.take m1) j[m1]
      rw [← htk, hm1l] at l0 l1 l2
      have p0 := (World.ownsRow.cellAt hjr (m1 * 3) (by omega)).trans l0
      have p1 := (World.ownsRow.cellAt hjr (m1 * 3 + 1) (by omega)).trans l1
      have p2 := (World.ownsRow.cellAt hjr (m1 * 3 + 2) (by omega)).trans l2
      have hroll2 : Hid (rollS (undoS (cont r1) j[m1]) ((j.take m1).drop n) = L) := by
        unfold Hid; rw [← rollS_snoc, ← hroll, htk, List.drop_append_of_le_length (by rw [hm1l]; omega)]
      have hcX : w1.cell? ⟨s, 1, none⟩ = some (.slice (some ⟨g, 0, none⟩) (m1 + 1) cj) := c 1
      have k1 : (n : Int) ≤ (m1 : Int) := by omega
      have k2 : ((m1 + 1 : Nat) : Int) - 1 = (m1 : Int) := by omega
      have k3 : (m1 : Int) ≤ (cj : Int) := by omega
      have k4 : (m1 : Int) < ((m1 + 1 : Nat) : Int) := by omega
      generalize hxx : j[m1] = x at *
      clear l0 l1 l2 hroll
      go_wp2_with (go_at_call 39; refine hU.mono ?_; rintro e w2 ⟨rfl, A2, vp2, r2, h2, hs2, hc2, hl2, f2⟩; have hjr2 := h2.jour; rw [hml] at hjr2; obtain ⟨c2, fz2⟩ := cells_of_block h2.blk; have q0 := World.ownsRow.cellAt hjr2 (m1 * 3) (by omega); have q1 := World.ownsRow.cellAt hjr2 (m1 * 3 + 1) (by omega); have q2 := World.ownsRow.cellAt hjr2 (m1 * 3 + 2) (by omega); have z0 := World.ownsRow.frozenAt hjr2 (m1 * 3); have z1 := World.ownsRow.frozenAt hjr2 (m1 * 3 + 1); have z2 := World.ownsRow.frozenAt hjr2 (m1 * 3 + 2); obtain ⟨l0, l1, l2⟩ := cellsJ_last (j.take m1) x; rw [← htk, hm1l] at l0 l1 l2; rw [l0] at q0; rw [l1] at q1; rw [l2] at q2; clear l0 l1 l2; have hgs : ¬ g = s := fun e => (not_row h2.blk (by decide) hjr2 (by rw [← e]; rfl)))
      go_step3
      have hg3 : w2.grownBy (((w2.setCell ⟨g, m1 * 3, none⟩ (.slice none 0 0)).setCell ⟨g, m1 * 3 + 1, none⟩ (.slice none 0 0)).setCell ⟨g, m1 * 3 + 2, none⟩ (.bool false)) (some g) := grown_se (grown_se (grown_se (grown_ref _ _) _ _) _ _) _ _
      have hrow3 := row_cut (m := m1) (World.ownsRow.stored (World.ownsRow.stored (World.ownsRow.stored hjr2 (m1 * 3) (.slice none 0 0)).1 (m1 * 3 + 1) (.slice none 0 0)).1 (m1 * 3 + 2) (.bool false)).1 (by omega)
      rw [List.take_set_of_le (by omega), List.take_set_of_le (by omega), List.take_set_of_le (by omega), htk, cellsJ_app, List.take_append_of_le_length (by rw [cellsJ_len, hm1l]; omega), List.take_of_length_le (by rw [cellsJ_len, hm1l]; omega)] at hrow3
      obtain ⟨y1, y2⟩ := h2.jour_to (j' := j.take m1) (vj' := .slice (some ⟨g, 0, none⟩) m1 cj) (by rw [hm1l]; exact hrow3) hg3 (.inr (.inl rfl)) (fun y hy => h2.was y (by rw [htk]; exact List.mem_append_left _ hy))
      have hR : RbI W s base A vb1 r j b n L ((((w2.setCell ⟨g, m1 * 3, none⟩ (.slice none 0 0)).setCell ⟨g, m1 * 3 + 1, none⟩ (.slice none 0 0)).setCell ⟨g, m1 * 3 + 2, none⟩ (.bool false)).setCell ⟨s, 1, none⟩ (.slice (some ⟨g, 0, none⟩) m1 cj)) :=
        ⟨_, _, _, r2, m1, y1, hs2, by omega, by omega, by rw [hc2]; exact hroll2.out, by omega, (f1.trans f2).trans y2⟩
      exact ⟨rfl, _, _, _, _, _, _, _, _, _, _, _, _, _, _, _, _, _, _, _, _, _, _, _, _, _, _, _, _, _, _, _, _, _, _, _, _, _, _, _, _, _, _, _, _, vb1, rfl, hR⟩
    · obtain rfl : n = m := by omega
      rw [List.drop_of_length_le (by rw [hml]; omega)] at hroll
      have k1 : ¬ (n : Int) ≤ (n : Int) - 1 := by omega
      go_wp2
      try simp only [Exit.jump]
      try rw [Exit.noGoto_ret]
      go_ret
      exact ⟨rfl, _, _, _, _, _, h1, hs1, hroll, by omega, f1⟩
end Go.Proofs.Ythajolagpnakkaa
