
/- store.Copy: another one, alike, with nothing begun. -/
import Derived.Test.YthajolagpnakkaaO29
set_option linter.unusedSimpArgs false
set_option linter.unusedVariables false
namespace Go.Proofs.Ythajolagpnakkaa
open Go.RowKit

theorem spair_info : (Try.prog.info? 62).map (fun i => (i.zero, i.size, i.bytes)) = some (some (.agg #[.slice none 0 0, .slice none 0 0]), 2, 48) := by kernel_rfl
/-- A copy under way: behind both copies of bytes. -/
structure CJ (P X : World) (c : Nat) (Ac : Nat → Prop) (vp : Value) (rc : List Rec) (kv vv : Value) (k v : List Int) (gk gv : Nat) : Prop where
  st : StC X c c Ac vp (.slice none 0 0) (.slice none 0 0) rc [] []
  ok : Own X gk kv k
  ov : Own X gv vv v
  lk : P.heap.size ≤ gk
  lv : P.heap.size ≤ gv
theorem CJ.app {P X : World} {c : Nat} {Ac : Nat → Prop} {vp : Value} {rc : List Rec} {kv vv : Value} {k v : List Int} {gk gv : Nat} (h : CJ P X c Ac vp rc kv vv k v gk gv) (hl : rc.length ≤ 100000) {o : Oper} {a : Act} {K : Act → World → Prop} {Q : Exit → Act → World → Prop} (s x : Operand)
    (ho : o.op = .call { callee := .builtin .append, args := #[s, x], argTypes := #[52, 52] }) (hs : a.eval s = vp) (hx : a.eval x = .slice (some ⟨X.heap.size, 0, none⟩) 1 1)
    (kk : ∀ a' c' w', RowTo X w' c vp (.slice a' (rc.length + 1) c') (rc ++ [⟨kv, vv, k, v⟩]) → w'.heap[c]? = some (.cells #[vp, .slice none 0 0, .slice none 0 0] 56 (0, 0)) → K (a.put o.dst (.slice a' (rc.length + 1) c')) w') : o.wp Try.prog a (X.alloc (.cells #[kv, vv] 62)) K Q := by
  obtain ⟨i0, hi0, hz0, hz1, hz2⟩ := spair_info |> info_parts
  have hg := World.grownBy_alloc X (.cells #[kv, vv] 62) none
  have hrow := none_row h.st.pairs hg
  have hsl := (h.st.foot c h.st.a0).2
  have hk1 : kv.oneCell' = true := by rw [h.ok.1]; rfl
  have hv1 : vv.oneCell' = true := by rw [h.ov.1]; rfl
  refine wp_append_own_at _ s x 52 ho c 62 i0 _ 2 48 Try.underlying52 hi0 hz0 hz1 hz2 rfl (by decide) vp rc.length (cellsR rc) hs hrow ⟨X.heap.size, 0, none⟩ 1 1 [kv, vv] hx rfl (fun j u hj => by rw [add_cell, (cells_of_block (World.alloc_heap_new X _)).1]; simpa using hj) (by simp [hk1, hv1]) (by unfold maxLen; omega) (by omega) (Nat.le_trans h.st.le hg.size) ?_
  intro vp' w' hown hgr _ hat
  obtain ⟨a', c', rfl⟩ := row_slice hown
  have hcb := (hg.block c hsl (by simp)).trans h.st.blk
  refine kk a' c' w' ⟨by rw [List.length_append, cellsR_app]; exact hown, grown_tr (grown_up hg) hgr, ?_⟩ ((hgr.block c (Nat.lt_of_lt_of_le hsl hg.size) (not_row hcb (by decide) hrow)).trans hcb)
  rcases hat with e | e
  · exact .inl e
  · exact .inr ⟨_, e, hg.size⟩
/-- The new pair is laid into the copy. -/
theorem CJ.fin {P X w' : World} {c : Nat} {Ac : Nat → Prop} {vp vp' : Value} {rc : List Rec} {kv vv : Value} {k v : List Int} {gk gv : Nat} (h : CJ P X c Ac vp rc kv vv k v gk gv) (hP : c ≤ P.heap.size) (hkb : Byte k) (hvb : Byte v) (hkl : k.length ≤ 1048576) (hvl : v.length ≤ 1048576) (hT : RowTo X w' c vp vp' (rc ++ [⟨kv, vv, k, v⟩])) :
    ∃ A', StC (w'.setCell ⟨c, 0, none⟩ vp') c c A' vp' (.slice none 0 0) (.slice none 0 0) (rc ++ [⟨kv, vv, k, v⟩]) [] [] ∧ Below c X (w'.setCell ⟨c, 0, none⟩ vp') := by
  have lk := h.lk
  have lv := h.lv
  have h2 := h.st.ext (B := fun n => Ac n ∨ n = gk ∨ n = gv) (fun n hn => .inl hn) (fun n hn => by
    rcases hn with hn | rfl | rfl
    · exact h.st.foot n hn
    · exact ⟨by omega, h.ok.lt⟩
    · exact ⟨by omega, h.ov.lt⟩)
  obtain ⟨q1, q2⟩ := h2.pairs_to hT (fun x hx => by
    rcases List.mem_append.1 hx with hx | hx
    · exact h2.recs x hx
    · rw [List.mem_singleton] at hx
      subst hx
      exact ⟨⟨⟨gk, .inr (.inl rfl), h.ok⟩, hkb, hkl⟩, ⟨⟨gv, .inr (.inr rfl), h.ov⟩, hvb, hvl⟩⟩)
  refine ⟨_, q1, ⟨q2.os, q2.tape, q2.output, q2.size, fun n hn => q2.block n (by have := h.st.le; omega) (fun e => ?_)⟩⟩
  have := (h2.foot n e).1
  omega
set_option maxRecDepth 10000 in
set_option maxHeartbeats 32000000 in
theorem copy_any {W : World} {s base : Nat} {A : Nat → Prop} {vp vj vb : Value} {r : List Rec} {j : List Was} {b : List Nat} (h : StC W s base A vp vj vb r j b) (hn : r.length ≤ 1000) :
    Calls Try.prog 17 #[.pointer (some ⟨s, 0, none⟩)] W fun e w' => e = .returned (.pointer (some ⟨W.heap.size, 0, none⟩)) ∧ ∃ A' vp' r', StC w' W.heap.size W.heap.size A' vp' (.slice none 0 0) (.slice none 0 0) r' [] [] ∧ cont r' = cont r ∧ Below W.heap.size W w' := by
  obtain ⟨ap, cp, rfl⟩ := row_slice h.pairs
  have hn' : (r.length : Int) ≤ 1000 := by omega
  have hsl := (h.foot s h.a0).2
  obtain ⟨c0, hc0⟩ : ∃ c, c = W.heap.size := ⟨_, rfl⟩
  have hN := new_any W
  rw [← hc0] at hN ⊢
  have hc0' : Hid _ := hc0
  clear hc0
  go_enter Try.func17, Try.ntmps17
  go_wp2_with (go_at_call 13; refine hN.mono ?_; rintro e w1 ⟨rfl, n1, hb1⟩; obtain ⟨cs, fs⟩ := cells_of_block ((h.below (hc0'.out ▸ hb1)).blk))
  have hb1' : Below W.heap.size W w1 := hc0'.out ▸ hb1
  clear hN cs fs
  go_loopw [14] (fun iv X => ∃ (i : Nat) (Ac : Nat → Prop) (vpc : Value) (rc : List Rec), i ≤ r.length ∧ iv = .int .i64 (i : Int) ∧ StC X c0 c0 Ac vpc (.slice none 0 0) (.slice none 0 0) rc [] [] ∧ rc.length = i ∧ Hid (cont rc = cont (r.take i)) ∧ Below W.heap.size W X) (fun iv _ => r.length - (intOf iv).toNat)
  case atStart => exact ⟨0, _, _, [], by omega, rfl, n1, rfl, by unfold Hid; simp [cont], hb1'⟩
  case round =>
    clear n1 hb1 hb1'
    obtain ⟨i, Ac, vpc, rc, hi, rfl, hC, hrc, hcon, hX⟩ := hrel
    have hrcl : rc.length ≤ 100000 := by omega
    have hrc' : Hid (rc.length = i) := hrc
    clear hrc
    by_cases hlt : i < r.length
    · have hlt' : (i : Int) < (r.length : Int) := by omega
      obtain ⟨g, cap, ev, hg, -, d0, d1, -⟩ := pair_at h.pairs (List.getElem?_eq_getElem hlt)
      simp at ev
      obtain ⟨rfl, rfl⟩ := ev
      have p0 := (hX.cell (p := ⟨g, i * 2, none⟩) hg).trans d0
      have p1 := (hX.cell (p := ⟨g, i * 2 + 1, none⟩) hg).trans d1
      have hrx := h.recs r[i] (List.getElem_mem hlt)
      have hcon2 : Hid (∀ kv vv, cont (rc ++ [⟨kv, vv, r[i].k, r[i].v⟩]) = cont (r.take (i + 1))) := fun kv vv => by
        rw [List.take_succ_eq_append_getElem hlt, cont_app, cont_app, hcon.out]; rfl
      obtain ⟨x1, y1, ek1, -⟩ := hrx.1.src.parts
      obtain ⟨x2, y2, ek2, -⟩ := hrx.2.src.parts
      rw [ek1] at p0
      rw [ek2] at p1
      have s1 : Src W (.slice x1 r[i].k.length y1) r[i].k := ek1 ▸ hrx.1.src
      have s2 : Src W (.slice x2 r[i].v.length y2) r[i].v := ek2 ▸ hrx.2.src
      obtain ⟨-, hkb, hkl⟩ := hrx.1
      obtain ⟨-, hvb, hvl⟩ := hrx.2
      clear ek1 ek2 d0 d1 hcon
      generalize r[i].k = k at *
      generalize r[i].v = v at *
      generalize r[i].kv = kv0 at *
      generalize r[i].vv = vv0 at *
      obtain ⟨ac, cc, rfl⟩ := row_slice hC.pairs
      have hbx : Below wr.heap.size wr (wr.alloc (.cells #[.slice x1 k.length y1, .slice x2 v.length y2] 62)) := ba (Below.refl _ _) _
      have hpb : (wr.alloc (.cells #[.slice x1 k.length y1, .slice x2 v.length y2] 62)).heap[wr.heap.size]? = some (.cells #[.slice x1 k.length y1, .slice x2 v.length y2] 62 (0, 0)) := al_at rfl
      have hsz : (wr.alloc (.cells #[.slice x1 k.length y1, .slice x2 v.length y2] 62)).heap.size = wr.heap.size + 1 := by simp
      obtain ⟨P, hP⟩ : ∃ P, P = wr.alloc (.cells #[.slice x1 k.length y1, .slice x2 v.length y2] 62) := ⟨_, rfl⟩
      rw [← hP] at hbx hpb hsz
      have hCP := hC.below hbx
      have hcP : c0 < P.heap.size := (hCP.foot c0 hCP.a0).2
      have hWP : Below W.heap.size W P := bt hX hbx
      have hkeep : Hid (∀ X, Below P.heap.size P X → X.cell? ⟨c0, 0, none⟩ = some (.slice ac rc.length cc) ∧ X.cell? ⟨wr.heap.size, 0, none⟩ = some (.slice x1 k.length y1) ∧ X.cell? ⟨wr.heap.size, 1, none⟩ = some (.slice x2 v.length y2)) := fun X hX => by
        obtain ⟨q, -⟩ := cells_of_block ((hX.block c0 hcP).trans hCP.blk)
        obtain ⟨q', -⟩ := cells_of_block ((hX.block wr.heap.size (by omega)).trans hpb)
        exact ⟨q 0, q' 0, q' 1⟩
      have hOk : Hid (∀ X, Below P.heap.size P X → Calls Try.prog 37 #[.slice x1 k.length y1] X fun e w' => ∃ g, e = .returned (.slice (some ⟨g, 0, none⟩) k.length k.length) ∧ Own w' g (.slice (some ⟨g, 0, none⟩) k.length k.length) k ∧ P.heap.size ≤ g ∧ Below X.heap.size X w') := fun X hX => by
        refine (own_any hkl (s1.kept (grown_none (bt hWP hX)))).mono ?_
        rintro e w' ⟨u, rfl, ho, hb⟩
        obtain rfl := ho.1
        exact ⟨_, rfl, ho, hX.size, hb⟩
      have hOv : Hid (∀ X, Below P.heap.size P X → Calls Try.prog 37 #[.slice x2 v.length y2] X fun e w' => ∃ g, e = .returned (.slice (some ⟨g, 0, none⟩) v.length v.length) ∧ Own w' g (.slice (some ⟨g, 0, none⟩) v.length v.length) v ∧ P.heap.size ≤ g ∧ Below X.heap.size X w') := fun X hX => by
        refine (own_any hvl (s2.kept (grown_none (bt hWP hX)))).mono ?_
        rintro e w' ⟨u, rfl, ho, hb⟩
        obtain rfl := ho.1
        exact ⟨_, rfl, ho, hX.size, hb⟩
      have hmk : Hid (∀ (Y Z : World) (gk gv : Nat), Below P.heap.size P Y → Below Y.heap.size Y Z → Own Y gk (.slice (some ⟨gk, 0, none⟩) k.length k.length) k → Own Z gv (.slice (some ⟨gv, 0, none⟩) v.length v.length) v → P.heap.size ≤ gk → P.heap.size ≤ gv → CJ P Z c0 Ac (.slice ac rc.length cc) rc (.slice (some ⟨gk, 0, none⟩) k.length k.length) (.slice (some ⟨gv, 0, none⟩) v.length v.length) k v gk gv) := fun Y Z gk gv hY hZ o1 o2 l1 l2 => ⟨hCP.below (bt hY hZ), o1.kept (hZ.block gk o1.lt), o2, l1, l2⟩
      have hD : Below P.heap.size P P.drew := bd (Below.refl _ _)
      obtain ⟨t0, t1, t2⟩ := hkeep.out _ hD
      go_wp2
      rw [← hP]
      have hP' : Hid _ := hP
      clear hP hrx p0 p1 s1 s2
      go_region_law (first
        | (rw [if_pos (by rfl)]; refine CJ.app hCJ hrcl _ _ rfl rfl rfl ?_; intro a5 c5 w5 hT5 hc5; obtain ⟨e0, ef⟩ := cells_of_block hc5)
        | (go_simp; go_at_call 37; with_reducible refine (hOk.out _ (by assumption)).mono ?_; rintro e w1 ⟨gk, rfl, ok1, lk1, hb1⟩; have hB1 := bt (by assumption) hb1; obtain ⟨q0, q1, q2⟩ := hkeep.out _ hB1)
        | (go_simp; go_at_call 37; with_reducible refine (hOv.out _ (by assumption)).mono ?_; rintro e w2 ⟨gv, rfl, ov2, lv2, hb2⟩; have hB2 := bt (by assumption) hb2; obtain ⟨q0, q1, q2⟩ := hkeep.out _ hB2; have hCJ := hmk.out _ _ _ _ hB1 hb2 ok1 ov2 lk1 lv2; have q3 := (hkeep.out _ (ba hB2 (.cells #[.slice (some ⟨gk, 0, none⟩) k.length k.length, .slice (some ⟨gv, 0, none⟩) v.length v.length] 62))).1))
      all_goals
        go_wp2
        go_roundw
        case rel =>
          obtain ⟨A5, hC5, hB5⟩ := hCJ.fin (Nat.le_of_lt hcP) hkb hvb hkl hvl hT5
          exact ⟨i + 1, A5, _, _, by omega, by go_num, hC5, by simp [hrc'.out], by unfold Hid; exact hcon2.out _ _, (bt hWP hB2).trans (hB5.mono (Nat.le_of_eq hc0'.out.symm))⟩
        case measure => (simp [intOf]; omega)
    · obtain rfl : i = r.length := by omega
      go_wp2
      go_ret
      rw [List.take_length] at hcon
      exact ⟨rfl, _, _, rc, hC, hcon.out, by rw [hc0'.out]; exact hX⟩
theorem stdCopy {W : World} {s base : Nat} {A : Nat → Prop} {L : List (List Int × List Int)} {ds : List (List (List Int × List Int))} {n : Nat} (h : StD W s base A L ds n) (hn : n ≤ 1000) :
    Calls Try.prog 17 #[.pointer (some ⟨s, 0, none⟩)] W fun e w' => e = .returned (.pointer (some ⟨W.heap.size, 0, none⟩)) ∧ ∃ A', StD w' W.heap.size W.heap.size A' L [] n ∧ Below W.heap.size W w' := by
  have hS := h.srt
  obtain ⟨vp, vj, vb, r, j, b, h1, h2, h3, h4, h5, -⟩ := h
  subst h3
  have hcl := cont_len r
  refine (copy_any h1 (by omega)).mono ?_
  rintro e w' ⟨rfl, A', vp', r', g1, g2, g3⟩
  exact ⟨rfl, A', ⟨vp', _, _, r', [], [], g1, cont_srt (g2 ▸ hS), g2, Jr.start _, by omega, by simp, by simp, by simp⟩, g3⟩
end Go.Proofs.Ythajolagpnakkaa
