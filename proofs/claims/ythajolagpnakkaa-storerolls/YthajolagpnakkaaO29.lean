
/- store.Same: are two stores alike? -/
import Derived.Test.YthajolagpnakkaaO27
set_option linter.unusedSimpArgs false
set_option linter.unusedVariables false
namespace Go.Proofs.Ythajolagpnakkaa
open Go.RowKit

set_option maxHeartbeats 4000000 in
theorem same1_any {W : World} {kv vv kv2 vv2 : Value} {k v k2 v2 : List Int} (h1 : Src W kv k) (h2 : Src W vv v) (h3 : Src W kv2 k2) (h4 : Src W vv2 v2) (b1 : Byte k) (b2 : Byte v) (b3 : Byte k2) (b4 : Byte v2) :
    Calls Try.prog 42 #[.agg #[kv, vv], .agg #[kv2, vv2]] W fun e w' => e = .returned (.bool (decide (k = k2) && decide (v = v2))) ∧ Below W.heap.size W w' := by
  obtain ⟨a1, c1, rfl, -⟩ := h1.parts
  obtain ⟨a2, c2, rfl, -⟩ := h2.parts
  obtain ⟨a3, c3, rfl, -⟩ := h3.parts
  obtain ⟨a4, c4, rfl, -⟩ := h4.parts
  have hg := (World.grownBy_alloc W (.cells #[.slice a1 k.length c1, .slice a2 v.length c2] 62) none)
  have hg2 := grown_al hg (.cells #[.slice a3 k2.length c3, .slice a4 v2.length c4] 62)
  have hA := bequal_any (h1.kept hg2) (h3.kept hg2) b1 b3
  have hB := bequal_any (h2.kept hg2) (h4.kept hg2) b2 b4
  by_cases hk : k = k2
  · have hd : decide (k = k2) = true := decide_eq_true hk
    rw [hd] at hA ⊢
    clear hk
    go_enter Try.func42, Try.ntmps42
    go_wp2_with (first
      | (go_at_call 43; with_reducible refine hA.mono ?_; rintro e w1 ⟨rfl, hw⟩; obtain rfl := hw.symm)
      | (go_at_call 43; with_reducible refine hB.mono ?_; rintro e w2 ⟨rfl, hw⟩; obtain rfl := hw.symm))
    go_ret
    exact ⟨by simp, ba (ba (Below.refl _ _) _) _⟩
  · have hd : decide (k = k2) = false := decide_eq_false hk
    rw [hd] at hA ⊢
    clear hk
    go_enter Try.func42, Try.ntmps42
    go_wp2_with (go_at_call 43; with_reducible refine hA.mono ?_; rintro e w1 ⟨rfl, hw⟩; obtain rfl := hw.symm)
    go_ret
    exact ⟨by simp, ba (ba (Below.refl _ _) _) _⟩
set_option maxRecDepth 10000 in
set_option maxHeartbeats 8000000 in
theorem equalF_any {W : World} {base base2 : Nat} {A B : Nat → Prop} {vp vq : Value} {r q : List Rec} (h1 : W.ownsRow base 62 2 vp r.length (cellsR r)) (h2 : W.ownsRow base2 62 2 vq q.length (cellsR q)) (g1 : ∀ x ∈ r, RecAt W A x) (g2 : ∀ x ∈ q, RecAt W B x) (hn : r.length ≤ 1000000) (hq : q.length ≤ 1000000) :
    Calls Try.prog 40 #[vp, vq, .func (.func 42) #[] #[]] W fun e w' => e = .returned (.bool (decide (cont r = cont q))) ∧ Below W.heap.size W w' := by
  obtain ⟨ap, cp, rfl⟩ := row_slice h1
  obtain ⟨aq, cq, rfl⟩ := row_slice h2
  by_cases hl : r.length = q.length
  · have hl' : Hid (r.length = q.length) := hl
    obtain ⟨N, hN⟩ : ∃ N, q.length = N := ⟨_, rfl⟩
    have hNr : r.length = N := hl.trans hN
    rw [hNr, hN]
    have hN' : (N : Int) ≤ 1000000 := by omega
    go_enter Try.func40, Try.ntmps40
    go_wp2
    go_loopw [17] (fun iv X => ∃ (i : Nat), i ≤ N ∧ iv = .int .i64 (i : Int) ∧ Hid (cont (r.take i) = cont (q.take i)) ∧ Below W.heap.size W X) (fun iv _ => N - (intOf iv).toNat)
    case atStart => exact ⟨0, by omega, rfl, by unfold Hid; simp, Below.refl _ _⟩
    case round =>
      obtain ⟨i, hi, rfl, hpre, hX⟩ := hrel
      by_cases hlt : i < N
      · have hlt' : (i : Int) < (N : Int) := by omega
        have hir : i < r.length := by omega
        have hiq : i < q.length := by omega
        obtain ⟨ga, ca, ev, hga, -, a0, a1, -⟩ := pair_at h1 (List.getElem?_eq_getElem hir)
        simp at ev
        obtain ⟨rfl, rfl⟩ := ev
        obtain ⟨gb, cb, ev, hgb, -, b0, b1, -⟩ := pair_at h2 (List.getElem?_eq_getElem hiq)
        simp at ev
        obtain ⟨rfl, rfl⟩ := ev
        have d0 := (hX.cell (p := ⟨ga, i * 2, none⟩) hga).trans a0
        have d1 := (hX.cell (p := ⟨ga, i * 2 + 1, none⟩) hga).trans a1
        have hkeep : Hid (∀ X, Below W.heap.size W X → X.cell? ⟨gb, i * 2, none⟩ = some q[i].kv ∧ X.cell? ⟨gb, i * 2 + 1, none⟩ = some q[i].vv) := fun X hX => ⟨(hX.cell (p := ⟨gb, i * 2, none⟩) hgb).trans b0, (hX.cell (p := ⟨gb, i * 2 + 1, none⟩) hgb).trans b1⟩
        obtain ⟨e0, e1⟩ := hkeep.out _ hX
        have hx := g1 r[i] (List.getElem_mem hir)
        have hy := g2 q[i] (List.getElem_mem hiq)
        have hC : Hid (∀ X, Below W.heap.size W X → Calls Try.prog 42 #[.agg #[r[i].kv, r[i].vv], .agg #[q[i].kv, q[i].vv]] X fun e w' => e = .returned (.bool (decide (r[i].k = q[i].k) && decide (r[i].v = q[i].v))) ∧ Below X.heap.size X w') := fun X hX => same1_any (hx.1.src.kept (grown_none hX)) (hx.2.src.kept (grown_none hX)) (hy.1.src.kept (grown_none hX)) (hy.2.src.kept (grown_none hX)) hx.1.2.1 hx.2.2.1 hy.1.2.1 hy.2.2.1
        have hyes : Hid ((decide (r[i].k = q[i].k) && decide (r[i].v = q[i].v)) = true → cont (r.take (i + 1)) = cont (q.take (i + 1))) := fun e => by
          simp at e
          rw [List.take_succ_eq_append_getElem hir, List.take_succ_eq_append_getElem hiq, cont_app, cont_app, hpre.out]
          simp [cont, e]
        have hno : Hid ((decide (r[i].k = q[i].k) && decide (r[i].v = q[i].v)) = false → decide (cont r = cont q) = false) := fun e => by
          refine decide_eq_false (fun h => ?_)
          have e2 : (cont r)[i]? = (cont q)[i]? := by rw [h]
          simp [cont, List.getElem?_eq_getElem hir, List.getElem?_eq_getElem hiq] at e2
          simp [e2] at e
        generalize hbb : (decide (r[i].k = q[i].k) && decide (r[i].v = q[i].v)) = bb at *
        obtain ⟨x1, y1, ek1, -⟩ := hx.1.src.parts
        obtain ⟨x2, y2, ek2, -⟩ := hx.2.src.parts
        obtain ⟨x3, y3, ek3, -⟩ := hy.1.src.parts
        obtain ⟨x4, y4, ek4, -⟩ := hy.2.src.parts
        rw [ek1] at d0 hC
        rw [ek2] at d1 hC
        rw [ek3] at e0 hC
        rw [ek4] at e1 hC
        have hgb2 : gb < wr.heap.size := Nat.lt_of_lt_of_le hgb hX.size
        obtain ⟨f0, f1⟩ := hkeep.out _ (ba hX (.cells #[.slice x1 r[i].k.length y1, .slice x2 r[i].v.length y2] 62))
        rw [ek3] at f0
        rw [ek4] at f1
        have hgb3 : ¬ gb = wr.heap.size := by omega
        clear hkeep a0 a1 b0 b1 hx hy ek1 ek2 ek3 ek4 hpre hbb
        cases bb
        · have hno' : Hid (decide (cont r = cont q) = false) := hno.out rfl
          clear hyes hno
          go_wp2_with (go_at_call 42; refine (hC.out _ (ba (ba hX _) _)).mono ?_; rintro e w3 ⟨rfl, hb3⟩)
          go_ret
          exact ⟨congrArg (fun b => Ending.returned (.bool b)) hno'.out.symm, bt (ba (ba hX _) _) hb3⟩
        · have hyes' : Hid (cont (r.take (i + 1)) = cont (q.take (i + 1))) := hyes.out rfl
          clear hyes hno
          go_wp2_with (go_at_call 42; refine (hC.out _ (ba (ba hX _) _)).mono ?_; rintro e w3 ⟨rfl, hb3⟩)
          all_goals go_roundw
          case rel => exact ⟨i + 1, by omega, by go_num, hyes', bt (ba (ba hX _) _) hb3⟩
          case measure => (simp [intOf]; omega)
      · obtain rfl : i = N := by omega
        have e := hpre.out
        rw [List.take_of_length_le (by omega), List.take_of_length_le (by omega)] at e
        have hE : Hid (decide (cont r = cont q) = true) := decide_eq_true e
        clear e hpre
        go_wp2
        go_ret
        exact ⟨congrArg (fun b => Ending.returned (.bool b)) hE.out.symm, hX⟩
  · have hd : decide (cont r = cont q) = false := decide_eq_false (fun e => hl (by have := congrArg List.length e; simpa [cont] using this))
    rw [hd]
    have hl' : ¬ (r.length : Int) = (q.length : Int) := by omega
    have hl2 : ((r.length : Int) != (q.length : Int)) = true := by simpa using hl'
    clear hd
    go_enter Try.func40, Try.ntmps40
    go_wp2
    go_ret
    exact ⟨rfl, Below.refl _ _⟩
set_option maxHeartbeats 4000000 in
theorem stdSame {W : World} {s t base base2 : Nat} {A B : Nat → Prop} {L M : List (List Int × List Int)} {ds es : List (List (List Int × List Int))} {n m : Nat} (h : StD W s base A L ds n) (k : StD W t base2 B M es m) (hn : n ≤ 1000) (hm : m ≤ 1000) :
    Calls Try.prog 22 #[.pointer (some ⟨s, 0, none⟩), .pointer (some ⟨t, 0, none⟩)] W fun e w' => e = .returned (.bool (decide (L = M))) ∧ Below W.heap.size W w' := by
  obtain ⟨vp, vj, vb, r, j, b, h1, h2, h3, h4, h5, -⟩ := h
  obtain ⟨vp2, vj2, vb2, q, j2, b2, k1, k2, k3, k4, k5, -⟩ := k
  have hA := all_any h1
  have hB := all_any k1
  have hcr := cont_len r
  have hcq := cont_len q
  have hE := equalF_any h1.pairs k1.pairs h1.recs k1.recs (by rw [← hcr, h3]; omega) (by rw [← hcq, k3]; omega)
  rw [h3, k3] at hE
  obtain ⟨av, cv, rfl⟩ := row_slice h1.pairs
  obtain ⟨aw, cw, rfl⟩ := row_slice k1.pairs
  go_enter Try.func22, Try.ntmps22
  go_wp2_with (first
    | (go_at_call 41; with_reducible refine hA.mono ?_; rintro e w1 ⟨rfl, hw⟩; obtain rfl := hw.symm)
    | (go_at_call 41; with_reducible refine hB.mono ?_; rintro e w2 ⟨rfl, hw⟩; obtain rfl := hw.symm)
    | (go_at_call 40; refine hE.mono ?_; rintro e w3 ⟨rfl, hb3⟩))
  go_ret
  exact ⟨rfl, hb3⟩
end Go.Proofs.Ythajolagpnakkaa
