
/- The reference's store: Get. -/
import Derived.Test.YthajolagpnakkaaO18
set_option linter.unusedSimpArgs false
set_option linter.unusedVariables false
namespace Go.Proofs.Ythajolagpnakkaa
open Go.RowKit

theorem getS_first {l : List Rec} {key : List Int} {i : Nat} {y : Rec} (hi : l[i]? = some y) (hk : y.k = key) (hne : ∀ z ∈ l.take i, z.k ≠ key) : getS (cont l) key = some y.v := by
  obtain ⟨hlt, rfl⟩ := List.getElem?_eq_some_iff.1 hi
  have e : l = l.take i ++ l[i] :: l.drop (i + 1) := by rw [← List.drop_eq_getElem_cons hlt, List.take_append_drop]
  have h1 : (cont (l.take i)).find? (fun x => decide (cmpB x.1 key = 0)) = none := by
    rw [List.find?_eq_none]
    intro z hz
    simp only [cont, List.mem_map] at hz
    obtain ⟨q, hq, rfl⟩ := hz
    simp only [decide_eq_true_eq]
    exact fun e => hne q hq (cmp_eq0 _ _ e)
  have h2 : cmpB l[i].k key = 0 := by rw [hk]; exact cmp_self _
  have e2 : cont l = cont (l.take i) ++ (l[i].k, l[i].v) :: cont (l.drop (i + 1)) := (congrArg cont e).trans (by rw [cont_app, cont_cons])
  unfold getS
  rw [e2, List.find?_append, h1]
  simp [h2]
theorem getS_none {l : List Rec} {key : List Int} (hne : ∀ z ∈ l, z.k ≠ key) : getS (cont l) key = none := by
  unfold getS
  rw [Option.map_eq_none_iff, List.find?_eq_none]
  intro z hz
  simp only [cont, List.mem_map] at hz
  obtain ⟨q, hq, rfl⟩ := hz
  simp only [decide_eq_true_eq]
  exact fun e => hne q hq (cmp_eq0 _ _ e)
set_option maxRecDepth 10000 in
set_option maxHeartbeats 4000000 in
theorem refGet_any {W : World} {m base : Nat} {B C : Nat → Prop} {vl vw u : Value} {ws : List Value} {l : List Rec} {was : List (List Rec)} {key : List Int} (h : RS W m base B C vl vw ws l was) (hn : l.length ≤ 10000) (hu : IsBytes W u key) :
    Calls Try.prog 29 #[.pointer (some ⟨m, 0, none⟩), u] W fun e w' => Below W.heap.size W w' ∧ ((∃ y ∈ l, y.k = key ∧ getS (cont l) key = some y.v ∧ e = .returned (.tuple #[y.vv, .bool true])) ∨ (getS (cont l) key = none ∧ e = .returned (.tuple #[.slice none 0 0, .bool false]))) := by
  obtain ⟨al, cl, rfl⟩ := row_slice h.cur.row
  obtain ⟨au, cu, rfl⟩ := hu.slice
  have hml := (h.foot m h.bm).2
  have hblk := h.blk
  have hn' : (l.length : Int) ≤ 10000 := by omega
  have hl := h.cur.row
  go_enter Try.func29, Try.ntmps29
  go_wp2
  go_loopw [6] (fun iv X => ∃ (i : Nat), i ≤ l.length ∧ iv = .int .i64 (i : Int) ∧ Below W.heap.size W X ∧ Hid (∀ z ∈ l.take i, z.k ≠ key)) (fun iv _ => l.length - (intOf iv).toNat)
  case atStart => exact ⟨0, by omega, rfl, Below.refl _ _, by unfold Hid; simp⟩
  case round =>
    obtain ⟨i, hi, rfl, hX, hne⟩ := hrel
    have hmX := (hX.block m hml).trans hblk
    obtain ⟨cm, fm⟩ := cells_of_block hmX
    by_cases hlt : i < l.length
    · obtain ⟨g, cap, ev, hgl, c0, c1⟩ := rpair_at hl (List.getElem?_eq_getElem hlt)
      simp at ev
      obtain ⟨rfl, rfl⟩ := ev
      have hy := (h.cur.all l[i] (List.getElem_mem hlt)).1
      have p0 := (hX.cell (p := ⟨g, i * 2, none⟩) hgl).trans c0
      have hkeep : Hid (∀ X, Below W.heap.size W X → X.cell? ⟨g, i * 2 + 1, none⟩ = some l[i].vv ∧ X.heap[m]? = some (.cells #[.slice (some ⟨g, 0, none⟩) l.length cl, vw] 31 (0, 0))) := fun X hX => ⟨(hX.cell (p := ⟨g, i * 2 + 1, none⟩) hgl).trans c1, (hX.block m hml).trans hblk⟩
      have hlt' : (i : Int) < (l.length : Int) := by omega
      have hyes : Hid (l[i].k = key → (∃ y ∈ l, y.k = key ∧ getS (cont l) key = some y.v ∧ l[i].vv = y.vv)) := fun e => ⟨l[i], List.getElem_mem hlt, e, getS_first (List.getElem?_eq_getElem hlt) e hne.out, rfl⟩
      have hno : Hid (l[i].k ≠ key → ∀ z ∈ l.take (i + 1), z.k ≠ key) := fun e z hz => by
        rw [List.take_succ_eq_append_getElem hlt, List.mem_append] at hz
        rcases hz with hz | hz
        · exact hne.out z hz
        · rw [List.mem_singleton] at hz; rw [hz]; exact e
      generalize l[i] = y at *
      clear c0 c1
      obtain ⟨ykv, yvv, yk, yv⟩ := y
      obtain ⟨ay, cy, eky⟩ := hy.k.slice
      obtain ⟨yb, dy, evy⟩ := hy.v.slice
      simp only at eky evy
      subst eky evy
      have hSm : Hid (∀ X, Below W.heap.size W X → Calls Try.prog 25 #[.slice ay yk.length cy, .slice au key.length cu] X fun e w' => e = .returned (.bool (decide (yk = key))) ∧ Below X.heap.size X w') := fun X hX => same_any X (hy.k.below hX) (hu.below hX)
      by_cases he : yk = key
      · have hfin : Hid (∃ y ∈ l, y.k = key ∧ getS (cont l) key = some y.v ∧ (.slice yb yv.length dy : Value) = y.vv) := hyes.out he
        have hd : decide (yk = key) = true := by simpa using he
        clear hyes hno hne he
        go_wp2_with (go_at_call 25; refine (hSm.out _ (by assumption)).mono ?_; rintro e w3 ⟨rfl, hb3⟩; have hB3 := bt hX hb3; obtain ⟨q1, qm⟩ := hkeep.out _ hB3; obtain ⟨cmq, fmq⟩ := cells_of_block qm)
        all_goals go_ret2
        all_goals
          obtain ⟨y, k1, k2, k3, k4⟩ := hfin.out
          exact ⟨hB3, .inl ⟨y, k1, k2, k3, by rw [← k4]; rfl⟩⟩
      · have hfin : Hid (∀ z ∈ l.take (i + 1), z.k ≠ key) := hno.out he
        have hd : decide (yk = key) = false := by simpa using he
        clear hyes hno hne he
        go_wp2_with (go_at_call 25; refine (hSm.out _ (by assumption)).mono ?_; rintro e w3 ⟨rfl, hb3⟩; have hB3 := bt hX hb3; obtain ⟨q1, qm⟩ := hkeep.out _ hB3; obtain ⟨cmq, fmq⟩ := cells_of_block qm)
        all_goals go_roundw
        case rel => exact ⟨i + 1, by omega, by go_num, hB3, hfin⟩
        case measure => (simp [intOf]; omega)
    · obtain rfl : i = l.length := by omega
      rw [List.take_length] at hne
      go_wp2
      go_ret2
      exact ⟨hX, .inr ⟨getS_none hne.out, rfl⟩⟩
end Go.Proofs.Ythajolagpnakkaa
