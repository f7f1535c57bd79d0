
/- The reference's Keys; what both say of the keys that begin so. -/
import Derived.Test.YthajolagpnakkaaO25
set_option linter.unusedSimpArgs false
set_option linter.unusedVariables false
namespace Go.Proofs.Ythajolagpnakkaa
open Go.RowKit

theorem isb_take {W : World} {a : Option Addr} {k : Nat} {c : Nat} {q : List Int} (h : IsBytes W (.slice a q.length c) q) (hk : k ≤ q.length) : IsBytes W (.slice a k c) (q.take k) := by
  rcases h with ⟨rfl, -⟩ | ⟨blk, off, cap, e, h1, h2, h3⟩
  · simp at hk; subst hk; exact .inl ⟨by simp, _, _, rfl⟩
  · simp at e
    obtain ⟨rfl, rfl⟩ := e
    have hl : (q.take k).length = k := by rw [List.length_take]; omega
    refine .inr ⟨blk, off, c, by rw [hl], by omega, h2, fun i x hi => h3 i x ?_⟩
    have hik : i < k := by have := (List.getElem?_eq_some_iff.1 hi).1; omega
    rwa [List.getElem?_take_of_lt hik] at hi
set_option maxRecDepth 10000 in
set_option maxHeartbeats 8000000 in
theorem refKeys_any {W : World} {m base : Nat} {B C : Nat → Prop} {vl vw u : Value} {ws : List Value} {l : List Rec} {was : List (List Rec)} {p : List Int} (h : RS W m base B C vl vw ws l was) (hn : l.length ≤ 10000) (hu : IsBytes W u p) (hpl : p.length ≤ 1048576) :
    Calls Try.prog 24 #[.pointer (some ⟨m, 0, none⟩), u] W fun e w' => ∃ v, e = .returned v ∧ w'.ownsRow W.heap.size 33 1 v (l.filter (fun x => begs x.k p)).length ((l.filter (fun x => begs x.k p)).map (·.kv)) ∧ Below W.heap.size W w' := by
  obtain ⟨i0, hi0, hz0, hz1, hz2⟩ := bs_info |> info_parts
  obtain ⟨al, cl, rfl⟩ := row_slice h.cur.row
  obtain ⟨au, cu, rfl⟩ := hu.slice
  have hml := (h.foot m h.bm).2
  have hblk := h.blk
  have hn' : (l.length : Int) ≤ 10000 := by omega
  have hl := h.cur.row
  go_enter Try.func24, Try.ntmps24
  go_wp2
  go_loopw [5, 6] (fun ov iv X => ∃ (i : Nat) (ks : List Rec), i ≤ l.length ∧ iv = .int .i64 (i : Int) ∧ X.ownsRow W.heap.size 33 1 ov ks.length (ks.map (·.kv)) ∧ ks.length ≤ i ∧ Hid (ks = (l.take i).filter (fun x => begs x.k p)) ∧ Below W.heap.size W X) (fun _ iv _ => l.length - (intOf iv).toNat)
  case atStart => exact ⟨0, [], by omega, rfl, World.ownsRow_nil _ _ _ _, by simp, by unfold Hid; simp, Below.refl _ _⟩
  case round =>
    obtain ⟨i, ks, hi, rfl, hrow, hkl, hks, hX⟩ := hrel
    have hmX := (hX.block m hml).trans hblk
    obtain ⟨cm, fm⟩ := cells_of_block hmX
    obtain ⟨ao, co, rfl⟩ := row_slice hrow
    by_cases hlt : i < l.length
    · obtain ⟨g, cap, ev, hgl, c0, c1⟩ := rpair_at hl (List.getElem?_eq_getElem hlt)
      simp at ev
      obtain ⟨rfl, rfl⟩ := ev
      have hy := (h.cur.all l[i] (List.getElem_mem hlt)).1
      have p0 := (hX.cell (p := ⟨g, i * 2, none⟩) hgl).trans c0
      have hlt' : (i : Int) < (l.length : Int) := by omega
      have hT : Hid ((l.take (i + 1)).filter (fun x => begs x.k p) = ks ++ if begs l[i].k p then [l[i]] else []) := by
        unfold Hid
        rw [List.take_succ_eq_append_getElem hlt, List.filter_append, hks.out]
        congr 1
        cases hb : begs l[i].k p <;> simp [hb]
      generalize hyy : l[i] = y at *
      clear c0 c1 hks
      obtain ⟨ykv, yvv, yk, yv⟩ := y
      obtain ⟨ay, cy, eky⟩ := hy.k.slice
      have hcap := hy.kc
      simp only at eky hT hcap
      subst eky
      have hcy : yk.length ≤ cy := hcap _ _ _ rfl
      have hykl := hy.kl
      simp only at hykl
      have hcy' : (yk.length : Int) ≤ (cy : Int) := by omega
      have hsz := hX.size
      clear hcap
      by_cases hle : p.length ≤ yk.length
      · have hle' : (p.length : Int) ≤ (yk.length : Int) := by omega
        have hle2 : (p.length : Int) ≤ (cy : Int) := by omega
        have hS := same_any wr (isb_take (hy.k.below hX) hle) (hu.below hX)
        by_cases he : yk.take p.length = p
        · have hb : begs yk p = true := by simp [begs, hle, he]
          rw [decide_eq_true he] at hS
          rw [hb, if_pos rfl] at hT
          clear he hb
          go_wp2_with (first
            | (go_at_call 25; refine hS.mono ?_; clear hS; rintro e w3 ⟨rfl, hb3⟩; have hB3 := bt hX hb3; have hr3 := none_row hrow (grown_none hb3); have hz3 := hB3.size)
            | (at_builtin; refine wpList_append_own_at _ rfl _ _ 41 rfl W.heap.size 33 i0 _ 1 24 Try.underlying41 hi0 hz0 hz1 hz2 rfl (by decide) _ ks.length (ks.map (·.kv)) rfl (none_row hr3 (World.grownBy_alloc w3 _ none)) ⟨w3.heap.size, 0, none⟩ 1 1 [.slice ay yk.length cy] rfl rfl (fun j u hj => by rw [add_cell, (cells_of_block (World.alloc_heap_new w3 _)).1]; simpa using hj) (by simp [Value.oneCell']) (by unfold maxLen; omega) (by omega) (by simp; omega) ?_; intro v5 w5 hown5 hgr5 _ hat5))
          all_goals go_roundw
          case rel =>
            refine ⟨i + 1, ks ++ [⟨.slice ay yk.length cy, yvv, yk, yv⟩], by omega, by go_num, by rw [List.length_append, List.map_append]; exact hown5, by simp; omega, by unfold Hid; exact hT.out.symm, ?_⟩
            exact (hB3.grown (World.grownBy_alloc w3 _ none) hB3.size (by simp)).grown hgr5 (Nat.le_trans hB3.size (World.grownBy_alloc w3 _ none).size) (fun n hn => (hr3.lt n hn).1)
          case measure => (simp [intOf]; omega)
        · have hb : begs yk p = false := by simp [begs, he]
          rw [decide_eq_false he] at hS
          rw [hb, if_neg (by simp), List.append_nil] at hT
          clear he hb
          go_wp2_with (go_at_call 25; refine hS.mono ?_; clear hS; rintro e w3 ⟨rfl, hb3⟩; have hB3 := bt hX hb3; have hr3 := none_row hrow (grown_none hb3))
          all_goals go_roundw
          case rel => exact ⟨i + 1, ks, by omega, by go_num, hr3, by omega, by unfold Hid; exact hT.out.symm, hB3⟩
          case measure => (simp [intOf]; omega)
      · have hle' : ¬ (p.length : Int) ≤ (yk.length : Int) := by omega
        have hb : begs yk p = false := by simp [begs]; omega
        rw [hb, if_neg (by simp), List.append_nil] at hT
        clear hb
        go_wp2
        all_goals go_roundw
        case rel => exact ⟨i + 1, ks, by omega, by go_num, hrow, by omega, by unfold Hid; exact hT.out.symm, hX⟩
        case measure => (simp [intOf]; omega)
    · obtain rfl : i = l.length := by omega
      go_wp2
      go_ret
      have e := hks.out
      rw [List.take_length] at e
      rw [← e]
      exact ⟨_, rfl, hrow, hX⟩

theorem begs_cons (a b : Int) (x p : List Int) : begs (a :: x) (b :: p) = (decide (a = b) && begs x p) := by
  by_cases h1 : a = b
  · subst h1; simp [begs]
  · simp [begs, h1]
theorem begs_ge : ∀ (p k : List Int), begs k p = true → 0 ≤ cmpB k p
  | [], [], _ => by simp [cmpB]
  | [], _ :: _, _ => by simp [cmpB]
  | b :: p, [], h => by simp [begs] at h
  | b :: p, a :: k, h => by
    rw [begs_cons] at h
    simp at h
    obtain ⟨rfl, h⟩ := h
    have := begs_ge p k h
    simp [cmpB, this]
theorem begs_past : ∀ (p x y : List Int), 0 ≤ cmpB x p → begs x p = false → cmpB x y < 0 → begs y p = false
  | [], x, y, _, h, _ => by simp [begs] at h
  | b :: p, [], y, h, _, _ => by simp [cmpB] at h
  | b :: p, a :: x, [], _, _, h => by simp [cmpB] at h
  | b :: p, a :: x, c :: y, h1, h2, h3 => by
    rw [begs_cons] at h2 ⊢
    simp only [cmpB] at h1 h3
    by_cases hab : a < b
    · rw [if_pos hab] at h1; omega
    · by_cases hba : b < a
      · by_cases hac : a < c
        · simp [show ¬ c = b by omega]
        · by_cases hca : c < a
          · rw [if_neg hac, if_pos hca] at h3; omega
          · simp [show ¬ c = b by omega]
      · obtain rfl : a = b := by omega
        rw [if_neg hab, if_neg hba] at h1
        simp at h2
        by_cases hac : a < c
        · simp [show ¬ c = a by omega]
        · by_cases hca : c < a
          · rw [if_neg hac, if_pos hca] at h3; omega
          · obtain rfl : a = c := by omega
            rw [if_neg hac, if_neg hca] at h3
            simp [begs_past p x y h1 h2 h3]
theorem run_filter {p : List Int} : ∀ r : List Rec, Srt r → (∀ x ∈ r, 0 ≤ cmpB x.k p) → r.takeWhile (fun x => begs x.k p) = r.filter (fun x => begs x.k p)
  | [], _, _ => rfl
  | x :: r, hs, h => by
    obtain ⟨h1, h2⟩ := srt_tail hs
    cases hb : begs x.k p with
    | true =>
      rw [List.takeWhile_cons_of_pos (by simpa using hb), List.filter_cons_of_pos (by simpa using hb), run_filter r h1 (fun y hy => h y (by simp [hy]))]
    | false =>
      rw [List.takeWhile_cons_of_neg (by simp [hb]), List.filter_cons_of_neg (by simp [hb]), eq_comm, List.filter_eq_nil_iff]
      intro y hy
      rw [begs_past p x.k y.k (h x (by simp)) hb (h2 y hy)]
      simp
/-- The keys that begin so. -/
def keysS (L : List (List Int × List Int)) (p : List Int) : List (List Int) := (L.filter (fun x => begs x.1 p)).map (·.1)
theorem keysS_cont (r : List Rec) (p : List Int) : (r.filter (fun x => begs x.k p)).map (·.k) = keysS (cont r) p := by
  unfold keysS cont
  rw [List.filter_map, List.map_map]
  rfl
theorem runS_keys {r : List Rec} {p : List Int} {i : Nat} {f : Bool} (hs : Srt r) (h : FindS r p i f) : runS (r.drop i) p = keysS (cont r) p := by
  rw [← keysS_cont]
  unfold runS
  rw [run_filter (r.drop i) (hs.sublist (List.drop_sublist _ _)) h.hi']
  conv => rhs; rw [← List.take_append_drop i r]
  have e : (r.take i).filter (fun x => begs x.k p) = [] := by
    rw [List.filter_eq_nil_iff]
    intro x hx hb
    have := begs_ge p x.k (by simpa using hb)
    have := h.lo' x hx
    omega
  rw [List.filter_append, e, List.nil_append]
theorem keysS_srt {L : List (List Int × List Int)} (h : SrtC L) (p : List Int) : (keysS L p).Pairwise (fun x y => cmpB x y < 0) := by
  unfold keysS
  rw [List.pairwise_map]
  exact h.sublist List.filter_sublist
end Go.Proofs.Ythajolagpnakkaa
