
/- store: put, drop, Get. -/
import Derived.Test.YtafcianpajheiaaO5
set_option linter.unusedSimpArgs false
set_option linter.unusedVariables false
set_option maxRecDepth 20000
namespace Go.Proofs.Ytafcianpajheiaa
open Go.RowKit

/-- Keys and values as the document has them. -/
def cont (r : List Rec) : List (List Int × List Int) := r.map fun x => (x.k, x.v)
def putS (l : List (List Int × List Int)) (k v : List Int) : List (List Int × List Int) := l.filter (fun x => decide (cmpB x.1 k < 0)) ++ (k, v) :: l.filter (fun x => decide (0 < cmpB x.1 k))
def dropS (l : List (List Int × List Int)) (k : List Int) : List (List Int × List Int) := l.filter (fun x => decide (cmpB x.1 k < 0)) ++ l.filter (fun x => decide (0 < cmpB x.1 k))
def getS (l : List (List Int × List Int)) (k : List Int) : Option (List Int) := (l.find? fun x => decide (cmpB x.1 k = 0)).map (·.2)
theorem cont_app (r q : List Rec) : cont (r ++ q) = cont r ++ cont q := by simp [cont]
theorem FindS.lo' {r : List Rec} {key : List Int} {i : Nat} {f : Bool} (h : FindS r key i f) : ∀ x ∈ r.take i, cmpB x.k key < 0 := by
  intro x hx
  obtain ⟨k, hk, rfl⟩ := List.mem_iff_getElem.1 hx
  have hk' : k < i ∧ k < r.length := by rw [List.length_take] at hk; omega
  rw [List.getElem_take]
  exact h.lo k _ hk'.1 (List.getElem?_eq_getElem hk'.2)
theorem FindS.hi' {r : List Rec} {key : List Int} {i : Nat} {f : Bool} (h : FindS r key i f) : ∀ x ∈ r.drop i, 0 ≤ cmpB x.k key := by
  intro x hx
  obtain ⟨k, hk, rfl⟩ := List.mem_iff_getElem.1 hx
  rw [List.length_drop] at hk
  rw [List.getElem_drop]
  exact h.hi (i + k) _ (by omega) (List.getElem?_eq_getElem (by omega))
/-- It is there: behind it all are greater. -/
theorem FindS.yes {r : List Rec} {key : List Int} {i : Nat} (h : FindS r key i true) (hs : Srt r) : ∃ hi : i < r.length, r[i].k = key ∧ ∀ x ∈ r.drop (i + 1), 0 < cmpB x.k key := by
  obtain ⟨x, hx, hk⟩ := h.is.1 rfl
  obtain ⟨hi, rfl⟩ := List.getElem?_eq_some_iff.1 hx
  refine ⟨hi, hk, fun y hy => ?_⟩
  obtain ⟨k, hk2, rfl⟩ := List.mem_iff_getElem.1 hy
  rw [List.length_drop] at hk2
  rw [List.getElem_drop]
  have h1 := srt_at hs hx (List.getElem?_eq_getElem (show i + 1 + k < r.length by omega)) (by omega)
  rw [hk] at h1
  have := cmp_flip key r[i + 1 + k].k
  omega
theorem FindS.no {r : List Rec} {key : List Int} {i : Nat} (h : FindS r key i false) (hs : Srt r) : ∀ x ∈ r.drop i, 0 < cmpB x.k key := by
  intro x hx
  have h0 := h.hi' x hx
  rcases Int.lt_or_eq_of_le h0 with h1 | h1
  · exact h1
  · exfalso
    have hk := cmp_eq0 _ _ h1.symm
    obtain ⟨k, hkl, rfl⟩ := List.mem_iff_getElem.1 hx
    rw [List.length_drop] at hkl
    rw [List.getElem_drop] at hk
    have hne : ¬ ∃ x, r[i]? = some x ∧ x.k = key := fun e => by have := h.is.2 e; cases this
    cases k with
    | zero => exact hne ⟨_, List.getElem?_eq_getElem (by omega), hk⟩
    | succ k =>
      have h2 := srt_at hs (List.getElem?_eq_getElem (show i < r.length by omega)) (List.getElem?_eq_getElem (show i + (k + 1) < r.length by omega)) (by omega)
      rw [hk] at h2
      have := h.hi i _ (Nat.le_refl _) (List.getElem?_eq_getElem (show i < r.length by omega))
      omega
theorem filter_lo {r : List Rec} {key : List Int} {i : Nat} {f : Bool} (h : FindS r key i f) : (cont r).filter (fun x => decide (cmpB x.1 key < 0)) = cont (r.take i) := by
  conv => lhs; rw [← List.take_append_drop i r, cont_app, List.filter_append]
  rw [List.filter_eq_self.2, List.filter_eq_nil_iff.2, List.append_nil]
  · intro x hx
    obtain ⟨y, hy, rfl⟩ := List.mem_map.1 hx
    have := h.hi' y hy
    simp; omega
  · intro x hx
    obtain ⟨y, hy, rfl⟩ := List.mem_map.1 hx
    have := h.lo' y hy
    simpa using this
theorem filter_yes {r : List Rec} {key : List Int} {i : Nat} (h : FindS r key i true) (hs : Srt r) : (cont r).filter (fun x => decide (0 < cmpB x.1 key)) = cont (r.drop (i + 1)) := by
  obtain ⟨hi, hk, hgt⟩ := h.yes hs
  conv => lhs; rw [← List.take_append_drop i r, List.drop_eq_getElem_cons hi, cont_app, List.filter_append]
  rw [List.filter_eq_nil_iff.2, List.nil_append]
  · rw [show cont (r[i] :: r.drop (i + 1)) = (r[i].k, r[i].v) :: cont (r.drop (i + 1)) from rfl, List.filter_cons_of_neg (by simp [hk, cmp_self]), List.filter_eq_self.2]
    intro x hx
    obtain ⟨y, hy, rfl⟩ := List.mem_map.1 hx
    simpa using hgt y hy
  · intro x hx
    obtain ⟨y, hy, rfl⟩ := List.mem_map.1 hx
    have := h.lo' y hy
    simp; omega
theorem filter_no {r : List Rec} {key : List Int} {i : Nat} (h : FindS r key i false) (hs : Srt r) : (cont r).filter (fun x => decide (0 < cmpB x.1 key)) = cont (r.drop i) := by
  have hgt := h.no hs
  conv => lhs; rw [← List.take_append_drop i r, cont_app, List.filter_append]
  rw [List.filter_eq_nil_iff.2, List.nil_append, List.filter_eq_self.2]
  · intro x hx
    obtain ⟨y, hy, rfl⟩ := List.mem_map.1 hx
    simpa using hgt y hy
  · intro x hx
    obtain ⟨y, hy, rfl⟩ := List.mem_map.1 hx
    have := h.lo' y hy
    simp; omega
theorem get_yes {r : List Rec} {key : List Int} {i : Nat} (h : FindS r key i true) (hs : Srt r) (hi : i < r.length) : getS (cont r) key = some r[i].v := by
  obtain ⟨_, hk, hgt⟩ := h.yes hs
  unfold getS
  conv => lhs; rw [← List.take_append_drop i r, List.drop_eq_getElem_cons hi, cont_app, List.find?_append]
  rw [List.find?_eq_none.2, Option.none_or]
  · rw [show cont (r[i] :: r.drop (i + 1)) = (r[i].k, r[i].v) :: cont (r.drop (i + 1)) from rfl, List.find?_cons_of_pos (by simp [hk, cmp_self])]
    rfl
  · intro x hx
    obtain ⟨y, hy, rfl⟩ := List.mem_map.1 hx
    have := h.lo' y hy
    simp; omega
theorem get_no {r : List Rec} {key : List Int} {i : Nat} (h : FindS r key i false) (hs : Srt r) : getS (cont r) key = none := by
  have hgt := h.no hs
  unfold getS
  rw [List.find?_eq_none.2]
  · rfl
  · intro x hx
    obtain ⟨y, hy, rfl⟩ := List.mem_map.1 hx
    rw [← List.take_append_drop i r] at hy
    rcases List.mem_append.1 hy with hy | hy
    · have := h.lo' y hy; simp; omega
    · have := hgt y hy; simp; omega
/-- Between those that are less and those that are greater. -/
theorem srt_mid {a c : List Rec} {x : Rec} (ha : Srt a) (hc : Srt c) (h1 : ∀ y ∈ a, cmpB y.k x.k < 0) (h2 : ∀ y ∈ c, 0 < cmpB y.k x.k) : Srt (a ++ x :: c) := by
  refine List.pairwise_append.2 ⟨ha, List.pairwise_cons.2 ⟨fun y hy => ?_, hc⟩, fun y hy z hz => ?_⟩
  · have := h2 y hy; have := cmp_flip y.k x.k; omega
  · rcases List.mem_cons.1 hz with rfl | hz
    · exact h1 y hy
    · refine cmp_trans _ _ _ (h1 y hy) ?_
      have := h2 z hz; have := cmp_flip z.k x.k; omega
theorem srt_cut {r : List Rec} (h : Srt r) (i n : Nat) : Srt (r.take i ++ r.drop (i + n)) := by
  have e : (r.take i ++ r.drop (i + n)).Sublist r := by
    conv => rhs; rw [← List.take_append_drop i r]
    refine List.Sublist.append_left ?_ _
    rw [← List.drop_drop]
    exact List.drop_sublist _ _
  exact h.sublist e
theorem cellsR_set (r : List Rec) (i : Nat) (x y : Rec) (hi : r[i]? = some x) (hy : y.kv = x.kv) : (cellsR r).set (i * 2 + 1) y.vv = cellsR (r.set i y) := by
  induction r generalizing i with
  | nil => simp at hi
  | cons z r ih =>
    cases i with
    | zero => simp at hi; subst hi; simp [cellsR, hy]
    | succ i =>
      have := ih i (by simpa using hi)
      rw [show (i + 1) * 2 + 1 = i * 2 + 1 + 1 + 1 by omega]
      simp only [cellsR, List.flatMap_cons, List.cons_append, List.nil_append, List.set_cons_succ] at this ⊢
      rw [this]
/-- The pairs' row was turned where it lies. -/
theorem StC.pairs_in {W W1 : World} {s base : Nat} {A : Nat → Prop} {vp vj vb : Value} {r r' : List Rec} {j : List Was} {b : List Nat} (h : StC W s base A vp vj vb r j b) (hT : RowTo W W1 base vp vp r') (hrec : ∀ x ∈ r', RecAt W A x) :
    StC W1 s base A vp vj vb r' j b ∧ Fr W W1 A A := by
  have hg := hT.grown
  have hb1 := (hg.block s (Array.getElem?_eq_some_iff.1 h.blk).1 (not_row h.blk (by decide) h.pairs)).trans h.blk
  refine ⟨⟨hb1, hT.row, h.jour.kept hg (rows_apart h.jour h.pairs (by decide)), h.begun.kept hg (rows_apart h.begun h.pairs (by decide)), fun x hx => (hrec x hx).grow h.pairs (by decide) hg, fun x hx => (h.was x hx).grow h.pairs (by decide) hg, fun k hk => ⟨(h.foot k hk).1, Nat.lt_of_lt_of_le (h.foot k hk).2 hg.size⟩, h.a0, h.ap, h.aj, h.ab, Nat.le_trans h.le hg.size⟩, ?_⟩
  exact ⟨hg.os, hg.tape, hg.output, hg.size, fun k hk hA => hg.block k hk (fun e => hA (h.ap k e.symm)), fun k hk => .inl hk, fun k hk => hk⟩

theorem RowTo.pre {W W1 W2 : World} {base : Nat} {vp vp' : Value} {r : List Rec} (hg : W.grownBy W1 none) (h : RowTo W1 W2 base vp vp' r) : RowTo W W2 base vp vp' r :=
  ⟨h.row, grown_tr (grown_up hg) h.grown, h.own.imp id (fun ⟨g, e, hge⟩ => ⟨g, e, Nat.le_trans hg.size hge⟩)⟩
theorem fresh_ne {W : World} {base : Nat} {e : TypeId} {size n : Nat} {v : Value} {xs : List Value} (h : W.ownsRow base e size v n xs) : v.ownBlock ≠ some W.heap.size := fun e => by have := (h.lt _ e).2; omega
/-- A store: what is in it, what was, where its parts began. -/
def St (W : World) (s base : Nat) (A : Nat → Prop) (l : List (List Int × List Int)) (j : List Was) (b : List Nat) : Prop := ∃ vp vj vb r, StC W s base A vp vj vb r j b ∧ Srt r ∧ cont r = l ∧ r.length ≤ 100000
section
variable {W : World} {s base : Nat} {A : Nat → Prop} {vp vj vb : Value} {r : List Rec} {j : List Was} {b : List Nat}
set_option maxHeartbeats 4000000 in
theorem put_any {kv vv : Value} {k v : List Int} (h : StC W s base A vp vj vb r j b) (hs : Srt r) (hn : r.length < 100000) (hk : InA W A kv k) (hv : InA W A vv v) :
    Calls Try.prog 53 #[.pointer (some ⟨s, 0, none⟩), kv, vv] W fun e w' => e = .returned (.tuple #[]) ∧ ∃ A' vp' r', StC w' s base A' vp' vj vb r' j b ∧ Srt r' ∧ cont r' = putS (cont r) k v ∧ r'.length ≤ r.length + 1 ∧ Fr W w' A A' := by
  have hF := find_any h hs (by omega) hk.src hk.2.1
  have e0 : ∃ sp cap, kv = .slice sp k.length cap := by obtain ⟨sp, cap, e, -⟩ := hk.src.parts; exact ⟨sp, cap, e⟩
  have e1 : ∃ sp cap, vv = .slice sp v.length cap := by obtain ⟨sp, cap, e, -⟩ := hv.src.parts; exact ⟨sp, cap, e⟩
  have hk1 := hk.one
  have hv1 := hv.one
  obtain ⟨sk, ck, rfl⟩ := e0
  obtain ⟨sv, cv, rfl⟩ := e1
  obtain ⟨ap, cp, rfl⟩ := row_slice h.pairs
  go_enter Try.func53, Try.ntmps53
  go_wp2_with (go_at_call 50; refine hF.mono ?_; rintro e w1 ⟨i, f, rfl, hfs, hb1⟩; have h1 := h.below hb1; obtain ⟨c, fz⟩ := cells_of_block h1.blk; have hk1' := hk.kept (fun k hk => hb1.block k (h.foot k hk).2); have hv1' := hv.kept (fun k hk => hb1.block k (h.foot k hk).2); cases f; rotate_left; obtain ⟨hi, hik, hgt⟩ := hfs.yes hs; obtain ⟨g, cap, ev, hgl, hbg, c0, c1, fz1⟩ := pair_at h1.pairs (List.getElem?_eq_getElem hi); simp at ev; obtain ⟨rfl, rfl⟩ := ev; have hi' : (i : Int) < (r.length : Int) := (by omega))
  · have hst := World.ownsRow.stored h1.pairs (i * 2 + 1) (.slice sv v.length cv)
    rw [cellsR_set r i r[i] ⟨r[i].kv, .slice sv v.length cv, k, v⟩ (List.getElem?_eq_getElem hi) rfl] at hst
    have hT : RowTo w1 (w1.setCell ⟨g, i * 2 + 1, none⟩ (.slice sv v.length cv)) base (.slice (some ⟨g, 0, none⟩) r.length cp) (.slice (some ⟨g, 0, none⟩) r.length cp) (r.set i ⟨r[i].kv, .slice sv v.length cv, k, v⟩) := ⟨by rw [List.length_set]; exact hst.1, hst.2, .inl rfl⟩
    have hri : RecAt w1 A r[i] := h1.recs r[i] (List.getElem_mem hi)
    have hr' : ∀ x ∈ r.set i ⟨r[i].kv, .slice sv v.length cv, k, v⟩, RecAt w1 A x := by
      intro x hx
      rcases List.mem_or_eq_of_mem_set hx with hx | rfl
      · exact h1.recs x hx
      · exact ⟨by have := hri.1; rwa [hik] at this, hv1'⟩
    have e2 : r.set i ⟨r[i].kv, .slice sv v.length cv, k, v⟩ = r.take i ++ ⟨r[i].kv, .slice sv v.length cv, k, v⟩ :: r.drop (i + 1) := List.set_eq_take_append_cons_drop.trans (by rw [if_pos hi])
    have hsrt : Hid (Srt (r.set i ⟨r[i].kv, .slice sv v.length cv, k, v⟩)) := by unfold Hid; rw [e2]; exact srt_mid (hs.sublist (List.take_sublist _ _)) (hs.sublist (List.drop_sublist _ _)) hfs.lo' hgt
    have hcont : Hid (cont (r.set i ⟨r[i].kv, .slice sv v.length cv, k, v⟩) = putS (cont r) k v) := by unfold Hid; rw [e2, putS, filter_lo hfs, filter_yes hfs hs]; simp [cont]
    obtain ⟨q1, q2⟩ := h1.pairs_in hT hr'
    clear hst e2 hr'
    generalize hy : r.set i ⟨r[i].kv, .slice sv v.length cv, k, v⟩ = r' at *
    have hlen : r'.length ≤ r.length + 1 := by rw [← hy, List.length_set]; omega
    clear hy
    refine bodyPost_end (v := .tuple #[]) (by simp [results, Try.results53]) rfl ?_
    exact ⟨rfl, _, _, _, q1, hsrt.out, hcont.out, hlen, (Fr.below hb1).trans q2⟩
  · have hg0 := World.grownBy_alloc w1 (.cells #[.slice sk k.length ck, .slice sv v.length cv] 112) none
    have hrec0 : ∀ x ∈ r, RecAt (w1.alloc (.cells #[.slice sk k.length ck, .slice sv v.length cv] 112)) A x := fun x hx => (h1.recs x hx).kept (fun k hk => hg0.block k (h1.foot k hk).2 (by simp))
    have hI := insert_any (i := i) ⟨.slice sk k.length ck, .slice sv v.length cv, k, v⟩ (none_row h1.pairs hg0) hrec0 (Nat.le_trans h1.le hg0.size) (by omega) hfs.le w1.heap.size (World.alloc_heap_new _ _) (fresh_ne h1.pairs) hk1 hv1
    obtain ⟨r', hr0⟩ : ∃ r', r' = r.take i ++ ⟨.slice sk k.length ck, .slice sv v.length cv, k, v⟩ :: r.drop i := ⟨_, rfl⟩
    rw [← hr0] at hI
    have hr0' : Hid _ := hr0
    clear hr0
    go_wp2_with (go_at_call 76; refine hI.mono ?_; rintro e w3 ⟨v', rfl, hT⟩; have hb3 := (hT.grown.block s (Nat.lt_of_lt_of_le (h1.foot s h1.a0).2 hg0.size) (not_row ((hg0.block s (h1.foot s h1.a0).2 (by simp)).trans h1.blk) (by decide) (none_row h1.pairs hg0))).trans ((hg0.block s (h1.foot s h1.a0).2 (by simp)).trans h1.blk); obtain ⟨c3, f3⟩ := cells_of_block hb3; obtain ⟨av', cv', rfl⟩ := row_slice hT.row)
    refine bodyPost_end (v := .tuple #[]) (by simp [results, Try.results53]) rfl ?_
    have hr' : ∀ x ∈ r', RecAt w1 A x := by
      intro x hx
      rw [hr0'.out] at hx
      rcases List.mem_append.1 hx with hx | hx
      · exact h1.recs x (List.mem_of_mem_take hx)
      · rcases List.mem_cons.1 hx with rfl | hx
        · exact ⟨hk1', hv1'⟩
        · exact h1.recs x (List.mem_of_mem_drop hx)
    obtain ⟨q1, q2⟩ := h1.pairs_to (hT.pre hg0) hr'
    refine ⟨rfl, _, _, _, q1, ?_, ?_, ?_, (Fr.below hb1).trans q2⟩
    · rw [hr0'.out]; exact srt_mid (hs.sublist (List.take_sublist _ _)) (hs.sublist (List.drop_sublist _ _)) hfs.lo' (hfs.no hs)
    · rw [hr0'.out, putS, filter_lo hfs, filter_no hfs hs]; simp [cont]
    · rw [hr0'.out, List.length_append, List.length_cons, List.length_take, List.length_drop]; omega
set_option maxHeartbeats 4000000 in
theorem drop_any {u : Value} {k : List Int} (h : StC W s base A vp vj vb r j b) (hs : Srt r) (hn : r.length ≤ 100000) (hu : Src W u k) (hk : Byte k) :
    Calls Try.prog 52 #[.pointer (some ⟨s, 0, none⟩), u] W fun e w' => e = .returned (.tuple #[]) ∧ ∃ A' vp' r', StC w' s base A' vp' vj vb r' j b ∧ Srt r' ∧ cont r' = dropS (cont r) k ∧ r'.length ≤ r.length ∧ Fr W w' A A' := by
  have hF := find_any h hs (by omega) hu hk
  have hn' : (r.length : Int) ≤ 100000 := by omega
  obtain ⟨su, cu, rfl, -⟩ := hu.parts
  obtain ⟨ap, cp, rfl⟩ := row_slice h.pairs
  go_enter Try.func52, Try.ntmps52
  go_wp2_with (go_at_call 50; refine hF.mono ?_; rintro e w1 ⟨i, f, rfl, hfs, hb1⟩; have h1 := h.below hb1; obtain ⟨c, fz⟩ := cells_of_block h1.blk; cases f; rotate_left; obtain ⟨hi, hik, hgt⟩ := hfs.yes hs; have hi' : (i : Int) < (r.length : Int) := (by omega); have hw : IntKind.i64.wrap ((i : Int) + 1) = (i : Int) + 1 := (by rw [IntKind.wrap_i64]; omega))
  · have hD := delete_any h1.pairs h1.recs (by omega) hi
    obtain ⟨r', hr0⟩ : ∃ r', r' = r.take i ++ r.drop (i + 1) := ⟨_, rfl⟩
    rw [← hr0] at hD
    have hr0' : Hid _ := hr0
    clear hr0
    go_wp2_with (go_at_call 75; refine hD.mono ?_; rintro e w3 ⟨v', rfl, hT⟩; have hb3 := (hT.grown.block s (h1.foot s h1.a0).2 (not_row h1.blk (by decide) h1.pairs)).trans h1.blk; obtain ⟨c3, f3⟩ := cells_of_block hb3; obtain ⟨av', cv', rfl⟩ := row_slice hT.row)
    refine bodyPost_end (v := .tuple #[]) (by simp [results, Try.results52]) rfl ?_
    obtain ⟨q1, q2⟩ := h1.pairs_to hT (fun x hx => by
      rw [hr0'.out] at hx
      rcases List.mem_append.1 hx with hx | hx
      · exact h1.recs x (List.mem_of_mem_take hx)
      · exact h1.recs x (List.mem_of_mem_drop hx))
    refine ⟨rfl, _, _, _, q1, by rw [hr0'.out]; exact srt_cut hs i 1, ?_, ?_, (Fr.below hb1).trans q2⟩
    · rw [hr0'.out, dropS, filter_lo hfs, filter_yes hfs hs, cont_app]
    · rw [hr0'.out, List.length_append, List.length_take, List.length_drop]; omega
  · refine bodyPost_end (v := .tuple #[]) (by simp [results, Try.results52]) rfl ?_
    refine ⟨rfl, _, _, _, h1, hs, ?_, Nat.le_refl _, Fr.below hb1⟩
    rw [dropS, filter_lo hfs, filter_no hfs hs, ← cont_app, List.take_append_drop]
set_option maxHeartbeats 4000000 in
/-- Get: a copy of the value, in a block of its own, or nothing. -/
theorem get_any {u : Value} {k : List Int} (h : StC W s base A vp vj vb r j b) (hs : Srt r) (hn : r.length ≤ 100000) (hu : Src W u k) (hk : Byte k) :
    Calls Try.prog 39 #[.pointer (some ⟨s, 0, none⟩), u] W fun e w' => Below W.heap.size W w' ∧ ((getS (cont r) k = none ∧ e = .returned (.tuple #[.slice none 0 0, .bool false])) ∨ ∃ v g q, getS (cont r) k = some q ∧ e = .returned (.tuple #[v, .bool true]) ∧ Own w' g v q ∧ W.heap.size ≤ g ∧ Byte q ∧ q.length ≤ 1048576) := by
  have hF := find_any h hs (by omega) hu hk
  obtain ⟨su, cu, rfl, -⟩ := hu.parts
  obtain ⟨ap, cp, rfl⟩ := row_slice h.pairs
  go_enter Try.func39, Try.ntmps39
  go_wp2_with (go_at_call 50; refine hF.mono ?_; rintro e w1 ⟨i, f, rfl, hfs, hb1⟩; have h1 := h.below hb1; obtain ⟨c, fz⟩ := cells_of_block h1.blk; cases f; rotate_left; obtain ⟨hi, hik, hgt⟩ := hfs.yes hs; have hi' : (i : Int) < (r.length : Int) := (by omega); obtain ⟨g, cap, ev, hgl, hbg, c0, c1, fz1⟩ := pair_at h1.pairs (List.getElem?_eq_getElem hi); simp at ev; obtain ⟨rfl, rfl⟩ := ev; have hri := (h1.recs r[i] (List.getElem_mem hi)).2; have hO := own_any hri.2.2 hri.src)
  · have hg2 := get_yes hfs hs hi
    have hri2 := hri.2
    generalize r[i].vv = vv at *
    generalize r[i].v = q at *
    have hg2' : Hid _ := hg2
    clear hg2 hri
    go_wp2_with (go_at_call 54; refine hO.mono ?_; rintro e w2 ⟨v, rfl, ho, hb2⟩)
    go_ret2
    exact ⟨bt hb1 hb2, .inr ⟨v, _, q, hg2'.out, rfl, ho, hb1.size, hri2.1, hri2.2⟩⟩
  · go_ret2
    exact ⟨hb1, .inl ⟨get_no hfs hs, rfl⟩⟩
end
end Go.Proofs.Ytafcianpajheiaa
