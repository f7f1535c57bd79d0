
/- The program's store as a bundle: what is in it, what was when each part began; its calls over that. (For the layers over it.) -/
import Derived.Test.YtafcianpajheiaaO13
import Derived.Test.YtafcianpajheiaaO14
set_option linter.unusedSimpArgs false
set_option linter.unusedVariables false
set_option maxRecDepth 20000
namespace Go.Proofs.Ytafcianpajheiaa
open Go.RowKit

theorem begs_cons (a b : Int) (x p : List Int) : begs (a :: x) (b :: p) = (decide (a = b) && begs x p) := by
  by_cases h1 : a = b
  · subst h1; simp [begs]
  · simp [begs, h1]
theorem begs_ge : ∀ (p k : List Int), begs k p = true → 0 ≤ cmpB k p
  | [], [], _ => by simp [cmpB]
  | [], _ :: _, _ => by simp [cmpB]
  | b :: p, [], h => by simp [begs] at h
  | b :: p, a :: k, h => by
    rw [begs_cons] at h
    simp at h
    obtain ⟨rfl, h⟩ := h
    have := begs_ge p k h
    simp [cmpB, this]
theorem begs_past : ∀ (p x y : List Int), 0 ≤ cmpB x p → begs x p = false → cmpB x y < 0 → begs y p = false
  | [], x, y, _, h, _ => by simp [begs] at h
  | b :: p, [], y, h, _, _ => by simp [cmpB] at h
  | b :: p, a :: x, [], _, _, h => by simp [cmpB] at h
  | b :: p, a :: x, c :: y, h1, h2, h3 => by
    rw [begs_cons] at h2 ⊢
    simp only [cmpB] at h1 h3
    by_cases hab : a < b
    · rw [if_pos hab] at h1; omega
    · by_cases hba : b < a
      · by_cases hac : a < c
        · simp [show ¬ c = b by omega]
        · by_cases hca : c < a
          · rw [if_neg hac, if_pos hca] at h3; omega
          · simp [show ¬ c = b by omega]
      · obtain rfl : a = b := by omega
        rw [if_neg hab, if_neg hba] at h1
        simp at h2
        by_cases hac : a < c
        · simp [show ¬ c = a by omega]
        · by_cases hca : c < a
          · rw [if_neg hac, if_pos hca] at h3; omega
          · obtain rfl : a = c := by omega
            rw [if_neg hac, if_neg hca] at h3
            simp [begs_past p x y h1 h2 h3]
theorem run_filter {p : List Int} : ∀ r : List Rec, Srt r → (∀ x ∈ r, 0 ≤ cmpB x.k p) → r.takeWhile (fun x => begs x.k p) = r.filter (fun x => begs x.k p)
  | [], _, _ => rfl
  | x :: r, hs, h => by
    obtain ⟨h1, h2⟩ := srt_tail hs
    cases hb : begs x.k p with
    | true =>
      rw [List.takeWhile_cons_of_pos (by simpa using hb), List.filter_cons_of_pos (by simpa using hb), run_filter r h1 (fun y hy => h y (by simp [hy]))]
    | false =>
      rw [List.takeWhile_cons_of_neg (by simp [hb]), List.filter_cons_of_neg (by simp [hb]), eq_comm, List.filter_eq_nil_iff]
      intro y hy
      rw [begs_past p x.k y.k (h x (by simp)) hb (h2 y hy)]
      simp
/-- The keys that begin so. -/
def keysS (L : List (List Int × List Int)) (p : List Int) : List (List Int) := (L.filter (fun x => begs x.1 p)).map (·.1)
theorem keysS_cont (r : List Rec) (p : List Int) : (r.filter (fun x => begs x.k p)).map (·.k) = keysS (cont r) p := by
  unfold keysS cont
  rw [List.filter_map, List.map_map]
  rfl
theorem runS_keys {r : List Rec} {p : List Int} {i : Nat} {f : Bool} (hs : Srt r) (h : FindS r p i f) : runS (r.drop i) p = keysS (cont r) p := by
  rw [← keysS_cont]
  unfold runS
  rw [run_filter (r.drop i) (hs.sublist (List.drop_sublist _ _)) h.hi']
  conv => rhs; rw [← List.take_append_drop i r]
  have e : (r.take i).filter (fun x => begs x.k p) = [] := by
    rw [List.filter_eq_nil_iff]
    intro x hx hb
    have := begs_ge p x.k (by simpa using hb)
    have := h.lo' x hx
    omega
  rw [List.filter_append, e, List.nil_append]
theorem keysS_srt {L : List (List Int × List Int)} (h : SrtC L) (p : List Int) : (keysS L p).Pairwise (fun x y => cmpB x y < 0) := by
  unfold keysS
  rw [List.pairwise_map]
  exact h.sublist List.filter_sublist
theorem Own.isB {W : World} {g : Nat} {v : Value} {q : List Int} (h : Own W g v q) (hl : q.length ≤ 1048576) : IsBytes W v q := by
  obtain ⟨rfl, hb⟩ := h
  refine .inr ⟨g, 0, q.length, rfl, by omega, (Array.getElem?_eq_some_iff.1 hb).1, fun i x hi => ?_⟩
  rw [(cells_of_block hb).1]; simp [encB, hi]
theorem Src.nil {W W' : World} {u : Value} (h : Src W u []) : Src W' u [] := by
  rcases h with h | ⟨ad, cap, e, -⟩
  · exact .inl h
  · exact .inr ⟨ad, cap, e, by simp⟩
theorem Src.fr2 {W W' : World} {A A' : Nat → Prop} {u : Value} {q : List Int} (h : Src W u q) (hf : Fr W W' A A') (ho : q = [] ∨ ∀ g, u.ownBlock = some g → ¬ A g) : Src W' u q := by
  rcases ho with rfl | ho
  · exact h.nil
  · exact h.fr hf ho
section
variable {W : World} {s base : Nat} {A : Nat → Prop} {vp vj vb : Value} {r : List Rec} {j : List Was} {b : List Nat}
set_option maxHeartbeats 4000000 in
theorem set_any2 {uk uv : Value} {k v : List Int} (h : StC W s base A vp vj vb r j b) (hs : Srt r) (hn : r.length < 100000) (hj : j.length ≤ 100000) (hk : Src W uk k) (hv : Src W uv v) (hkb : Byte k) (hvb : Byte v) (hkl : k.length ≤ 1048576) (hvl : v.length ≤ 1048576) (hko : k = [] ∨ ∀ g, uk.ownBlock = some g → ¬ A g) (hvo : v = [] ∨ ∀ g, uv.ownBlock = some g → ¬ A g) :
    Calls Try.prog 35 #[.pointer (some ⟨s, 0, none⟩), uk, uv] W fun e w' => e = .returned (.tuple #[]) ∧ ∃ A' vp' vj' r' j', StC w' s base A' vp' vj' vb r' j' b ∧ Srt r' ∧ cont r' = putS (cont r) k v ∧ r'.length ≤ r.length + 1 ∧ JS (cont r) k j j' b ∧ Fr W w' A A' := by
  have hN := note_any h hs (by omega) hj hk hkb hkl
  obtain ⟨sk, ck, rfl, -⟩ := hk.parts
  obtain ⟨sv, cv, rfl, -⟩ := hv.parts
  go_enter Try.func35, Try.ntmps35
  go_wp2_with (first
    | (go_at_call 51; refine hN.mono ?_; rintro e w1 ⟨rfl, A1, vj1, j1, h1, hJ, f1⟩; have hk1 := hk.fr2 f1 hko; have hv1 := hv.fr2 f1 hvo; have hO1 := own_any hkl hk1)
    | (go_at_call 54; refine hO1.mono ?_; rintro e w2 ⟨kv, rfl, ho2, hb2⟩; have hv2 := hv1.kept (grown_none hb2); have hO2 := own_any hvl hv2; clear hO1; obtain rfl := ho2.1)
    | (go_at_call 54; refine hO2.mono ?_; rintro e w3 ⟨vv, rfl, ho3, hb3⟩; clear hO2; have ho2' := ho2.kept (hb3.block _ ho2.lt); have h3 := ((h1.below hb2).below hb3).ext (B := fun n => A1 n ∨ n = w1.heap.size ∨ n = w2.heap.size) (fun n hn => .inl hn) (fun n hn => by rcases hn with hn | rfl | rfl; exact (((h1.below hb2).below hb3).foot n hn); exact ⟨h1.le, ho2'.lt⟩; exact ⟨Nat.le_trans h1.le hb2.size, ho3.lt⟩); have hP := put_any h3 hs hn (ho2'.inA (.inr (.inl rfl)) hkb hkl) (ho3.inA (.inr (.inr rfl)) hvb hvl); obtain rfl := ho3.1)
    | (go_at_call 53; refine hP.mono ?_; rintro e w4 ⟨rfl, A4, vp4, r4, h4, hs4, hc4, hl4, f4⟩))
  refine bodyPost_end (v := .tuple #[]) (by simp [results, Try.results35]) rfl ?_
  have fm : Fr w1 w3 A1 (fun n => A1 n ∨ n = w1.heap.size ∨ n = w2.heap.size) := (Fr.more (W := w1) (fun n hn => .inl hn) (fun n hn => by rcases hn with hn | hn | hn; exact .inl hn; exact .inr (by omega); exact .inr (by have := hb2.size; omega))).trans (Fr.below (bt hb2 hb3))
  exact ⟨rfl, _, _, _, _, _, h4, hs4, hc4, hl4, hJ, (f1.trans fm).trans f4⟩
set_option maxHeartbeats 4000000 in
theorem del_any2 {uk : Value} {k : List Int} (h : StC W s base A vp vj vb r j b) (hs : Srt r) (hn : r.length ≤ 100000) (hj : j.length ≤ 100000) (hk : Src W uk k) (hkb : Byte k) (hkl : k.length ≤ 1048576) (hko : k = [] ∨ ∀ g, uk.ownBlock = some g → ¬ A g) :
    Calls Try.prog 34 #[.pointer (some ⟨s, 0, none⟩), uk] W fun e w' => e = .returned (.tuple #[]) ∧ ∃ A' vp' vj' r' j', StC w' s base A' vp' vj' vb r' j' b ∧ Srt r' ∧ cont r' = dropS (cont r) k ∧ r'.length ≤ r.length ∧ ((getS (cont r) k = none ∧ j' = j) ∨ (getS (cont r) k ≠ none ∧ JS (cont r) k j j' b)) ∧ Fr W w' A A' := by
  have hF := find_any h hs (by omega) hk hkb
  have hk' := hk
  obtain ⟨sk, ck, rfl, -⟩ := hk'.parts
  go_enter Try.func34, Try.ntmps34
  go_wp2_with (first
    | (go_at_call 50; refine hF.mono ?_; rintro e w1 ⟨i, f, rfl, hfs, hb1⟩; have h1 := h.below hb1; have hk1 := hk.kept (grown_none hb1); have hN := note_any h1 hs (by omega) hj hk1 hkb hkl; cases f)
    | (go_at_call 51; refine hN.mono ?_; rintro e w2 ⟨rfl, A2, vj2, j2, h2, hJ, f2⟩; have hk2 := hk1.fr2 f2 hko; have hD := drop_any h2 hs hn hk2 hkb)
    | (go_at_call 52; refine hD.mono ?_; rintro e w3 ⟨rfl, A3, vp3, r3, h3, hs3, hc3, hl3, f3⟩))
  · refine bodyPost_end (v := .tuple #[]) (by simp [results, Try.results34]) rfl ?_
    refine ⟨rfl, _, _, _, _, _, h1, hs, ?_, Nat.le_refl _, .inl ⟨get_no hfs hs, rfl⟩, Fr.below hb1⟩
    rw [dropS, filter_lo hfs, filter_no hfs hs, ← cont_app, List.take_append_drop]
  · refine bodyPost_end (v := .tuple #[]) (by simp [results, Try.results34]) rfl ?_
    obtain ⟨hi, -, -⟩ := hfs.yes hs
    exact ⟨rfl, _, _, _, _, _, h3, hs3, hc3, hl3, .inr ⟨by rw [get_yes hfs hs hi]; simp, hJ⟩, ((Fr.below hb1).trans f2).trans f3⟩
end
theorem put_len {l : List (List Int × List Int)} (h : SrtC l) (k v : List Int) : (putS l k v).length ≤ l.length + 1 := by
  obtain ⟨a, c, ha, hc, he⟩ := split_srt h k
  rcases he with ⟨-, e2⟩ | ⟨u, -, e2⟩
  · rw [e2, put_new v ha hc]; simp; omega
  · rw [e2, put_mid u v ha hc]; simp
theorem drop_len {l : List (List Int × List Int)} (h : SrtC l) (k : List Int) : (dropS l k).length ≤ l.length := by
  obtain ⟨a, c, ha, hc, he⟩ := split_srt h k
  rcases he with ⟨-, e2⟩ | ⟨u, -, e2⟩
  · rw [e2, drop_new ha hc]; omega
  · rw [e2, drop_mid u ha hc]; simp
theorem srt_dropS {l : List (List Int × List Int)} (h : SrtC l) (k : List Int) : SrtC (dropS l k) := by
  obtain ⟨a, c, ha, hc, he⟩ := split_srt h k
  rcases he with ⟨-, e2⟩ | ⟨u, -, e2⟩
  · rw [e2, drop_new ha hc, ← e2]; exact h
  · rw [e2, drop_mid u ha hc]
    rw [e2] at h
    exact h.sublist (List.Sublist.append (List.Sublist.refl _) (List.sublist_cons_self _ _))
theorem cont_srt {r : List Rec} (h : SrtC (cont r)) : Srt r := by
  unfold SrtC cont at h
  rw [List.pairwise_map] at h
  exact h
theorem cont_len (r : List Rec) : (cont r).length = r.length := by simp [cont]
/-- The program's store: what is in it, and what was when each part began. -/
def StD (W : World) (s base : Nat) (A : Nat → Prop) (L : List (List Int × List Int)) (ds : List (List (List Int × List Int))) (n : Nat) : Prop :=
  ∃ vp vj vb r j b, StC W s base A vp vj vb r j b ∧ Srt r ∧ cont r = L ∧ Jr L j b ds ∧ L.length ≤ n ∧ j.length ≤ n ∧ ds.length ≤ n ∧ ∀ x ∈ ds, x.length ≤ n
section
variable {W : World} {s base : Nat} {A : Nat → Prop} {L : List (List Int × List Int)} {ds : List (List (List Int × List Int))} {n : Nat}
theorem StD.kept {W' : World} (h : StD W s base A L ds n) (e : ∀ k, A k → W'.heap[k]? = W.heap[k]?) (hs : W.heap.size ≤ W'.heap.size) : StD W' s base A L ds n := by
  obtain ⟨vp, vj, vb, r, j, b, h1, h2⟩ := h
  exact ⟨vp, vj, vb, r, j, b, h1.kept e hs, h2⟩
theorem StD.foot (h : StD W s base A L ds n) : ∀ k, A k → base ≤ k ∧ k < W.heap.size := by
  obtain ⟨vp, vj, vb, r, j, b, h1, h2⟩ := h
  exact h1.foot
theorem StD.below {W' : World} (h : StD W s base A L ds n) (hb : Below W.heap.size W W') : StD W' s base A L ds n :=
  h.kept (fun k hk => hb.block k (h.foot k hk).2) hb.size
theorem StD.srt (h : StD W s base A L ds n) : SrtC L := by
  obtain ⟨vp, vj, vb, r, j, b, h1, h2, h3, -⟩ := h
  exact h3 ▸ srt_cont h2
theorem StD.up (h : StD W s base A L ds n) {n' : Nat} (hn : n ≤ n') : StD W s base A L ds n' := by
  obtain ⟨vp, vj, vb, r, j, b, h1, h2, h3, h4, h5, h6, h7, h8⟩ := h
  exact ⟨vp, vj, vb, r, j, b, h1, h2, h3, h4, by omega, by omega, by omega, fun x hx => Nat.le_trans (h8 x hx) hn⟩
theorem stdSet {uk uv : Value} {k v : List Int} (h : StD W s base A L ds n) (hn : n ≤ 1000) (hk : Src W uk k) (hv : Src W uv v) (hkb : Byte k) (hvb : Byte v) (hkl : k.length ≤ 1048576) (hvl : v.length ≤ 1048576) (hko : k = [] ∨ ∀ g, uk.ownBlock = some g → ¬ A g) (hvo : v = [] ∨ ∀ g, uv.ownBlock = some g → ¬ A g) :
    Calls Try.prog 35 #[.pointer (some ⟨s, 0, none⟩), uk, uv] W fun e w' => e = .returned (.tuple #[]) ∧ ∃ A', StD w' s base A' (putS L k v) ds (n + 1) ∧ Fr W w' A A' := by
  have hS := h.srt
  obtain ⟨vp, vj, vb, r, j, b, h1, h2, h3, h4, h5, h6, h7, h8⟩ := h
  subst h3
  have hpl := put_len hS k v
  have hcl := cont_len r
  refine (set_any2 h1 h2 (by omega) (by omega) hk hv hkb hvb hkl hvl hko hvo).mono ?_
  rintro e w' ⟨rfl, A', vp', vj', r', j', g1, g2, g3, g4, g5, g6⟩
  refine ⟨rfl, A', ⟨vp', vj', vb, r', j', b, g1, g2, g3, ?_, by omega, ?_, by omega, fun x hx => Nat.le_trans (h8 x hx) (by omega)⟩, g6⟩
  · rcases g5 with ⟨rfl, rfl⟩ | ⟨hb, x, hx, rfl⟩
    · exact h4.free
    · exact h4.change hb x (undo_put hS hx)
  · rcases g5 with ⟨rfl, rfl⟩ | ⟨hb, x, hx, rfl⟩
    · omega
    · simp; omega
theorem stdDel {uk : Value} {k : List Int} (h : StD W s base A L ds n) (hn : n ≤ 1000) (hk : Src W uk k) (hkb : Byte k) (hkl : k.length ≤ 1048576) (hko : k = [] ∨ ∀ g, uk.ownBlock = some g → ¬ A g) :
    Calls Try.prog 34 #[.pointer (some ⟨s, 0, none⟩), uk] W fun e w' => e = .returned (.tuple #[]) ∧ ∃ A', StD w' s base A' (dropS L k) ds (n + 1) ∧ Fr W w' A A' := by
  have hS := h.srt
  obtain ⟨vp, vj, vb, r, j, b, h1, h2, h3, h4, h5, h6, h7, h8⟩ := h
  subst h3
  have hpl := drop_len hS k
  have hcl := cont_len r
  refine (del_any2 h1 h2 (by omega) (by omega) hk hkb hkl hko).mono ?_
  rintro e w' ⟨rfl, A', vp', vj', r', j', g1, g2, g3, g4, g5, g6⟩
  refine ⟨rfl, A', ⟨vp', vj', vb, r', j', b, g1, g2, g3, ?_, by omega, ?_, by omega, fun x hx => Nat.le_trans (h8 x hx) (by omega)⟩, g6⟩
  · rcases g5 with ⟨e, rfl⟩ | ⟨-, ⟨rfl, rfl⟩ | ⟨hb, x, hx, rfl⟩⟩
    · rw [drop_none hS e]; exact h4
    · exact h4.free
    · exact h4.change hb x (undo_drop hS hx)
  · rcases g5 with ⟨e, rfl⟩ | ⟨-, ⟨rfl, rfl⟩ | ⟨hb, x, hx, rfl⟩⟩
    · omega
    · omega
    · simp; omega
theorem snoc_of {b : List Nat} {k : Nat} (h : b.length = k + 1) : ∃ c m, b = c ++ [m] := by
  have hne : b ≠ [] := by intro e; subst e; simp at h
  exact ⟨b.dropLast, b.getLast hne, (List.dropLast_concat_getLast hne).symm⟩
end
theorem stdNew (W : World) : Calls Try.prog 10 #[] W fun e w' => e = .returned (.pointer (some ⟨W.heap.size, 0, none⟩)) ∧ StD w' W.heap.size W.heap.size (fun k => k = W.heap.size) [] [] 0 ∧ Below W.heap.size W w' := by
  refine (new_any W).mono ?_
  rintro e w' ⟨rfl, h, hb⟩
  exact ⟨rfl, ⟨_, _, _, [], [], [], h, List.Pairwise.nil, rfl, Jr.start _, by simp, by simp, by simp, by simp⟩, hb⟩
/-- A list of keys that can be read. -/
def Kst (W : World) (v : Value) (K : List (List Int)) : Prop := (∃ a c, v = .slice a K.length c) ∧ ∀ (i : Nat) (hi : i < K.length), ∃ g cap a c, v = .slice (some ⟨g, 0, none⟩) K.length cap ∧ g < W.heap.size ∧ W.cell? ⟨g, i, none⟩ = some (.slice a K[i].length c) ∧ IsBytes W (.slice a K[i].length c) K[i]
theorem Kst.below {W W' : World} {v : Value} {K : List (List Int)} (h : Kst W v K) (hb : Below W.heap.size W W') : Kst W' v K := by
  refine ⟨h.1, fun i hi => ?_⟩
  obtain ⟨g, cap, a, c, e, h1, h2, h3⟩ := h.2 i hi
  exact ⟨g, cap, a, c, e, Nat.lt_of_lt_of_le h1 hb.size, (hb.cell (p := ⟨g, i, none⟩) h1).trans h2, h3.below hb⟩
theorem kst_of {W : World} {base : Nat} {v : Value} {ks : List (Value × List Int)} (h : W.ownsRow base 77 1 v ks.length (ks.map (·.1))) (hb : ∀ x ∈ ks, IsBytes W x.1 x.2) : Kst W v (ks.map (·.2)) := by
  refine ⟨by rw [List.length_map]; exact row_slice h, fun i hi => ?_⟩
  rw [List.length_map] at hi
  rcases h.2 with ⟨_, h0⟩ | ⟨g, cap, cur, rfl, h1, h2, h3⟩
  · omega
  · have hc := World.ownsRow.cellAt h i (by omega)
    rw [List.getElem?_map, List.getElem?_eq_getElem hi] at hc
    have hx := hb ks[i] (List.getElem_mem hi)
    obtain ⟨a, c, e⟩ := hx.slice
    have e2 : (ks.map (·.2))[i]'(by rw [List.length_map]; exact hi) = ks[i].2 := by simp
    refine ⟨g, cap, a, c, by rw [List.length_map], (Array.getElem?_eq_some_iff.1 h2).1, ?_, ?_⟩
    · rw [e2, ← e]; exact hc
    · rw [e2, ← e]; exact hx
section
variable {W : World} {s base : Nat} {A : Nat → Prop} {L : List (List Int × List Int)} {ds : List (List (List Int × List Int))} {n : Nat} {u : Value} {k p : List Int}
theorem stdGet (h : StD W s base A L ds n) (hn : n ≤ 1000) (hu : Src W u k) (hk : Byte k) :
    Calls Try.prog 39 #[.pointer (some ⟨s, 0, none⟩), u] W fun e w' => Below W.heap.size W w' ∧ ((getS L k = none ∧ e = .returned (.tuple #[.slice none 0 0, .bool false])) ∨ ∃ v q, getS L k = some q ∧ e = .returned (.tuple #[v, .bool true]) ∧ IsBytes w' v q) := by
  obtain ⟨vp, vj, vb, r, j, b, h1, h2, h3, h4, h5, h6, h7, h8⟩ := h
  subst h3
  have hcl := cont_len r
  refine (get_any h1 h2 (by omega) hu hk).mono ?_
  rintro e w' ⟨hb, ⟨e1, rfl⟩ | ⟨v, g, q, e1, rfl, ho, -, -, hql⟩⟩
  · exact ⟨hb, .inl ⟨e1, rfl⟩⟩
  · exact ⟨hb, .inr ⟨_, _, e1, rfl, ho.isB hql⟩⟩
theorem stdKeys (h : StD W s base A L ds n) (hn : n ≤ 1000) (hu : Src W u p) (hp : Byte p) (hpl : p.length ≤ 1048576) :
    Calls Try.prog 48 #[.pointer (some ⟨s, 0, none⟩), u] W fun e w' => ∃ v, e = .returned v ∧ Kst w' v (keysS L p) ∧ Below W.heap.size W w' := by
  obtain ⟨vp, vj, vb, r, j, b, h1, h2, h3, h4, h5, h6, h7, h8⟩ := h
  subst h3
  have hcl := cont_len r
  refine (keys_any h1 h2 (by omega) hu hp hpl).mono ?_
  rintro e w' ⟨v, ks, i, f, rfl, g1, g2, g3, g4⟩
  rw [runS_keys h2 g2] at g3
  refine ⟨v, rfl, ?_, g4⟩
  rw [← g3]
  refine kst_of g1.row (fun x hx => ?_)
  obtain ⟨g, -, ho⟩ := g1.own x hx
  refine ho.isB ?_
  have hx2 : x.2 ∈ keysS (cont r) p := by rw [← g3]; exact List.mem_map_of_mem hx
  rw [← keysS_cont] at hx2
  obtain ⟨y, hy, hyx⟩ := List.mem_map.1 hx2
  rw [← hyx]
  exact (h1.recs y (List.mem_filter.1 hy).1).1.2.2
theorem stdDepth (h : StD W s base A L ds n) : Calls Try.prog 74 #[.pointer (some ⟨s, 0, none⟩)] W fun e w' => e = .returned (.int .i64 (ds.length : Int)) ∧ w' = W := by
  obtain ⟨vp, vj, vb, r, j, b, h1, h2, h3, h4, h5⟩ := h
  rw [← h4.len]
  exact depth_any h1
end
theorem keysS_all (L : List (List Int × List Int)) : (keysS L []).length = L.length := by
  unfold keysS
  rw [List.filter_eq_self.2 (fun x _ => by simp [begs]), List.length_map]
end Go.Proofs.Ytafcianpajheiaa
