
/- Both stores, each as it stands behind a deed. -/
import Derived.Test.YthajolagpnakkaaO19
set_option linter.unusedSimpArgs false
set_option linter.unusedVariables false
namespace Go.Proofs.Ythajolagpnakkaa
open Go.RowKit

theorem Src.nil {W W' : World} {u : Value} (h : Src W u []) : Src W' u [] := by
  rcases h with h | ⟨ad, cap, e, -⟩
  · exact .inl h
  · exact .inr ⟨ad, cap, e, by simp⟩
theorem Src.fr2 {W W' : World} {A A' : Nat → Prop} {u : Value} {q : List Int} (h : Src W u q) (hf : Fr W W' A A') (ho : q = [] ∨ ∀ g, u.ownBlock = some g → ¬ A g) : Src W' u q := by
  rcases ho with rfl | ho
  · exact h.nil
  · exact h.fr hf ho
section
variable {W : World} {s base : Nat} {A : Nat → Prop} {vp vj vb : Value} {r : List Rec} {j : List Was} {b : List Nat}
set_option maxHeartbeats 4000000 in
theorem set_any2 {uk uv : Value} {k v : List Int} (h : StC W s base A vp vj vb r j b) (hs : Srt r) (hn : r.length < 100000) (hj : j.length ≤ 100000) (hk : Src W uk k) (hv : Src W uv v) (hkb : Byte k) (hvb : Byte v) (hkl : k.length ≤ 1048576) (hvl : v.length ≤ 1048576) (hko : k = [] ∨ ∀ g, uk.ownBlock = some g → ¬ A g) (hvo : v = [] ∨ ∀ g, uv.ownBlock = some g → ¬ A g) :
    Calls Try.prog 32 #[.pointer (some ⟨s, 0, none⟩), uk, uv] W fun e w' => e = .returned (.tuple #[]) ∧ ∃ A' vp' vj' r' j', StC w' s base A' vp' vj' vb r' j' b ∧ Srt r' ∧ cont r' = putS (cont r) k v ∧ r'.length ≤ r.length + 1 ∧ JS (cont r) k j j' b ∧ Fr W w' A A' := by
  have hN := note_any h hs (by omega) hj hk hkb hkl
  obtain ⟨sk, ck, rfl, -⟩ := hk.parts
  obtain ⟨sv, cv, rfl, -⟩ := hv.parts
  go_enter Try.func32, Try.ntmps32
  go_wp2_with (first
    | (go_at_call 46; refine hN.mono ?_; rintro e w1 ⟨rfl, A1, vj1, j1, h1, hJ, f1⟩; have hk1 := hk.fr2 f1 hko; have hv1 := hv.fr2 f1 hvo; have hO1 := own_any hkl hk1)
    | (go_at_call 37; refine hO1.mono ?_; rintro e w2 ⟨kv, rfl, ho2, hb2⟩; have hv2 := hv1.kept (grown_none hb2); have hO2 := own_any hvl hv2; clear hO1; obtain rfl := ho2.1)
    | (go_at_call 37; refine hO2.mono ?_; rintro e w3 ⟨vv, rfl, ho3, hb3⟩; clear hO2; have ho2' := ho2.kept (hb3.block _ ho2.lt); have h3 := ((h1.below hb2).below hb3).ext (B := fun n => A1 n ∨ n = w1.heap.size ∨ n = w2.heap.size) (fun n hn => .inl hn) (fun n hn => by rcases hn with hn | rfl | rfl; exact (((h1.below hb2).below hb3).foot n hn); exact ⟨h1.le, ho2'.lt⟩; exact ⟨Nat.le_trans h1.le hb2.size, ho3.lt⟩); have hP := put_any h3 hs hn (ho2'.inA (.inr (.inl rfl)) hkb hkl) (ho3.inA (.inr (.inr rfl)) hvb hvl); obtain rfl := ho3.1)
    | (go_at_call 47; refine hP.mono ?_; rintro e w4 ⟨rfl, A4, vp4, r4, h4, hs4, hc4, hl4, f4⟩))
  refine bodyPost_end (v := .tuple #[]) (by simp [results, Try.results32]) rfl ?_
  have fm : Fr w1 w3 A1 (fun n => A1 n ∨ n = w1.heap.size ∨ n = w2.heap.size) := (Fr.more (W := w1) (fun n hn => .inl hn) (fun n hn => by rcases hn with hn | hn | hn; exact .inl hn; exact .inr (by omega); exact .inr (by have := hb2.size; omega))).trans (Fr.below (bt hb2 hb3))
  exact ⟨rfl, _, _, _, _, _, h4, hs4, hc4, hl4, hJ, (f1.trans fm).trans f4⟩
set_option maxHeartbeats 4000000 in
theorem del_any2 {uk : Value} {k : List Int} (h : StC W s base A vp vj vb r j b) (hs : Srt r) (hn : r.length ≤ 100000) (hj : j.length ≤ 100000) (hk : Src W uk k) (hkb : Byte k) (hkl : k.length ≤ 1048576) (hko : k = [] ∨ ∀ g, uk.ownBlock = some g → ¬ A g) :
    Calls Try.prog 33 #[.pointer (some ⟨s, 0, none⟩), uk] W fun e w' => e = .returned (.tuple #[]) ∧ ∃ A' vp' vj' r' j', StC w' s base A' vp' vj' vb r' j' b ∧ Srt r' ∧ cont r' = dropS (cont r) k ∧ r'.length ≤ r.length ∧ ((getS (cont r) k = none ∧ j' = j) ∨ (getS (cont r) k ≠ none ∧ JS (cont r) k j j' b)) ∧ Fr W w' A A' := by
  have hF := find_any h hs (by omega) hk hkb
  have hk' := hk
  obtain ⟨sk, ck, rfl, -⟩ := hk'.parts
  go_enter Try.func33, Try.ntmps33
  go_wp2_with (first
    | (go_at_call 44; refine hF.mono ?_; rintro e w1 ⟨i, f, rfl, hfs, hb1⟩; have h1 := h.below hb1; have hk1 := hk.kept (grown_none hb1); have hN := note_any h1 hs (by omega) hj hk1 hkb hkl; cases f)
    | (go_at_call 46; refine hN.mono ?_; rintro e w2 ⟨rfl, A2, vj2, j2, h2, hJ, f2⟩; have hk2 := hk1.fr2 f2 hko; have hD := drop_any h2 hs hn hk2 hkb)
    | (go_at_call 48; refine hD.mono ?_; rintro e w3 ⟨rfl, A3, vp3, r3, h3, hs3, hc3, hl3, f3⟩))
  · refine bodyPost_end (v := .tuple #[]) (by simp [results, Try.results33]) rfl ?_
    refine ⟨rfl, _, _, _, _, _, h1, hs, ?_, Nat.le_refl _, .inl ⟨get_no hfs hs, rfl⟩, Fr.below hb1⟩
    rw [dropS, filter_lo hfs, filter_no hfs hs, ← cont_app, List.take_append_drop]
  · refine bodyPost_end (v := .tuple #[]) (by simp [results, Try.results33]) rfl ?_
    obtain ⟨hi, -, -⟩ := hfs.yes hs
    exact ⟨rfl, _, _, _, _, _, h3, hs3, hc3, hl3, .inr ⟨by rw [get_yes hfs hs hi]; simp, hJ⟩, ((Fr.below hb1).trans f2).trans f3⟩
end

theorem put_len {l : List (List Int × List Int)} (h : SrtC l) (k v : List Int) : (putS l k v).length ≤ l.length + 1 := by
  obtain ⟨a, c, ha, hc, he⟩ := split_srt h k
  rcases he with ⟨-, e2⟩ | ⟨u, -, e2⟩
  · rw [e2, put_new v ha hc]; simp; omega
  · rw [e2, put_mid u v ha hc]; simp
theorem drop_len {l : List (List Int × List Int)} (h : SrtC l) (k : List Int) : (dropS l k).length ≤ l.length := by
  obtain ⟨a, c, ha, hc, he⟩ := split_srt h k
  rcases he with ⟨-, e2⟩ | ⟨u, -, e2⟩
  · rw [e2, drop_new ha hc]; omega
  · rw [e2, drop_mid u ha hc]; simp
theorem srt_dropS {l : List (List Int × List Int)} (h : SrtC l) (k : List Int) : SrtC (dropS l k) := by
  obtain ⟨a, c, ha, hc, he⟩ := split_srt h k
  rcases he with ⟨-, e2⟩ | ⟨u, -, e2⟩
  · rw [e2, drop_new ha hc, ← e2]; exact h
  · rw [e2, drop_mid u ha hc]
    rw [e2] at h
    exact h.sublist (List.Sublist.append (List.Sublist.refl _) (List.sublist_cons_self _ _))
theorem cont_srt {r : List Rec} (h : SrtC (cont r)) : Srt r := by
  unfold SrtC cont at h
  rw [List.pairwise_map] at h
  exact h
theorem cont_len (r : List Rec) : (cont r).length = r.length := by simp [cont]
/-- The program's store: what is in it, and what was when each part began. -/
def StD (W : World) (s base : Nat) (A : Nat → Prop) (L : List (List Int × List Int)) (ds : List (List (List Int × List Int))) (n : Nat) : Prop :=
  ∃ vp vj vb r j b, StC W s base A vp vj vb r j b ∧ Srt r ∧ cont r = L ∧ Jr L j b ds ∧ L.length ≤ n ∧ j.length ≤ n ∧ ds.length ≤ n ∧ ∀ x ∈ ds, x.length ≤ n
/-- The reference's, likewise. -/
def RD (W : World) (m base : Nat) (B : Nat → Prop) (L : List (List Int × List Int)) (ds : List (List (List Int × List Int))) (n : Nat) : Prop :=
  ∃ C vl vw ws l was, RS W m base B C vl vw ws l was ∧ cont l = L ∧ was.map cont = ds ∧ SrtC L ∧ L.length ≤ n ∧ ds.length ≤ n ∧ ∀ x ∈ ds, SrtC x ∧ x.length ≤ n
section
variable {W : World} {s base : Nat} {A : Nat → Prop} {L : List (List Int × List Int)} {ds : List (List (List Int × List Int))} {n : Nat}
theorem StD.kept {W' : World} (h : StD W s base A L ds n) (e : ∀ k, A k → W'.heap[k]? = W.heap[k]?) (hs : W.heap.size ≤ W'.heap.size) : StD W' s base A L ds n := by
  obtain ⟨vp, vj, vb, r, j, b, h1, h2⟩ := h
  exact ⟨vp, vj, vb, r, j, b, h1.kept e hs, h2⟩
theorem StD.foot (h : StD W s base A L ds n) : ∀ k, A k → base ≤ k ∧ k < W.heap.size := by
  obtain ⟨vp, vj, vb, r, j, b, h1, h2⟩ := h
  exact h1.foot
theorem StD.below {W' : World} (h : StD W s base A L ds n) (hb : Below W.heap.size W W') : StD W' s base A L ds n :=
  h.kept (fun k hk => hb.block k (h.foot k hk).2) hb.size
theorem StD.srt (h : StD W s base A L ds n) : SrtC L := by
  obtain ⟨vp, vj, vb, r, j, b, h1, h2, h3, -⟩ := h
  exact h3 ▸ srt_cont h2
theorem StD.up (h : StD W s base A L ds n) {n' : Nat} (hn : n ≤ n') : StD W s base A L ds n' := by
  obtain ⟨vp, vj, vb, r, j, b, h1, h2, h3, h4, h5, h6, h7, h8⟩ := h
  exact ⟨vp, vj, vb, r, j, b, h1, h2, h3, h4, by omega, by omega, by omega, fun x hx => Nat.le_trans (h8 x hx) hn⟩
theorem RD.kept {W' : World} (h : RD W s base A L ds n) (e : ∀ k, A k → W'.heap[k]? = W.heap[k]?) (hs : W.heap.size ≤ W'.heap.size) : RD W' s base A L ds n := by
  obtain ⟨C, vl, vw, ws, l, was, h1, h2⟩ := h
  exact ⟨C, vl, vw, ws, l, was, h1.kept e hs, h2⟩
theorem RD.foot (h : RD W s base A L ds n) : ∀ k, A k → base ≤ k ∧ k < W.heap.size := by
  obtain ⟨C, vl, vw, ws, l, was, h1, h2⟩ := h
  exact h1.foot
theorem RD.below {W' : World} (h : RD W s base A L ds n) (hb : Below W.heap.size W W') : RD W' s base A L ds n :=
  h.kept (fun k hk => hb.block k (h.foot k hk).2) hb.size
theorem RD.srt (h : RD W s base A L ds n) : SrtC L := by
  obtain ⟨C, vl, vw, ws, l, was, h1, h2, h3, h4, -⟩ := h
  exact h4
theorem stdSet {uk uv : Value} {k v : List Int} (h : StD W s base A L ds n) (hn : n ≤ 1000) (hk : Src W uk k) (hv : Src W uv v) (hkb : Byte k) (hvb : Byte v) (hkl : k.length ≤ 1048576) (hvl : v.length ≤ 1048576) (hko : k = [] ∨ ∀ g, uk.ownBlock = some g → ¬ A g) (hvo : v = [] ∨ ∀ g, uv.ownBlock = some g → ¬ A g) :
    Calls Try.prog 32 #[.pointer (some ⟨s, 0, none⟩), uk, uv] W fun e w' => e = .returned (.tuple #[]) ∧ ∃ A', StD w' s base A' (putS L k v) ds (n + 1) ∧ Fr W w' A A' := by
  have hS := h.srt
  obtain ⟨vp, vj, vb, r, j, b, h1, h2, h3, h4, h5, h6, h7, h8⟩ := h
  subst h3
  have hpl := put_len hS k v
  have hcl := cont_len r
  refine (set_any2 h1 h2 (by omega) (by omega) hk hv hkb hvb hkl hvl hko hvo).mono ?_
  rintro e w' ⟨rfl, A', vp', vj', r', j', g1, g2, g3, g4, g5, g6⟩
  refine ⟨rfl, A', ⟨vp', vj', vb, r', j', b, g1, g2, g3, ?_, by omega, ?_, by omega, fun x hx => Nat.le_trans (h8 x hx) (by omega)⟩, g6⟩
  · rcases g5 with ⟨rfl, rfl⟩ | ⟨hb, x, hx, rfl⟩
    · exact h4.free
    · exact h4.change hb x (undo_put hS hx)
  · rcases g5 with ⟨rfl, rfl⟩ | ⟨hb, x, hx, rfl⟩
    · omega
    · simp; omega
theorem stdDel {uk : Value} {k : List Int} (h : StD W s base A L ds n) (hn : n ≤ 1000) (hk : Src W uk k) (hkb : Byte k) (hkl : k.length ≤ 1048576) (hko : k = [] ∨ ∀ g, uk.ownBlock = some g → ¬ A g) :
    Calls Try.prog 33 #[.pointer (some ⟨s, 0, none⟩), uk] W fun e w' => e = .returned (.tuple #[]) ∧ ∃ A', StD w' s base A' (dropS L k) ds (n + 1) ∧ Fr W w' A A' := by
  have hS := h.srt
  obtain ⟨vp, vj, vb, r, j, b, h1, h2, h3, h4, h5, h6, h7, h8⟩ := h
  subst h3
  have hpl := drop_len hS k
  have hcl := cont_len r
  refine (del_any2 h1 h2 (by omega) (by omega) hk hkb hkl hko).mono ?_
  rintro e w' ⟨rfl, A', vp', vj', r', j', g1, g2, g3, g4, g5, g6⟩
  refine ⟨rfl, A', ⟨vp', vj', vb, r', j', b, g1, g2, g3, ?_, by omega, ?_, by omega, fun x hx => Nat.le_trans (h8 x hx) (by omega)⟩, g6⟩
  · rcases g5 with ⟨e, rfl⟩ | ⟨-, ⟨rfl, rfl⟩ | ⟨hb, x, hx, rfl⟩⟩
    · rw [drop_none hS e]; exact h4
    · exact h4.free
    · exact h4.change hb x (undo_drop hS hx)
  · rcases g5 with ⟨e, rfl⟩ | ⟨-, ⟨rfl, rfl⟩ | ⟨hb, x, hx, rfl⟩⟩
    · omega
    · omega
    · simp; omega
theorem stdBegin (h : StD W s base A L ds n) (hn : n ≤ 1000) :
    Calls Try.prog 19 #[.pointer (some ⟨s, 0, none⟩)] W fun e w' => e = .returned (.tuple #[]) ∧ ∃ A', StD w' s base A' L (ds ++ [L]) (n + 1) ∧ Fr W w' A A' := by
  obtain ⟨vp, vj, vb, r, j, b, h1, h2, h3, h4, h5, h6, h7, h8⟩ := h
  have hl := h4.len
  refine (begin_any h1 (by omega) (by omega)).mono ?_
  rintro e w' ⟨rfl, A', vb', g1, g2⟩
  refine ⟨rfl, A', ⟨vp, vj, vb', r, j, _, g1, h2, h3, h4.beg, by omega, by omega, by simp; omega, fun x hx => ?_⟩, g2⟩
  rcases List.mem_append.1 hx with hx | hx
  · exact Nat.le_trans (h8 x hx) (by omega)
  · rw [List.mem_singleton] at hx; subst hx; omega
theorem stdCommit_none (h : StD W s base A L [] n) : Calls Try.prog 20 #[.pointer (some ⟨s, 0, none⟩)] W fun e w' => e = .returned (.bool false) ∧ w' = W := by
  obtain ⟨vp, vj, vb, r, j, b, h1, h2, h3, h4, h5⟩ := h
  obtain rfl : b = [] := List.eq_nil_of_length_eq_zero h4.len
  exact commit_none h1
theorem stdRoll_none (h : StD W s base A L [] n) : Calls Try.prog 21 #[.pointer (some ⟨s, 0, none⟩)] W fun e w' => e = .returned (.bool false) ∧ w' = W := by
  obtain ⟨vp, vj, vb, r, j, b, h1, h2, h3, h4, h5⟩ := h
  obtain rfl : b = [] := List.eq_nil_of_length_eq_zero h4.len
  exact rollback_none h1
theorem snoc_of {b : List Nat} {k : Nat} (h : b.length = k + 1) : ∃ c m, b = c ++ [m] := by
  have hne : b ≠ [] := by intro e; subst e; simp at h
  exact ⟨b.dropLast, b.getLast hne, (List.dropLast_concat_getLast hne).symm⟩
theorem stdCommit {x : List (List Int × List Int)} (h : StD W s base A L (ds ++ [x]) n) (hn : n ≤ 1000) : Calls Try.prog 20 #[.pointer (some ⟨s, 0, none⟩)] W fun e w' => e = .returned (.bool true) ∧ ∃ A', StD w' s base A' L ds (n + 1) ∧ Fr W w' A A' := by
  obtain ⟨vp, vj, vb, r, j, b, h1, h2, h3, h4, h5, h6, h7, h8⟩ := h
  have hl := h4.len
  obtain ⟨b', m, rfl⟩ := snoc_of (k := ds.length) (by rw [hl]; simp)
  simp at hl h7
  refine (commit_some h1 (by omega)).mono ?_
  rintro e w' ⟨rfl, A', vj', vb', g1, g2⟩
  refine ⟨rfl, A', ⟨vp, vj', vb', r, _, b', g1, h2, h3, h4.com, by omega, ?_, by omega, fun y hy => Nat.le_trans (h8 y (by simp [hy])) (by omega)⟩, g2⟩
  unfold keepJ; split
  · simp
  · omega
theorem stdRoll {x : List (List Int × List Int)} (h : StD W s base A L (ds ++ [x]) n) (hn : n ≤ 1000) : Calls Try.prog 21 #[.pointer (some ⟨s, 0, none⟩)] W fun e w' => e = .returned (.bool true) ∧ ∃ A', StD w' s base A' x ds (n + 1) ∧ Fr W w' A A' := by
  obtain ⟨vp, vj, vb, r, j, b, h1, h2, h3, h4, h5, h6, h7, h8⟩ := h
  have hl := h4.len
  obtain ⟨b', m, rfl⟩ := snoc_of (k := ds.length) (by rw [hl]; simp)
  simp at hl h7
  have hcl := cont_len r
  subst h3
  obtain ⟨k1, k2⟩ := h4.rol
  refine (rollback_some h1 h2 (h4.le m (by simp)) (by omega) (by omega)).mono ?_
  rintro e w' ⟨rfl, A', vp', vj', vb', r', g1, g2, g3, g4, g5⟩
  refine ⟨rfl, A', ⟨vp', vj', vb', r', _, b', g1, g2, g3.trans k1, k2, ?_, ?_, by omega, fun y hy => Nat.le_trans (h8 y (by simp [hy])) (by omega)⟩, g5⟩
  · exact Nat.le_trans (h8 x (by simp)) (by omega)
  · rw [List.length_take]; omega
theorem rdSet {x : Rec} (is : Bool) (h : RD W s base A L ds n) (hn : n ≤ 1000) (hx : PB W x) (hD : ∀ g, (x.kv.ownBlock = some g ∨ x.vv.ownBlock = some g) → ¬ A g ∧ base ≤ g ∧ g < W.heap.size) :
    Calls Try.prog 34 #[.pointer (some ⟨s, 0, none⟩), x.kv, x.vv, .bool is] W fun e w' => e = .returned (.tuple #[]) ∧ ∃ B', RD w' s base B' (if is then putS L x.k x.v else dropS L x.k) ds (n + 1) ∧ Fr W w' (fun k => A k ∨ (x.kv.ownBlock = some k ∨ x.vv.ownBlock = some k)) B' := by
  obtain ⟨C, vl, vw, ws, l, was, h1, h2, h3, h4, h5, h6, h7⟩ := h
  have hcl := cont_len l
  subst h2
  have hsl := cont_srt h4
  refine (refS_any is (h1.ext (fun k => x.kv.ownBlock = some k ∨ x.vv.ownBlock = some k) hD) hx (fun g hg => .inr (.inl hg)) (fun g hg => .inr (.inr hg)) (by omega)).mono ?_
  rintro e w' ⟨rfl, B', C', vl', g1, g2⟩
  have e1 : cont (refGo x is l (!is)) = if is then putS (cont l) x.k x.v else dropS (cont l) x.k := by
    cases is
    · exact ref_drop x l hsl
    · exact ref_put x l hsl
  refine ⟨rfl, B', ⟨C', vl', vw, ws, _, was, g1, e1, h3, ?_, ?_, by omega, fun y hy => ⟨(h7 y hy).1, Nat.le_trans (h7 y hy).2 (by omega)⟩⟩, g2⟩
  · cases is
    · exact srt_dropS h4 _
    · exact srt_putS h4 _ _
  · cases is
    · exact Nat.le_trans (drop_len h4 _) (by omega)
    · exact Nat.le_trans (put_len h4 _ _) (by omega)
theorem rdBegin (h : RD W s base A L ds n) (hn : n ≤ 1000) :
    Calls Try.prog 35 #[.pointer (some ⟨s, 0, none⟩)] W fun e w' => e = .returned (.tuple #[]) ∧ ∃ A', RD w' s base A' L (ds ++ [L]) (n + 1) ∧ Fr W w' A A' := by
  obtain ⟨C, vl, vw, ws, l, was, h1, h2, h3, h4, h5, h6, h7⟩ := h
  have hwl : was.length = ds.length := by rw [← h3]; simp
  refine (refBegin_any h1 (by omega)).mono ?_
  rintro e w' ⟨rfl, B', vw', ws', g1, g2⟩
  refine ⟨rfl, B', ⟨C, vl, vw', ws', l, _, g1, h2, by rw [List.map_append, h3]; simp [h2], h4, by omega, by simp; omega, fun x hx => ?_⟩, g2⟩
  rcases List.mem_append.1 hx with hx | hx
  · exact ⟨(h7 x hx).1, Nat.le_trans (h7 x hx).2 (by omega)⟩
  · rw [List.mem_singleton] at hx; subst hx; exact ⟨h4, by omega⟩
theorem rdEnd_none {stay : Bool} (h : RD W s base A L [] n) : Calls Try.prog 36 #[.pointer (some ⟨s, 0, none⟩), .bool stay] W fun e w' => e = .returned (.bool false) ∧ w' = W := by
  obtain ⟨C, vl, vw, ws, l, was, h1, h2, h3, h4⟩ := h
  obtain rfl : was = [] := by simpa using h3
  exact refEnd_none h1
theorem map_snoc {α β : Type} {f : α → β} {l : List α} {m : List β} {y : β} (h : l.map f = m ++ [y]) : ∃ l' x, l = l' ++ [x] ∧ l'.map f = m ∧ f x = y := by
  obtain ⟨a, b, rfl, h1, h2⟩ := List.map_eq_append_iff.1 h
  match b, h2 with
  | [x], h2 => exact ⟨a, x, rfl, h1, by simpa using h2⟩
theorem rdEnd {stay : Bool} {x : List (List Int × List Int)} (h : RD W s base A L (ds ++ [x]) n) (hn : n ≤ 1000) : Calls Try.prog 36 #[.pointer (some ⟨s, 0, none⟩), .bool stay] W fun e w' => e = .returned (.bool true) ∧ ∃ A', RD w' s base A' (if stay then L else x) ds (n + 1) ∧ Fr W w' A A' := by
  obtain ⟨C, vl, vw, ws, l, was, h1, h2, h3, h4, h5, h6, h7⟩ := h
  obtain ⟨was', y, rfl, h3', rfl⟩ := map_snoc h3
  have hwl : was'.length = ds.length := by rw [← h3']; simp
  simp at h6
  have hy := h7 (cont y) (by simp)
  refine (refEnd_some (stay := stay) h1 (by omega)).mono ?_
  rintro e w' ⟨rfl, B', vl', vw', ws', g1, g2⟩
  refine ⟨rfl, B', ⟨C, vl', vw', ws', _, was', g1, ?_, h3', ?_, ?_, by omega, fun z hz => ⟨(h7 z (by simp [hz])).1, Nat.le_trans (h7 z (by simp [hz])).2 (by omega)⟩⟩, g2⟩
  · cases stay <;> simp [h2]
  · cases stay
    · exact hy.1
    · exact h4
  · cases stay
    · exact Nat.le_trans hy.2 (by omega)
    · simp; omega
end
end Go.Proofs.Ythajolagpnakkaa
