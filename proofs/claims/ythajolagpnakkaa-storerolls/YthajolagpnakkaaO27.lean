
/- Keys of both stores. -/
import Derived.Test.YthajolagpnakkaaO26
set_option linter.unusedSimpArgs false
set_option linter.unusedVariables false
namespace Go.Proofs.Ythajolagpnakkaa
open Go.RowKit

/-- A list of keys that can be read. -/
def Kst (W : World) (v : Value) (K : List (List Int)) : Prop := (∃ a c, v = .slice a K.length c) ∧ ∀ (i : Nat) (hi : i < K.length), ∃ g cap a c, v = .slice (some ⟨g, 0, none⟩) K.length cap ∧ g < W.heap.size ∧ W.cell? ⟨g, i, none⟩ = some (.slice a K[i].length c) ∧ IsBytes W (.slice a K[i].length c) K[i]
theorem Kst.below {W W' : World} {v : Value} {K : List (List Int)} (h : Kst W v K) (hb : Below W.heap.size W W') : Kst W' v K := by
  refine ⟨h.1, fun i hi => ?_⟩
  obtain ⟨g, cap, a, c, e, h1, h2, h3⟩ := h.2 i hi
  exact ⟨g, cap, a, c, e, Nat.lt_of_lt_of_le h1 hb.size, (hb.cell (p := ⟨g, i, none⟩) h1).trans h2, h3.below hb⟩
theorem kst_of {W : World} {base : Nat} {v : Value} {ks : List (Value × List Int)} (h : W.ownsRow base 33 1 v ks.length (ks.map (·.1))) (hb : ∀ x ∈ ks, IsBytes W x.1 x.2) : Kst W v (ks.map (·.2)) := by
  refine ⟨by rw [List.length_map]; exact row_slice h, fun i hi => ?_⟩
  rw [List.length_map] at hi
  rcases h.2 with ⟨_, h0⟩ | ⟨g, cap, cur, rfl, h1, h2, h3⟩
  · omega
  · have hc := World.ownsRow.cellAt h i (by omega)
    rw [List.getElem?_map, List.getElem?_eq_getElem hi] at hc
    have hx := hb ks[i] (List.getElem_mem hi)
    obtain ⟨a, c, e⟩ := hx.slice
    have e2 : (ks.map (·.2))[i]'(by rw [List.length_map]; exact hi) = ks[i].2 := by simp
    refine ⟨g, cap, a, c, by rw [List.length_map], (Array.getElem?_eq_some_iff.1 h2).1, ?_, ?_⟩
    · rw [e2, ← e]; exact hc
    · rw [e2, ← e]; exact hx
section
variable {W : World} {s base : Nat} {A : Nat → Prop} {L : List (List Int × List Int)} {ds : List (List (List Int × List Int))} {n : Nat} {u : Value} {p : List Int}
theorem stdKeys (h : StD W s base A L ds n) (hn : n ≤ 1000) (hu : Src W u p) (hp : Byte p) (hpl : p.length ≤ 1048576) :
    Calls Try.prog 23 #[.pointer (some ⟨s, 0, none⟩), u] W fun e w' => ∃ v, e = .returned v ∧ Kst w' v (keysS L p) ∧ Below W.heap.size W w' := by
  obtain ⟨vp, vj, vb, r, j, b, h1, h2, h3, h4, h5, h6, h7, h8⟩ := h
  subst h3
  have hcl := cont_len r
  refine (keys_any h1 h2 (by omega) hu hp hpl).mono ?_
  rintro e w' ⟨v, ks, i, f, rfl, g1, g2, g3, g4⟩
  rw [runS_keys h2 g2] at g3
  refine ⟨v, rfl, ?_, g4⟩
  rw [← g3]
  refine kst_of g1.row (fun x hx => ?_)
  obtain ⟨g, -, ho⟩ := g1.own x hx
  refine ho.isB ?_
  have hx2 : x.2 ∈ keysS (cont r) p := by rw [← g3]; exact List.mem_map_of_mem hx
  rw [← keysS_cont] at hx2
  obtain ⟨y, hy, hyx⟩ := List.mem_map.1 hx2
  rw [← hyx]
  exact (h1.recs y (List.mem_filter.1 hy).1).1.2.2
theorem rdKeys (h : RD W s base A L ds n) (hn : n ≤ 1000) (hu : IsBytes W u p) (hpl : p.length ≤ 1048576) :
    Calls Try.prog 24 #[.pointer (some ⟨s, 0, none⟩), u] W fun e w' => ∃ v, e = .returned v ∧ Kst w' v (keysS L p) ∧ Below W.heap.size W w' := by
  obtain ⟨C, vl, vw, ws, l, was, h1, h2, h3, h4, h5, h6, h7⟩ := h
  subst h2
  have hcl := cont_len l
  refine (refKeys_any h1 (by omega) hu hpl).mono ?_
  rintro e w' ⟨v, rfl, g1, g2⟩
  refine ⟨v, rfl, ?_, g2⟩
  have hk := kst_of (W := w') (base := W.heap.size) (v := v) (ks := (l.filter (fun x => begs x.k p)).map (fun x => (x.kv, x.k))) (by rw [List.length_map, List.map_map]; exact g1) (fun x hx => by
    obtain ⟨y, hy, rfl⟩ := List.mem_map.1 hx
    exact (h1.cur.all y (List.mem_filter.1 hy).1).1.k.below g2)
  rw [List.map_map] at hk
  rw [← keysS_cont]
  exact hk
theorem stdLen (h : StD W s base A L ds n) : Calls Try.prog 27 #[.pointer (some ⟨s, 0, none⟩)] W fun e w' => e = .returned (.int .i64 (L.length : Int)) ∧ w' = W := by
  obtain ⟨vp, vj, vb, r, j, b, h1, h2, h3, h4, h5⟩ := h
  subst h3
  rw [cont_len]
  exact len_any h1
theorem stdDepth (h : StD W s base A L ds n) : Calls Try.prog 18 #[.pointer (some ⟨s, 0, none⟩)] W fun e w' => e = .returned (.int .i64 (ds.length : Int)) ∧ w' = W := by
  obtain ⟨vp, vj, vb, r, j, b, h1, h2, h3, h4, h5⟩ := h
  rw [← h4.len]
  exact depth_any h1
theorem keysS_all (L : List (List Int × List Int)) : (keysS L []).length = L.length := by
  unfold keysS
  rw [List.filter_eq_self.2 (fun x _ => by simp [begs]), List.length_map]
end
end Go.Proofs.Ythajolagpnakkaa
