
/- store: Set, Delete, Begin, Commit. -/
import Derived.Test.YtafcianpajheiaaO7
set_option linter.unusedSimpArgs false
set_option linter.unusedVariables false
set_option maxRecDepth 20000
namespace Go.Proofs.Ytafcianpajheiaa
open Go.RowKit

section
variable {W : World} {s base : Nat} {A : Nat → Prop} {vp vj vb : Value} {r : List Rec} {j : List Was} {b : List Nat}
/-- What is handed in stays as it is, if it isn't the store's. -/
theorem Src.fr {W W' : World} {A A' : Nat → Prop} {u : Value} {q : List Int} (h : Src W u q) (hf : Fr W W' A A') (ho : ∀ g, u.ownBlock = some g → ¬ A g) : Src W' u q := by
  rcases h with h | ⟨ad, cap, e, hc⟩
  · exact .inl h
  · refine .inr ⟨ad, cap, e, fun i x hi => ?_⟩
    have h1 := hc i x hi
    have hbl : (ad.add i).block = ad.block := by unfold Addr.add; split <;> rfl
    have hlt : ad.block < W.heap.size := by
      rcases Nat.lt_or_ge ad.block W.heap.size with h | h
      · exact h
      · rw [World.cell?, hbl, Array.getElem?_eq_none h] at h1; simp at h1
    exact (World.cell?_of_block (a := ad.add i) (by rw [hbl]; exact hf.block _ hlt (ho _ (by rw [e]; rfl)))).trans h1
set_option maxHeartbeats 4000000 in
theorem set_any {uk uv : Value} {k v : List Int} (h : StC W s base A vp vj vb r j b) (hs : Srt r) (hn : r.length < 100000) (hj : j.length ≤ 100000) (hk : Src W uk k) (hv : Src W uv v) (hkb : Byte k) (hvb : Byte v) (hkl : k.length ≤ 1048576) (hvl : v.length ≤ 1048576) (hko : ∀ g, uk.ownBlock = some g → ¬ A g) (hvo : ∀ g, uv.ownBlock = some g → ¬ A g) :
    Calls Try.prog 35 #[.pointer (some ⟨s, 0, none⟩), uk, uv] W fun e w' => e = .returned (.tuple #[]) ∧ ∃ A' vp' vj' r' j', StC w' s base A' vp' vj' vb r' j' b ∧ Srt r' ∧ cont r' = putS (cont r) k v ∧ r'.length ≤ r.length + 1 ∧ JS (cont r) k j j' b ∧ Fr W w' A A' := by
  have hN := note_any h hs (by omega) hj hk hkb hkl
  obtain ⟨sk, ck, rfl, -⟩ := hk.parts
  obtain ⟨sv, cv, rfl, -⟩ := hv.parts
  go_enter Try.func35, Try.ntmps35
  go_wp2_with (first
    | (go_at_call 51; refine hN.mono ?_; rintro e w1 ⟨rfl, A1, vj1, j1, h1, hJ, f1⟩; have hk1 := hk.fr f1 hko; have hv1 := hv.fr f1 hvo; have hO1 := own_any hkl hk1)
    | (go_at_call 54; refine hO1.mono ?_; rintro e w2 ⟨kv, rfl, ho2, hb2⟩; have hv2 := hv1.kept (grown_none hb2); have hO2 := own_any hvl hv2; clear hO1; obtain rfl := ho2.1)
    | (go_at_call 54; refine hO2.mono ?_; rintro e w3 ⟨vv, rfl, ho3, hb3⟩; clear hO2; have ho2' := ho2.kept (hb3.block _ ho2.lt); have h3 := ((h1.below hb2).below hb3).ext (B := fun n => A1 n ∨ n = w1.heap.size ∨ n = w2.heap.size) (fun n hn => .inl hn) (fun n hn => by rcases hn with hn | rfl | rfl; exact (((h1.below hb2).below hb3).foot n hn); exact ⟨h1.le, ho2'.lt⟩; exact ⟨Nat.le_trans h1.le hb2.size, ho3.lt⟩); have hP := put_any h3 hs hn (ho2'.inA (.inr (.inl rfl)) hkb hkl) (ho3.inA (.inr (.inr rfl)) hvb hvl); obtain rfl := ho3.1)
    | (go_at_call 53; refine hP.mono ?_; rintro e w4 ⟨rfl, A4, vp4, r4, h4, hs4, hc4, hl4, f4⟩))
  refine bodyPost_end (v := .tuple #[]) (by simp [results, Try.results35]) rfl ?_
  have fm : Fr w1 w3 A1 (fun n => A1 n ∨ n = w1.heap.size ∨ n = w2.heap.size) := (Fr.more (W := w1) (fun n hn => .inl hn) (fun n hn => by rcases hn with hn | hn | hn; exact .inl hn; exact .inr (by omega); exact .inr (by have := hb2.size; omega))).trans (Fr.below (bt hb2 hb3))
  exact ⟨rfl, _, _, _, _, _, h4, hs4, hc4, hl4, hJ, (f1.trans fm).trans f4⟩
set_option maxHeartbeats 4000000 in
theorem del_any {uk : Value} {k : List Int} (h : StC W s base A vp vj vb r j b) (hs : Srt r) (hn : r.length ≤ 100000) (hj : j.length ≤ 100000) (hk : Src W uk k) (hkb : Byte k) (hkl : k.length ≤ 1048576) (hko : ∀ g, uk.ownBlock = some g → ¬ A g) :
    Calls Try.prog 34 #[.pointer (some ⟨s, 0, none⟩), uk] W fun e w' => e = .returned (.tuple #[]) ∧ ∃ A' vp' vj' r' j', StC w' s base A' vp' vj' vb r' j' b ∧ Srt r' ∧ cont r' = dropS (cont r) k ∧ r'.length ≤ r.length ∧ ((getS (cont r) k = none ∧ j' = j) ∨ (getS (cont r) k ≠ none ∧ JS (cont r) k j j' b)) ∧ Fr W w' A A' := by
  have hF := find_any h hs (by omega) hk hkb
  have hk' := hk
  obtain ⟨sk, ck, rfl, -⟩ := hk'.parts
  go_enter Try.func34, Try.ntmps34
  go_wp2_with (first
    | (go_at_call 50; refine hF.mono ?_; rintro e w1 ⟨i, f, rfl, hfs, hb1⟩; have h1 := h.below hb1; have hk1 := hk.kept (grown_none hb1); have hN := note_any h1 hs (by omega) hj hk1 hkb hkl; cases f)
    | (go_at_call 51; refine hN.mono ?_; rintro e w2 ⟨rfl, A2, vj2, j2, h2, hJ, f2⟩; have hk2 := hk1.fr f2 hko; have hD := drop_any h2 hs hn hk2 hkb)
    | (go_at_call 52; refine hD.mono ?_; rintro e w3 ⟨rfl, A3, vp3, r3, h3, hs3, hc3, hl3, f3⟩))
  · refine bodyPost_end (v := .tuple #[]) (by simp [results, Try.results34]) rfl ?_
    refine ⟨rfl, _, _, _, _, _, h1, hs, ?_, Nat.le_refl _, .inl ⟨get_no hfs hs, rfl⟩, Fr.below hb1⟩
    rw [dropS, filter_lo hfs, filter_no hfs hs, ← cont_app, List.take_append_drop]
  · refine bodyPost_end (v := .tuple #[]) (by simp [results, Try.results34]) rfl ?_
    obtain ⟨hi, hik, hgt⟩ := hfs.yes hs
    exact ⟨rfl, _, _, _, _, _, h3, hs3, hc3, hl3, .inr ⟨by rw [get_yes hfs hs hi]; simp, hJ⟩, ((Fr.below hb1).trans f2).trans f3⟩
end
end Go.Proofs.Ytafcianpajheiaa
