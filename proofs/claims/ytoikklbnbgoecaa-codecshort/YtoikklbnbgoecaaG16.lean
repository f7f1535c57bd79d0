
/- What is laid is what is read: plain facts. -/
import Derived.Test.YtoikklbnbgoecaaG15
set_option linter.unusedSimpArgs false
set_option linter.unusedVariables false
namespace Go.Proofs.Ytoikklbnbgoecaa
open Go.RowKit

theorem takeS_some {s : Option (List Int)} {n : Nat} {r : List Int} (h : (takeS s n).2 = some r) : s = some ((takeS s n).1 ++ r) ∧ (takeS s n).1.length = n := by
  unfold takeS at *
  match s with
  | none => simp at h
  | some p =>
    simp only at *
    split at h
    · rename_i hn
      rw [if_pos hn]
      simp at h
      subst h
      simp; omega
    · simp at h
theorem byteS_some {s : Option (List Int)} {r : List Int} (h : (byteS s).2 = some r) : s = some ((byteS s).1 :: r) := by
  obtain ⟨h1, h2⟩ := takeS_some (s := s) (n := 1) h
  have e : ∃ x, (takeS s 1).1 = [x] := by
    match hh : (takeS s 1).1, h2 with
    | [x], _ => exact ⟨x, rfl⟩
  obtain ⟨x, hx⟩ := e
  have hb : (byteS s).1 = x := by show rd (takeS s 1).1 = x; rw [hx]; simp [rd]
  rw [hb]
  rw [hx] at h1
  exact h1
theorem nS_some {s : Option (List Int)} {r : List Int} (hr : Rng s) (h : (nS s).2 = some r) : s = some (layN (nS s).1 ++ r) ∧ 0 ≤ (nS s).1 ∧ (nS s).1 < 115792089237316195423570985008687907853269984665640564039457584007913129639936 := by
  have hlim := byteS_lim hr
  have hr2 : Rng (byteS s).2 := takeS_rng2 hr 1
  unfold nS at *
  have hq := takeS_rng hr2 (byteS s).1.toNat
  rcases Bool.eq_false_or_eq_true (goodB (takeS (byteS s).2 (byteS s).1.toNat).1) with hg | hg
  · rw [hg] at h
    rw [if_pos hg]
    simp only [if_true] at h ⊢
    obtain ⟨h1, h2⟩ := takeS_some h
    obtain ⟨hgood, hl⟩ := goodB_t hg hq
    have h3 := byteS_some h1
    have hby : byL (rd (takeS (byteS s).2 (byteS s).1.toNat).1) 32 = (takeS (byteS s).2 (byteS s).1.toNat).1 := byL_rd hgood hl
    obtain ⟨z0, z1, z2, z3, hz, hv⟩ := rd_limbs hq hl
    refine ⟨?_, by rw [← hv]; exact val_lo hz, by rw [← hv]; exact val_hi hz⟩
    rw [layN, hby, h2]
    have e : ((byteS s).1.toNat : Int) = (byteS s).1 := by omega
    rw [e]
    exact h3
  · rw [hg] at h; simp at h
theorem vl_cnI {d n : Int} : vl (cnI d n) = n := by unfold vl cnI val; simp only; omega
theorem wf_cnI {d n : Int} (hd : 0 ≤ d ∧ d ≤ 255) (h0 : 0 ≤ n) (h1 : n < 115792089237316195423570985008687907853269984665640564039457584007913129639936) : CnWf (cnI d n) := by
  unfold CnWf cnI Lim; simp only; omega
theorem layL_cons (c : Cn) (l : List Cn) : layL (c :: l) = layC c ++ layL l := rfl
theorem cl_some : ∀ (k : Nat) (l : List Cn) (s : Option (List Int)) (L : List Cn) (r : List Int), Rng s → cl k l s = (L, some r) → ∃ L', L = l ++ L' ∧ L'.length = k ∧ s = some (layL L' ++ r) ∧ ∀ x ∈ L', CnWf x
  | 0, l, s, L, r, _, h => by
    simp only [cl, Prod.mk.injEq] at h
    exact ⟨[], by simp [h.1], rfl, by rw [h.2]; rfl, by simp⟩
  | k + 1, l, none, L, r, _, h => by simp [cl] at h
  | k + 1, l, some p, L, r, hr, h => by
    have hb := byteS_lim hr
    have hr1 : Rng (byteS (some p)).2 := takeS_rng2 hr 1
    have hr2 := nS_rng hr1
    obtain ⟨L', h1, h2, h3, h4⟩ := cl_some k _ _ L r hr2 h
    obtain ⟨h5, h6, h7⟩ := nS_some hr1 h3
    have h8 := byteS_some h5
    refine ⟨cnI (byteS (some p)).1 (nS (byteS (some p)).2).1 :: L', by rw [h1]; simp, by simp [h2], ?_, ?_⟩
    · rw [layL_cons, layC, vl_cnI]
      refine h8.trans ?_
      simp [cnI]
    · intro x hx
      rcases List.mem_cons.1 hx with rfl | hx
      · exact wf_cnI hb h6 h7
      · exact h4 x hx
theorem coinsS_none {s : Option (List Int)} (h : (coinsS s).2 = none) : (coinsS s).1 = [] := by
  unfold coinsS at *
  split at h
  · rename_i hh
    rw [h] at hh; simp at hh
  · rename_i hh; rw [if_neg hh]
theorem coinsS_some {s : Option (List Int)} {r : List Int} (hr : Rng s) (h : (coinsS s).2 = some r) : s = some (((coinsS s).1.length : Int) :: layL (coinsS s).1 ++ r) ∧ (coinsS s).1.length ≤ 255 ∧ ∀ x ∈ (coinsS s).1, CnWf x := by
  have hb := byteS_lim hr
  have hr1 : Rng (byteS s).2 := takeS_rng2 hr 1
  unfold coinsS at *
  split at h
  · rename_i hh
    rw [if_pos hh]
    obtain ⟨L', h1, h2, h3, h4⟩ := cl_some _ [] (byteS s).2 (cl (byteS s).1.toNat [] (byteS s).2).1 r hr1 (by rw [← h])
    rw [List.nil_append] at h1
    rw [h1, h2]
    have h5 := byteS_some h3
    have e : ((byteS s).1.toNat : Int) = (byteS s).1 := by omega
    refine ⟨?_, by omega, h4⟩
    rw [e]; exact h5
  · simp at h
theorem WF.grown {A B : World} {b : Nat} {v v' : Value} (h : WF A B b v v') {k : Nat} (hk : k < A.heap.size) (h1 : k ≠ b) (h2 : some k ≠ v.ownBlock) : B.heap[k]? = A.heap[k]? := h.block k hk h1 h2
theorem WF.rd {A B : World} {b rb : Nat} {v v' : Value} {D : Option Nat} {s : Option (List Int)} (h : WF A B b v v') (hr : RdAt A rb D s) (h1 : rb ≠ b) (h2 : some rb ≠ v.ownBlock) (h3 : D = none ∨ D ≠ some b) (h4 : D = none ∨ D ≠ v.ownBlock) : RdAt B rb D s := by
  have hl := hr.lt
  cases s with
  | none => exact (h.block rb hl h1 h2).trans hr
  | some p =>
    obtain ⟨x, hb, a, cap, rfl, k1, k2, k3, k4⟩ := hr
    refine ⟨_, (h.block rb hl h1 h2).trans hb, a, cap, rfl, k1, k2, k3, ?_⟩
    rcases k4 with rfl | ⟨d, off, rfl, rfl, k5, k6⟩
    · exact .inl rfl
    · refine .inr ⟨d, off, rfl, rfl, Nat.lt_of_lt_of_le k5 h.size, fun i x hi => ?_⟩
      refine (World.cell?_of_block (a := ⟨d, off + i, none⟩) (h.block d k5 (fun e => ?_) ?_)).trans (k6 i x hi)
      · rcases h3 with h3 | h3
        · simp at h3
        · exact h3 (by rw [e])
      · rcases h4 with h4 | h4
        · simp at h4
        · exact h4
theorem Byt.front {W : World} {D : Option Nat} {n cap : Nat} {a : Option Addr} {p : List Int} (h : Byt W D (.slice a p.length cap) p) (hn : n ≤ p.length) : IsBytes W (.slice a n cap) (p.take n) := by
  have h1 := h.take hn
  obtain ⟨a', cap', e, -, h2, -, h4⟩ := h1
  have hl : (p.take n).length = n := by simp; omega
  rw [hl] at e
  simp at e
  obtain ⟨rfl, rfl⟩ := e
  rcases h4 with h4 | ⟨d, off, hd, rfl, h5, h6⟩
  · have h0 : n = 0 := by rw [h4] at hl; exact hl.symm
    subst h0
    exact .inl ⟨by simp, _, _, rfl⟩
  · exact .inr ⟨d, off, cap, by rw [hl], by omega, h5, h6⟩
end Go.Proofs.Ytoikklbnbgoecaa
