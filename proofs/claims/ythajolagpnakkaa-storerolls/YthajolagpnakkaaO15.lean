
/- The reference's order of keys. -/
import Derived.Test.YthajolagpnakkaaO14
set_option linter.unusedSimpArgs false
set_option linter.unusedVariables false
namespace Go.Proofs.Ythajolagpnakkaa
open Go.RowKit

theorem cmp_drop : ∀ (k : Nat) (p q : List Int), k ≤ p.length → k ≤ q.length → p.take k = q.take k → cmpB p q = cmpB (p.drop k) (q.drop k)
  | 0, p, q, _, _, _ => by simp
  | k + 1, [], q, h, _, _ => by simp at h
  | k + 1, a :: p, [], _, h, _ => by simp at h
  | k + 1, a :: p, b :: q, h1, h2, h => by
    simp only [List.take_succ_cons, List.cons.injEq] at h
    obtain ⟨rfl, h⟩ := h
    have ih := cmp_drop k p q (by simpa using h1) (by simpa using h2) h
    simp only [List.drop_succ_cons]
    rw [← ih]
    simp [cmpB]
theorem cmp_first {p q : List Int} {k : Nat} (hp : k < p.length) (hq : k < q.length) (h : p.take k = q.take k) (hne : p[k] ≠ q[k]) : decide (cmpB p q < 0) = decide (p[k] < q[k]) := by
  have e : cmpB p q = if p[k] < q[k] then -1 else if q[k] < p[k] then 1 else cmpB (p.drop (k + 1)) (q.drop (k + 1)) := by
    rw [cmp_drop k p q (by omega) (by omega) h, List.drop_eq_getElem_cons hp, List.drop_eq_getElem_cons hq]; rfl
  rw [decide_eq_decide, e]
  by_cases hl : p[k] < q[k]
  · rw [if_pos hl]; simp [hl]
  · rw [if_neg hl, if_pos (by omega)]; simp [hl]
theorem cmp_end {p q : List Int} {k : Nat} (hk : k ≤ p.length) (hk2 : k ≤ q.length) (h : p.take k = q.take k) (he : k = p.length ∨ k = q.length) : decide (cmpB p q < 0) = decide (p.length < q.length) := by
  rw [cmp_drop k p q hk hk2 h]
  rcases he with rfl | rfl
  · rw [List.drop_length]
    by_cases hl : p.length < q.length
    · rw [List.drop_eq_getElem_cons hl]; simp [cmpB, hl]
    · rw [List.drop_of_length_le (by omega)]; simp [cmpB, hl]
  · rw [List.drop_length]
    by_cases hl : q.length < p.length
    · rw [List.drop_eq_getElem_cons hl]; simp [cmpB]; omega
    · rw [List.drop_of_length_le (by omega)]; simp [cmpB]; omega
set_option maxHeartbeats 4000000 in
theorem lessR_some (g h o u c d : Nat) (p q : List Int) (hlp : p.length ≤ 1048576) (hlq : q.length ≤ 1048576) (w : World) (hg : g < w.heap.size) (hh : h < w.heap.size)
    (hp : ∀ i x, p[i]? = some x → w.cell? ⟨g, o + i, none⟩ = some (.int .u8 x)) (hq : ∀ i x, q[i]? = some x → w.cell? ⟨h, u + i, none⟩ = some (.int .u8 x)) :
    Calls Try.prog 26 #[.slice (some ⟨g, o, none⟩) p.length c, .slice (some ⟨h, u, none⟩) q.length d] w fun e w' => e = .returned (.bool (decide (cmpB p q < 0))) ∧ Below w.heap.size w w' := by
  have hpad := pads
  go_enter Try.func26, Try.ntmps26
  go_wp2
  go_loopw [5] (fun i wr => ∃ (k m : Nat) (f : Nat → Obj) (dr : Nat), k ≤ p.length ∧ k ≤ q.length ∧ i = .int .i64 k ∧ w.heap.size ≤ m ∧ wr = pad w m f dr ∧ Hid (p.take k = q.take k)) (fun i _ => p.length - (intOf i).toNat)
  case atStart =>
    obtain ⟨m, f, dr, hm, e⟩ := pad_of (Below.refl w.heap.size w)
    exact ⟨0, m, f, dr, Nat.zero_le _, Nat.zero_le _, rfl, hm, e, show _ = _ from rfl⟩
  case round =>
    obtain ⟨k, m, f, dr, hk, hk2, rfl, hm, rfl, hpre⟩ := hrel
    by_cases hkl : k < p.length ∧ k < q.length
    · obtain ⟨hkp, hkq⟩ := hkl
      have c1 := hp k p[k] (by simp [hkp])
      have c2 := hq k q[k] (by simp [hkq])
      have hgm : g < m := by omega
      have hhm : h < m := by omega
      have hkp' : (k : Int) < (p.length : Int) := by omega
      have hkq' : (k : Int) < (q.length : Int) := by omega
      have htk : Hid (p[k] = q[k] → p.take (k + 1) = q.take (k + 1)) := fun he => by rw [List.take_succ_eq_append_getElem hkp, List.take_succ_eq_append_getElem hkq, hpre.out, he]
      have hdc : Hid (p[k] ≠ q[k] → decide (cmpB p q < 0) = decide (p[k] < q[k])) := fun he => cmp_first hkp hkq hpre.out he
      generalize p[k] = x at *
      generalize q[k] = y at *
      by_cases he : x = y
      · have hT : Hid (p.take (k + 1) = q.take (k + 1)) := htk.out he
        subst he
        have hxx : (x != x) = false := by simp
        clear htk hdc hp hq
        go_wp2
        go_region
        all_goals go_wp2
        all_goals go_roundw
        case rel => exact ⟨k + 1, m, f, dr + 1, by omega, by omega, by go_num, hm, by first | rfl | (simp [hpad]; done), hT⟩
        case measure => simp [intOf]; omega
      · have hxy : (x != y) = true := by simpa using he
        have hD : Hid (decide (cmpB p q < 0) = decide (x < y)) := hdc.out he
        clear htk hdc hp hq
        go_wp2
        go_region
        all_goals go_wp2
        all_goals go_region
        all_goals go_wp2
        all_goals go_ret
        all_goals refine ⟨?_, by (repeat (first | (with_reducible exact Below.refl _ _) | (with_reducible assumption) | (with_reducible apply bd) | (with_reducible apply ba) | (with_reducible refine bp ?_ (by first | omega | (simp [pad_size]; done) | (simp [pad_size]; omega)) _ _) | (with_reducible refine bs ?_ (by first | omega | (simp [pad_size]; done) | (simp [pad_size]; omega)) _) | (with_reducible refine bt ?_ (by assumption))))⟩
        all_goals rw [hD.out]
        all_goals rfl
    · have hend : Hid (decide (cmpB p q < 0) = decide (p.length < q.length)) := cmp_end hk hk2 hpre.out (by omega)
      have hor : ¬ ((k : Int) < (p.length : Int)) ∨ ((k : Int) < (p.length : Int) ∧ ¬ (k : Int) < (q.length : Int)) := by omega
      rcases hor with h1 | ⟨h1, h2⟩
      all_goals
        go_wp2
        go_ret
        refine ⟨?_, by (repeat (first | (with_reducible exact Below.refl _ _) | (with_reducible assumption) | (with_reducible apply bd) | (with_reducible apply ba) | (with_reducible refine bp ?_ (by first | omega | (simp [pad_size]; done) | (simp [pad_size]; omega)) _ _) | (with_reducible refine bs ?_ (by first | omega | (simp [pad_size]; done) | (simp [pad_size]; omega)) _) | (with_reducible refine bt ?_ (by assumption))))⟩
        rw [hend.out]
        simp
set_option maxHeartbeats 1000000 in
theorem lessR_nil (a b : Option Addr) (c n d : Nat) (hn : n ≤ 1048576) (w : World) :
    Calls Try.prog 26 #[.slice a 0 c, .slice b n d] w fun e w' => e = .returned (.bool (decide (0 < n))) ∧ Below w.heap.size w w' := by
  go_enter Try.func26, Try.ntmps26
  go_wp2
  apply wp_loop_rounds 1
  simp only [Code.rounds]
  go_wp2
  go_ret
  exact ⟨rfl, Below.refl _ _⟩
set_option maxHeartbeats 1000000 in
theorem lessR_none (a b : Option Addr) (c n d : Nat) (hn : n ≤ 1048576) (h0 : 0 < n) (w : World) :
    Calls Try.prog 26 #[.slice a n c, .slice b 0 d] w fun e w' => e = .returned (.bool false) ∧ Below w.heap.size w w' := by
  have h0' : (0 : Int) < (n : Int) := by omega
  have h1' : ¬ (n : Int) < 0 := by omega
  go_enter Try.func26, Try.ntmps26
  go_wp2
  apply wp_loop_rounds 1
  simp only [Code.rounds]
  go_wp2
  go_ret
  exact ⟨by simp, Below.refl _ _⟩
theorem lessR_any {va vb : Value} {p q : List Int} (w : World) (hA : IsBytes w va p) (hB : IsBytes w vb q) (hlp : p.length ≤ 1048576) (hlq : q.length ≤ 1048576) :
    Calls Try.prog 26 #[va, vb] w fun e w' => e = .returned (.bool (decide (cmpB p q < 0))) ∧ Below w.heap.size w w' := by
  rcases hA with ⟨rfl, a, c, rfl⟩ | ⟨g, o, c, rfl, h1, h2, h3⟩
  · obtain ⟨b, d, rfl⟩ := hB.slice
    refine (lessR_nil a b c q.length d hlq w).mono ?_
    rintro e w' ⟨rfl, hb⟩
    refine ⟨?_, hb⟩
    cases q with
    | nil => rfl
    | cons x q => simp [cmpB]
  · by_cases hp : p = []
    · subst hp
      obtain ⟨b, d, rfl⟩ := hB.slice
      refine (lessR_nil _ b c q.length d hlq w).mono ?_
      rintro e w' ⟨rfl, hb⟩
      refine ⟨?_, hb⟩
      cases q with
      | nil => rfl
      | cons x q => simp [cmpB]
    · rcases hB with ⟨rfl, b, d, rfl⟩ | ⟨h, u, d, rfl, k1, k2, k3⟩
      · have hpl : 0 < p.length := by cases p with | nil => exact absurd rfl hp | cons _ _ => simp
        refine (lessR_none _ b c p.length d hlp hpl w).mono ?_
        rintro e w' ⟨rfl, hb⟩
        refine ⟨?_, hb⟩
        cases p with
        | nil => exact absurd rfl hp
        | cons x p => simp [cmpB]
      · exact lessR_some g h o u c d p q hlp hlq w h2 k2 h3 k3

/-- What the reference's Set makes of a list: what is left of it, and whether the key has been laid. -/
def refGo (x : Rec) (is : Bool) : List Rec → Bool → List Rec
  | [], d => if d then [] else [x]
  | y :: l, d => (if !d && decide (cmpB x.k y.k < 0) then [x] else []) ++ (if y.k = x.k then (if is then x :: refGo x is l true else refGo x is l (d || decide (cmpB x.k y.k < 0))) else y :: refGo x is l (d || decide (cmpB x.k y.k < 0)))
theorem cont_cons (x : Rec) (l : List Rec) : cont (x :: l) = (x.k, x.v) :: cont l := rfl
/-- Behind the key all are greater: they stay. -/
theorem refGo_hi (x : Rec) (is : Bool) : ∀ l : List Rec, (∀ y ∈ l, 0 < cmpB y.k x.k) → refGo x is l true = l
  | [], _ => rfl
  | y :: l, h => by
    have hy := h y (by simp)
    have hne : ¬ y.k = x.k := fun e => by rw [e, cmp_self] at hy; omega
    have ih := refGo_hi x is l (fun z hz => h z (by simp [hz]))
    simp [refGo, hne, ih]
theorem srt_tail {y : Rec} {l : List Rec} (h : Srt (y :: l)) : Srt l ∧ ∀ z ∈ l, cmpB y.k z.k < 0 := ⟨(List.pairwise_cons.1 h).2, (List.pairwise_cons.1 h).1⟩
theorem ref_put (x : Rec) : ∀ l : List Rec, Srt l → cont (refGo x true l false) = putS (cont l) x.k x.v
  | [], _ => rfl
  | y :: l, h => by
    obtain ⟨h1, h2⟩ := srt_tail h
    rcases Int.lt_trichotomy (cmpB y.k x.k) 0 with hc | hc | hc
    · have hne : ¬ y.k = x.k := fun e => by rw [e, cmp_self] at hc; omega
      have hn : ¬ cmpB x.k y.k < 0 := by have := cmp_flip y.k x.k; omega
      have ih := ref_put x l h1
      simp only [refGo, hn, hne, decide_false, Bool.and_false, Bool.false_eq_true, if_false, List.nil_append, Bool.or_false, cont_cons, ih]
      simp [putS, cont_cons, hc, show ¬ 0 < cmpB y.k x.k by omega]
    · have hk := cmp_eq0 _ _ hc
      have hn : ¬ cmpB x.k y.k < 0 := by rw [hk, cmp_self]; omega
      have hgt : ∀ z ∈ l, 0 < cmpB z.k x.k := fun z hz => by have := h2 z hz; rw [hk] at this; exact cmp_pos this
      have hgt' : ∀ z ∈ cont l, 0 < cmpB z.1 x.k := fun z hz => by obtain ⟨t, ht, rfl⟩ := List.mem_map.1 hz; exact hgt t ht
      have hn2 : ¬ cmpB x.k x.k < 0 := by rw [cmp_self]; omega
      simp only [refGo, hk, hn2, decide_false, Bool.and_false, Bool.false_eq_true, if_false, List.nil_append, if_true, refGo_hi x true l hgt, cont_cons]
      exact (put_mid (a := []) y.v x.v (by simp) hgt').symm
    · have hne : ¬ y.k = x.k := fun e => by rw [e, cmp_self] at hc; omega
      have hl : cmpB x.k y.k < 0 := cmp_neg hc
      have hgt : ∀ z ∈ l, 0 < cmpB z.k x.k := fun z hz => cmp_pos (cmp_trans _ _ _ hl (h2 z hz))
      have hgt' : ∀ z ∈ cont (y :: l), 0 < cmpB z.1 x.k := fun z hz => by
        obtain ⟨t, ht, rfl⟩ := List.mem_map.1 hz
        rcases List.mem_cons.1 ht with rfl | ht
        · exact hc
        · exact hgt t ht
      simp only [refGo, hl, hne, decide_true, Bool.and_true, Bool.not_false, if_true, if_false, List.cons_append, List.nil_append, Bool.or_true, refGo_hi x true l hgt, cont_cons]
      exact (put_new (a := []) x.v (by simp) hgt').symm
theorem ref_drop (x : Rec) : ∀ l : List Rec, Srt l → cont (refGo x false l true) = dropS (cont l) x.k
  | [], _ => rfl
  | y :: l, h => by
    obtain ⟨h1, h2⟩ := srt_tail h
    have ih := ref_drop x l h1
    rcases Int.lt_trichotomy (cmpB y.k x.k) 0 with hc | hc | hc
    · have hne : ¬ y.k = x.k := fun e => by rw [e, cmp_self] at hc; omega
      simp only [refGo, hne, Bool.not_true, Bool.false_and, Bool.false_eq_true, if_false, List.nil_append, Bool.true_or, cont_cons, ih]
      simp [dropS, cont_cons, hc, show ¬ 0 < cmpB y.k x.k by omega]
    · have hk := cmp_eq0 _ _ hc
      simp only [refGo, hk, Bool.not_true, Bool.false_and, Bool.false_eq_true, if_false, List.nil_append, Bool.true_or, if_true, ih]
      simp [dropS, cont_cons, hk, cmp_self]
    · have hne : ¬ y.k = x.k := fun e => by rw [e, cmp_self] at hc; omega
      have hgt : ∀ z ∈ l, 0 < cmpB z.k x.k := fun z hz => cmp_pos (cmp_trans _ _ _ (cmp_neg hc) (h2 z hz))
      have hgt' : ∀ z ∈ cont (y :: l), 0 < cmpB z.1 x.k := fun z hz => by
        obtain ⟨t, ht, rfl⟩ := List.mem_map.1 hz
        rcases List.mem_cons.1 ht with rfl | ht
        · exact hc
        · exact hgt t ht
      have e1 : dropS (cont (y :: l)) x.k = cont (y :: l) := drop_new (a := []) (by simp) hgt'
      have e2 : refGo x false (y :: l) true = y :: l := refGo_hi x false (y :: l) (fun z hz => by
        rcases List.mem_cons.1 hz with rfl | hz
        · exact hc
        · exact hgt z hz)
      rw [e1, e2]
end Go.Proofs.Ythajolagpnakkaa
