
/- bank: which key holds what, what a place has: plain facts. -/
import Derived.Test.YtgphdioolcfmmaaOS
import Derived.Test.YtgphdioolcfmmaaC16
import Derived.Test.YtgphdioolcfmmaaB8
set_option linter.unusedSimpArgs false
set_option linter.unusedVariables false
set_option maxRecDepth 20000
namespace Go.Proofs.Ytgphdioolcfmmaa
open Go.RowKit

theorem mem_put {L : List (List Int × List Int)} {k v : List Int} {x : List Int × List Int} : x ∈ putS L k v ↔ x = (k, v) ∨ (x.1 ≠ k ∧ x ∈ L) := by
  unfold putS
  rw [List.mem_append, List.mem_cons, List.mem_filter, List.mem_filter]
  have h0 : cmpB x.1 k = 0 ↔ x.1 = k := ⟨cmp_eq0 _ _, fun h => by rw [h, cmp_self]⟩
  constructor
  · rintro (⟨h1, h2⟩ | h | ⟨h1, h2⟩)
    · simp at h2; exact .inr ⟨fun e => by have := h0.2 e; omega, h1⟩
    · exact .inl h
    · simp at h2; exact .inr ⟨fun e => by have := h0.2 e; omega, h1⟩
  · rintro (h | ⟨h1, h2⟩)
    · exact .inr (.inl h)
    · rcases Int.lt_trichotomy (cmpB x.1 k) 0 with hc | hc | hc
      · exact .inl ⟨h2, by simpa using hc⟩
      · exact absurd (h0.1 hc) h1
      · exact .inr (.inr ⟨h2, by simpa using hc⟩)
theorem mem_drop {L : List (List Int × List Int)} {k : List Int} {x : List Int × List Int} : x ∈ dropS L k ↔ x.1 ≠ k ∧ x ∈ L := by
  unfold dropS
  rw [List.mem_append, List.mem_filter, List.mem_filter]
  have h0 : cmpB x.1 k = 0 ↔ x.1 = k := ⟨cmp_eq0 _ _, fun h => by rw [h, cmp_self]⟩
  constructor
  · rintro (⟨h1, h2⟩ | ⟨h1, h2⟩)
    · simp at h2; exact ⟨fun e => by have := h0.2 e; omega, h1⟩
    · simp at h2; exact ⟨fun e => by have := h0.2 e; omega, h1⟩
  · rintro ⟨h1, h2⟩
    rcases Int.lt_trichotomy (cmpB x.1 k) 0 with hc | hc | hc
    · exact .inl ⟨h2, by simpa using hc⟩
    · exact absurd (h0.1 hc) h1
    · exact .inr ⟨h2, by simpa using hc⟩
theorem get_of {L : List (List Int × List Int)} (hs : SrtC L) {k v : List Int} (h : (k, v) ∈ L) : getS L k = some v := by
  obtain ⟨a, c, ha, hc, ⟨e1, e2⟩ | ⟨u, e1, e2⟩⟩ := split_srt hs k
  · exfalso
    rw [e2] at h
    rcases List.mem_append.1 h with h | h
    · have := ha _ h; simp only [cmp_self] at this; omega
    · have := hc _ h; simp only [cmp_self] at this; omega
  · rw [e2] at h
    rcases List.mem_append.1 h with h | h
    · have := ha _ h; simp only [cmp_self] at this; omega
    · rcases List.mem_cons.1 h with h | h
      · rw [e1]; injection h with h1 h2; rw [h2]
      · have := hc _ h; simp only [cmp_self] at this; omega
theorem get_mem {L : List (List Int × List Int)} {k v : List Int} (h : getS L k = some v) : (k, v) ∈ L := by
  unfold getS at h
  obtain ⟨x, hx, rfl⟩ := Option.map_eq_some_iff.1 h
  have h1 := List.find?_some hx
  have h2 := List.mem_of_find?_eq_some hx
  have e : x.1 = k := cmp_eq0 _ _ (by simpa using h1)
  rw [← e]
  exact h2
theorem srt_ext : ∀ (l m : List (List Int)), l.Pairwise (fun x y => cmpB x y < 0) → m.Pairwise (fun x y => cmpB x y < 0) → (∀ x, x ∈ l ↔ x ∈ m) → l = m
  | [], [], _, _, _ => rfl
  | [], b :: m, _, _, h => absurd ((h b).2 (by simp)) (by simp)
  | a :: l, [], _, _, h => absurd ((h a).1 (by simp)) (by simp)
  | a :: l, b :: m, hl, hm, h => by
    obtain ⟨h1, h2⟩ := List.pairwise_cons.1 hl
    obtain ⟨h3, h4⟩ := List.pairwise_cons.1 hm
    have hab : a = b := by
      rcases List.mem_cons.1 ((h a).1 (by simp)) with e | e
      · exact e
      · rcases List.mem_cons.1 ((h b).2 (by simp)) with e' | e'
        · exact e'.symm
        · have q1 := h3 a e
          have q2 := h1 b e'
          have q3 := cmp_flip a b
          omega
    subst hab
    rw [srt_ext l m h2 h4 fun x => ?_]
    constructor
    · intro hx
      rcases List.mem_cons.1 ((h x).1 (by simp [hx])) with e | e
      · subst e; have := h1 x hx; rw [cmp_self] at this; omega
      · exact e
    · intro hx
      rcases List.mem_cons.1 ((h x).2 (by simp [hx])) with e | e
      · subst e; have := h3 x hx; rw [cmp_self] at this; omega
      · exact e
theorem cmp_pre : ∀ (a x y : List Int), cmpB (a ++ x) (a ++ y) = cmpB x y
  | [], _, _ => rfl
  | c :: a, x, y => by simp [cmpB, cmp_pre a x y]

def hasB : List Int := [98, 97, 110, 107, 46, 104, 97, 115, 46]
def allK : List Int := [98, 97, 110, 107, 46, 97, 108, 108, 46]
/-- A place's bytes: an address's, by its number; the supply's (256). -/
def plc (p : Nat) : List Int := if p < 256 then hasB ++ [(p : Int)] else allK
def ky (p d : Nat) : List Int := plc p ++ [(d : Int)]
theorem plc_len (p : Nat) : (plc p).length = 9 ∨ (plc p).length = 10 := by unfold plc hasB allK; split <;> simp
theorem ky_len (p d : Nat) : (ky p d).length = (plc p).length + 1 := by simp [ky]
theorem byte_app {a b : List Int} (ha : Byte a) (hb : Byte b) : Byte (a ++ b) := fun x hx => by
  rcases List.mem_append.1 hx with h | h
  · exact ha x h
  · exact hb x h
theorem byte_one {x : Int} (h : 0 ≤ x ∧ x ≤ 255) : Byte [x] := fun y hy => by rw [List.mem_singleton] at hy; subst hy; exact h
theorem byte_has : Byte hasB := by unfold Byte hasB; decide
theorem byte_allK : Byte allK := by unfold Byte allK; decide
theorem byte_plc (p : Nat) : Byte (plc p) := by
  unfold plc; split
  · exact byte_app byte_has (byte_one (by omega))
  · exact byte_allK
theorem byte_ky (p : Nat) {d : Nat} (hd : d ≤ 255) : Byte (ky p d) := byte_app (byte_plc p) (byte_one (by omega))
theorem begs_ky {p q : Nat} (d : Nat) (hp : p ≤ 256) (hq : q ≤ 256) : begs (ky p d) (plc q) = decide (p = q) := by
  unfold begs ky plc
  by_cases h1 : p < 256 <;> by_cases h2 : q < 256
  · simp only [if_pos h1, if_pos h2, hasB]
    by_cases e : p = q
    · subst e; simp
    · have e' : ¬ (p : Int) = (q : Int) := by omega
      simp [e, e']
  · have e : ¬ p = q := by omega
    simp [if_pos h1, if_neg h2, hasB, allK, e]
  · have e : ¬ p = q := by omega
    simp [if_neg h1, if_pos h2, hasB, allK, e]
  · have e : p = q := by omega
    subst e
    simp [if_neg h1, allK]
theorem ky_inj {p q d e : Nat} (hp : p ≤ 256) (hq : q ≤ 256) : ky p d = ky q e ↔ p = q ∧ d = e := by
  constructor
  · intro h
    have h1 := begs_ky d hp hp
    have h2 := begs_ky e hq hp
    rw [h, h2] at h1
    simp at h1
    subst h1
    refine ⟨rfl, ?_⟩
    have h3 := List.append_cancel_left (show plc q ++ [(d : Int)] = plc q ++ [(e : Int)] from h)
    simp at h3
    omega
  · rintro ⟨rfl, rfl⟩; rfl
theorem ky_lt (p : Nat) {d e : Nat} (h : d < e) : cmpB (ky p d) (ky p e) < 0 := by
  unfold ky
  rw [cmp_pre]
  have : (d : Int) < (e : Int) := by omega
  simp [cmpB, this]
/-- The places of a purse at which there is something. -/
def dsL (z : Nat → Cn) (k : Nat) : List Nat := (List.range k).filter (fun d => decide (vl (z d) ≠ 0))
theorem dsL_succ (z : Nat → Cn) (k : Nat) : dsL z (k + 1) = dsL z k ++ (if vl (z k) = 0 then [] else [k]) := by
  unfold dsL
  rw [List.range_succ, List.filter_append]
  congr 1
  by_cases h : vl (z k) = 0 <;> simp [h]
theorem dsL_mem {z : Nat → Cn} {k d : Nat} : d ∈ dsL z k ↔ d < k ∧ vl (z d) ≠ 0 := by simp [dsL]
theorem eq4_vl {x : Cn} (h : LimC x) : eq4 x.a x.b x.c x.e 0 0 0 0 = decide (vl x = 0) := by
  have h0 := val_zero h
  by_cases e : vl x = 0
  · rw [decide_eq_true e]; exact eq4_true.2 (h0.1 e)
  · rw [decide_eq_false e]
    cases hq : eq4 x.a x.b x.c x.e 0 0 0 0
    · rfl
    · exact absurd (h0.2 (eq4_true.1 hq)) e
theorem oneL_vl {x : Cn} (h : LimC x) : oneL x = if vl x = 0 then [] else [x] := by
  unfold oneL
  rw [eq4_vl h]
  by_cases e : vl x = 0 <;> simp [e]
theorem lst_dsL {z : Nat → Cn} (hz : Purse z) : ∀ k, k ≤ 8 → lst z k = (dsL z k).map z
  | 0, _ => rfl
  | k + 1, hk => by
    simp only [lst]
    rw [lst_dsL hz k (by omega), dsL_succ, oneL_vl (hz k (by omega)).1, List.map_append]
    congr 1
    by_cases e : vl (z k) = 0 <;> simp [e]
theorem dsL_srt (z : Nat → Cn) (k p : Nat) : ((dsL z k).map (ky p)).Pairwise (fun x y => cmpB x y < 0) := by
  rw [List.pairwise_map]
  refine (List.Pairwise.sublist List.filter_sublist ?_ : (dsL z k).Pairwise _)
  exact List.pairwise_lt_range.imp (fun h => ky_lt p h)

/-- What a store holds where each place has a purse. -/
structure BkL (L : List (List Int × List Int)) (b : Nat → Nat → Cn) : Prop where
  srt : SrtC L
  pur : ∀ p, p ≤ 256 → Purse (b p)
  mem : ∀ x, x ∈ L ↔ ∃ p d, p ≤ 256 ∧ d < 8 ∧ vl (b p d) ≠ 0 ∧ x = (ky p d, byL (vl (b p d)) 32)
theorem BkL.new : BkL [] (fun _ => zeroP) := ⟨List.Pairwise.nil, fun _ _ => purse_zero, fun x => ⟨fun h => by simp at h, fun ⟨p, d, _, _, h, _⟩ => absurd (vl_zero d) h⟩⟩
theorem BkL.congr {L : List (List Int × List Int)} {b c : Nat → Nat → Cn} (h : BkL L b) (e : ∀ p d, p ≤ 256 → d < 8 → b p d = c p d) : BkL L c := by
  refine ⟨h.srt, fun p hp d hd => by rw [← e p d hp hd]; exact h.pur p hp d hd, fun x => (h.mem x).trans ?_⟩
  constructor
  · rintro ⟨p, d, h1, h2, h3⟩; exact ⟨p, d, h1, h2, by rw [← e p d h1 h2]; exact h3⟩
  · rintro ⟨p, d, h1, h2, h3⟩; exact ⟨p, d, h1, h2, by rw [e p d h1 h2]; exact h3⟩
theorem BkL.keys {L : List (List Int × List Int)} {b : Nat → Nat → Cn} (h : BkL L b) {p : Nat} (hp : p ≤ 256) : keysS L (plc p) = (dsL (b p) 8).map (ky p) := by
  refine srt_ext _ _ (keysS_srt h.srt _) (dsL_srt _ _ _) fun x => ?_
  unfold keysS
  rw [List.mem_map, List.mem_map]
  constructor
  · rintro ⟨y, hy, rfl⟩
    obtain ⟨h1, h2⟩ := List.mem_filter.1 hy
    obtain ⟨q, d, hq, hd, hv, rfl⟩ := (h.mem y).1 h1
    simp only at h2 ⊢
    rw [begs_ky d hq hp] at h2
    obtain rfl : q = p := by simpa using h2
    exact ⟨d, dsL_mem.2 ⟨hd, hv⟩, rfl⟩
  · rintro ⟨d, hd, rfl⟩
    obtain ⟨h1, h2⟩ := dsL_mem.1 hd
    refine ⟨(ky p d, byL (vl (b p d)) 32), List.mem_filter.2 ⟨(h.mem _).2 ⟨p, d, hp, h1, h2, rfl⟩, ?_⟩, rfl⟩
    simp only
    rw [begs_ky d hp hp]
    simp
theorem BkL.get_yes {L : List (List Int × List Int)} {b : Nat → Nat → Cn} (h : BkL L b) {p d : Nat} (hp : p ≤ 256) (hd : d < 8) (hv : vl (b p d) ≠ 0) : getS L (ky p d) = some (byL (vl (b p d)) 32) :=
  get_of h.srt ((h.mem _).2 ⟨p, d, hp, hd, hv, rfl⟩)
theorem BkL.get_no {L : List (List Int × List Int)} {b : Nat → Nat → Cn} (h : BkL L b) {p d : Nat} (hp : p ≤ 256) (hv : d < 8 → vl (b p d) = 0) : getS L (ky p d) = none := by
  cases hg : getS L (ky p d) with
  | none => rfl
  | some v =>
    obtain ⟨q, e, hq, he, hne, hx⟩ := (h.mem _).1 (get_mem hg)
    injection hx with h1 h2
    obtain ⟨rfl, rfl⟩ := (ky_inj hp hq).1 h1
    exact absurd (hv he) hne
def upB (b : Nat → Nat → Cn) (p d : Nat) (x : Cn) : Nat → Nat → Cn := fun q e => if q = p ∧ e = d then x else b q e
theorem upB_at (b : Nat → Nat → Cn) (p d : Nat) (x : Cn) : upB b p d x p d = x := if_pos ⟨rfl, rfl⟩
theorem upB_off {b : Nat → Nat → Cn} {p d : Nat} {x : Cn} {q e : Nat} (h : ¬ (q = p ∧ e = d)) : upB b p d x q e = b q e := if_neg h
theorem BkL.up {L : List (List Int × List Int)} {b : Nat → Nat → Cn} (h : BkL L b) {p d : Nat} (hp : p ≤ 256) (hd : d < 8) {x : Cn} (hx : LimC x) (hxd : x.d = d) : BkL (if vl x = 0 then dropS L (ky p d) else putS L (ky p d) (byL (vl x) 32)) (upB b p d x) := by
  have hpur : ∀ q, q ≤ 256 → Purse (upB b p d x q) := fun q hq e he => by
    by_cases hc : q = p ∧ e = d
    · obtain ⟨rfl, rfl⟩ := hc; rw [upB_at]; exact ⟨hx, hxd⟩
    · rw [upB_off hc]; exact h.pur q hq e he
  by_cases h0 : vl x = 0
  · rw [if_pos h0]
    refine ⟨srt_dropS h.srt _, hpur, fun y => ?_⟩
    rw [mem_drop, h.mem]
    constructor
    · rintro ⟨h1, q, e, hq, he, hv, rfl⟩
      have hc : ¬ (q = p ∧ e = d) := fun hc => h1 ((ky_inj hq hp).2 hc)
      exact ⟨q, e, hq, he, by rw [upB_off hc]; exact hv, by rw [upB_off hc]⟩
    · rintro ⟨q, e, hq, he, hv, rfl⟩
      have hc : ¬ (q = p ∧ e = d) := fun hc => by obtain ⟨rfl, rfl⟩ := hc; rw [upB_at] at hv; exact hv h0
      rw [upB_off hc] at hv ⊢
      exact ⟨fun e2 => hc ((ky_inj hq hp).1 e2), q, e, hq, he, hv, rfl⟩
  · rw [if_neg h0]
    refine ⟨srt_putS h.srt _ _, hpur, fun y => ?_⟩
    rw [mem_put, h.mem]
    constructor
    · rintro (rfl | ⟨h1, q, e, hq, he, hv, rfl⟩)
      · exact ⟨p, d, hp, hd, by rw [upB_at]; exact h0, by rw [upB_at]⟩
      · have hc : ¬ (q = p ∧ e = d) := fun hc => h1 ((ky_inj hq hp).2 hc)
        exact ⟨q, e, hq, he, by rw [upB_off hc]; exact hv, by rw [upB_off hc]⟩
    · rintro ⟨q, e, hq, he, hv, rfl⟩
      by_cases hc : q = p ∧ e = d
      · obtain ⟨rfl, rfl⟩ := hc
        rw [upB_at]
        exact .inl rfl
      · rw [upB_off hc] at hv ⊢
        exact .inr ⟨fun e2 => hc ((ky_inj hq hp).1 e2), q, e, hq, he, hv, rfl⟩
end Go.Proofs.Ytgphdioolcfmmaa
