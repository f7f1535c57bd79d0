
/- Several texts, one behind the other: BK1, BK2, BK3, BK4, BK5, BK6, BK7, BK10. -/
import Derived.Test.YtgphdioolcfmmaaBM3
import Derived.Laws.IdiomStrings
import Derived.Laws.AppendOwn
import Derived.Deep.RegionHeld2
import Derived.Deep.CutRange
import Derived.Maps.AppendAt
/- bank: which key holds what, what a place has: plain facts. -/
set_option linter.unusedSimpArgs false
set_option linter.unusedVariables false
set_option maxRecDepth 20000
namespace Go.Proofs.Ytgphdioolcfmmaa
open Go.RowKit

theorem mem_put {L : List (List Int × List Int)} {k v : List Int} {x : List Int × List Int} : x ∈ putS L k v ↔ x = (k, v) ∨ (x.1 ≠ k ∧ x ∈ L) := by
  unfold putS
  rw [List.mem_append, List.mem_cons, List.mem_filter, List.mem_filter]
  have h0 : cmpB x.1 k = 0 ↔ x.1 = k := ⟨cmp_eq0 _ _, fun h => by rw [h, cmp_self]⟩
  constructor
  · rintro (⟨h1, h2⟩ | h | ⟨h1, h2⟩)
    · simp at h2; exact .inr ⟨fun e => by have := h0.2 e; omega, h1⟩
    · exact .inl h
    · simp at h2; exact .inr ⟨fun e => by have := h0.2 e; omega, h1⟩
  · rintro (h | ⟨h1, h2⟩)
    · exact .inr (.inl h)
    · rcases Int.lt_trichotomy (cmpB x.1 k) 0 with hc | hc | hc
      · exact .inl ⟨h2, by simpa using hc⟩
      · exact absurd (h0.1 hc) h1
      · exact .inr (.inr ⟨h2, by simpa using hc⟩)
theorem mem_drop {L : List (List Int × List Int)} {k : List Int} {x : List Int × List Int} : x ∈ dropS L k ↔ x.1 ≠ k ∧ x ∈ L := by
  unfold dropS
  rw [List.mem_append, List.mem_filter, List.mem_filter]
  have h0 : cmpB x.1 k = 0 ↔ x.1 = k := ⟨cmp_eq0 _ _, fun h => by rw [h, cmp_self]⟩
  constructor
  · rintro (⟨h1, h2⟩ | ⟨h1, h2⟩)
    · simp at h2; exact ⟨fun e => by have := h0.2 e; omega, h1⟩
    · simp at h2; exact ⟨fun e => by have := h0.2 e; omega, h1⟩
  · rintro ⟨h1, h2⟩
    rcases Int.lt_trichotomy (cmpB x.1 k) 0 with hc | hc | hc
    · exact .inl ⟨h2, by simpa using hc⟩
    · exact absurd (h0.1 hc) h1
    · exact .inr ⟨h2, by simpa using hc⟩
theorem get_of {L : List (List Int × List Int)} (hs : SrtC L) {k v : List Int} (h : (k, v) ∈ L) : getS L k = some v := by
  obtain ⟨a, c, ha, hc, ⟨e1, e2⟩ | ⟨u, e1, e2⟩⟩ := split_srt hs k
  · exfalso
    rw [e2] at h
    rcases List.mem_append.1 h with h | h
    · have := ha _ h; simp only [cmp_self] at this; omega
    · have := hc _ h; simp only [cmp_self] at this; omega
  · rw [e2] at h
    rcases List.mem_append.1 h with h | h
    · have := ha _ h; simp only [cmp_self] at this; omega
    · rcases List.mem_cons.1 h with h | h
      · rw [e1]; injection h with h1 h2; rw [h2]
      · have := hc _ h; simp only [cmp_self] at this; omega
theorem get_mem {L : List (List Int × List Int)} {k v : List Int} (h : getS L k = some v) : (k, v) ∈ L := by
  unfold getS at h
  obtain ⟨x, hx, rfl⟩ := Option.map_eq_some_iff.1 h
  have h1 := List.find?_some hx
  have h2 := List.mem_of_find?_eq_some hx
  have e : x.1 = k := cmp_eq0 _ _ (by simpa using h1)
  rw [← e]
  exact h2
theorem srt_ext : ∀ (l m : List (List Int)), l.Pairwise (fun x y => cmpB x y < 0) → m.Pairwise (fun x y => cmpB x y < 0) → (∀ x, x ∈ l ↔ x ∈ m) → l = m
  | [], [], _, _, _ => rfl
  | [], b :: m, _, _, h => absurd ((h b).2 (by simp)) (by simp)
  | a :: l, [], _, _, h => absurd ((h a).1 (by simp)) (by simp)
  | a :: l, b :: m, hl, hm, h => by
    obtain ⟨h1, h2⟩ := List.pairwise_cons.1 hl
    obtain ⟨h3, h4⟩ := List.pairwise_cons.1 hm
    have hab : a = b := by
      rcases List.mem_cons.1 ((h a).1 (by simp)) with e | e
      · exact e
      · rcases List.mem_cons.1 ((h b).2 (by simp)) with e' | e'
        · exact e'.symm
        · have q1 := h3 a e
          have q2 := h1 b e'
          have q3 := cmp_flip a b
          omega
    subst hab
    rw [srt_ext l m h2 h4 fun x => ?_]
    constructor
    · intro hx
      rcases List.mem_cons.1 ((h x).1 (by simp [hx])) with e | e
      · subst e; have := h1 x hx; rw [cmp_self] at this; omega
      · exact e
    · intro hx
      rcases List.mem_cons.1 ((h x).2 (by simp [hx])) with e | e
      · subst e; have := h3 x hx; rw [cmp_self] at this; omega
      · exact e
theorem cmp_pre : ∀ (a x y : List Int), cmpB (a ++ x) (a ++ y) = cmpB x y
  | [], _, _ => rfl
  | c :: a, x, y => by simp [cmpB, cmp_pre a x y]

def hasB : List Int := [98, 97, 110, 107, 46, 104, 97, 115, 46]
def allK : List Int := [98, 97, 110, 107, 46, 97, 108, 108, 46]
/-- A place's bytes: an address's, by its number; the supply's (256). -/
def plc (p : Nat) : List Int := if p < 256 then hasB ++ [(p : Int)] else allK
def ky (p d : Nat) : List Int := plc p ++ [(d : Int)]
theorem plc_len (p : Nat) : (plc p).length = 9 ∨ (plc p).length = 10 := by unfold plc hasB allK; split <;> simp
theorem ky_len (p d : Nat) : (ky p d).length = (plc p).length + 1 := by simp [ky]
theorem byte_app {a b : List Int} (ha : Byte a) (hb : Byte b) : Byte (a ++ b) := fun x hx => by
  rcases List.mem_append.1 hx with h | h
  · exact ha x h
  · exact hb x h
theorem byte_one {x : Int} (h : 0 ≤ x ∧ x ≤ 255) : Byte [x] := fun y hy => by rw [List.mem_singleton] at hy; subst hy; exact h
theorem byte_has : Byte hasB := by unfold Byte hasB; decide
theorem byte_allK : Byte allK := by unfold Byte allK; decide
theorem byte_plc (p : Nat) : Byte (plc p) := by
  unfold plc; split
  · exact byte_app byte_has (byte_one (by omega))
  · exact byte_allK
theorem byte_ky (p : Nat) {d : Nat} (hd : d ≤ 255) : Byte (ky p d) := byte_app (byte_plc p) (byte_one (by omega))
theorem begs_ky {p q : Nat} (d : Nat) (hp : p ≤ 256) (hq : q ≤ 256) : begs (ky p d) (plc q) = decide (p = q) := by
  unfold begs ky plc
  by_cases h1 : p < 256 <;> by_cases h2 : q < 256
  · simp only [if_pos h1, if_pos h2, hasB]
    by_cases e : p = q
    · subst e; simp
    · have e' : ¬ (p : Int) = (q : Int) := by omega
      simp [e, e']
  · have e : ¬ p = q := by omega
    simp [if_pos h1, if_neg h2, hasB, allK, e]
  · have e : ¬ p = q := by omega
    simp [if_neg h1, if_pos h2, hasB, allK, e]
  · have e : p = q := by omega
    subst e
    simp [if_neg h1, allK]
theorem ky_inj {p q d e : Nat} (hp : p ≤ 256) (hq : q ≤ 256) : ky p d = ky q e ↔ p = q ∧ d = e := by
  constructor
  · intro h
    have h1 := begs_ky d hp hp
    have h2 := begs_ky e hq hp
    rw [h, h2] at h1
    simp at h1
    subst h1
    refine ⟨rfl, ?_⟩
    have h3 := List.append_cancel_left (show plc q ++ [(d : Int)] = plc q ++ [(e : Int)] from h)
    simp at h3
    omega
  · rintro ⟨rfl, rfl⟩; rfl
theorem ky_lt (p : Nat) {d e : Nat} (h : d < e) : cmpB (ky p d) (ky p e) < 0 := by
  unfold ky
  rw [cmp_pre]
  have : (d : Int) < (e : Int) := by omega
  simp [cmpB, this]
/-- The places of a purse at which there is something. -/
def dsL (z : Nat → Cn) (k : Nat) : List Nat := (List.range k).filter (fun d => decide (vl (z d) ≠ 0))
theorem dsL_succ (z : Nat → Cn) (k : Nat) : dsL z (k + 1) = dsL z k ++ (if vl (z k) = 0 then [] else [k]) := by
  unfold dsL
  rw [List.range_succ, List.filter_append]
  congr 1
  by_cases h : vl (z k) = 0 <;> simp [h]
theorem dsL_mem {z : Nat → Cn} {k d : Nat} : d ∈ dsL z k ↔ d < k ∧ vl (z d) ≠ 0 := by simp [dsL]
theorem eq4_vl {x : Cn} (h : LimC x) : eq4 x.a x.b x.c x.e 0 0 0 0 = decide (vl x = 0) := by
  have h0 := val_zero h
  by_cases e : vl x = 0
  · rw [decide_eq_true e]; exact eq4_true.2 (h0.1 e)
  · rw [decide_eq_false e]
    cases hq : eq4 x.a x.b x.c x.e 0 0 0 0
    · rfl
    · exact absurd (h0.2 (eq4_true.1 hq)) e
theorem oneL_vl {x : Cn} (h : LimC x) : oneL x = if vl x = 0 then [] else [x] := by
  unfold oneL
  rw [eq4_vl h]
  by_cases e : vl x = 0 <;> simp [e]
theorem lst_dsL {z : Nat → Cn} (hz : Purse z) : ∀ k, k ≤ 8 → lst z k = (dsL z k).map z
  | 0, _ => rfl
  | k + 1, hk => by
    simp only [lst]
    rw [lst_dsL hz k (by omega), dsL_succ, oneL_vl (hz k (by omega)).1, List.map_append]
    congr 1
    by_cases e : vl (z k) = 0 <;> simp [e]
theorem dsL_srt (z : Nat → Cn) (k p : Nat) : ((dsL z k).map (ky p)).Pairwise (fun x y => cmpB x y < 0) := by
  rw [List.pairwise_map]
  refine (List.Pairwise.sublist List.filter_sublist ?_ : (dsL z k).Pairwise _)
  exact List.pairwise_lt_range.imp (fun h => ky_lt p h)

/-- What a store holds where each place has a purse. -/
structure BkL (L : List (List Int × List Int)) (b : Nat → Nat → Cn) : Prop where
  srt : SrtC L
  pur : ∀ p, p ≤ 256 → Purse (b p)
  mem : ∀ x, x ∈ L ↔ ∃ p d, p ≤ 256 ∧ d < 8 ∧ vl (b p d) ≠ 0 ∧ x = (ky p d, byL (vl (b p d)) 32)
theorem BkL.new : BkL [] (fun _ => zeroP) := ⟨List.Pairwise.nil, fun _ _ => purse_zero, fun x => ⟨fun h => by simp at h, fun ⟨p, d, _, _, h, _⟩ => absurd (vl_zero d) h⟩⟩
theorem BkL.congr {L : List (List Int × List Int)} {b c : Nat → Nat → Cn} (h : BkL L b) (e : ∀ p d, p ≤ 256 → d < 8 → b p d = c p d) : BkL L c := by
  refine ⟨h.srt, fun p hp d hd => by rw [← e p d hp hd]; exact h.pur p hp d hd, fun x => (h.mem x).trans ?_⟩
  constructor
  · rintro ⟨p, d, h1, h2, h3⟩; exact ⟨p, d, h1, h2, by rw [← e p d h1 h2]; exact h3⟩
  · rintro ⟨p, d, h1, h2, h3⟩; exact ⟨p, d, h1, h2, by rw [e p d h1 h2]; exact h3⟩
theorem BkL.keys {L : List (List Int × List Int)} {b : Nat → Nat → Cn} (h : BkL L b) {p : Nat} (hp : p ≤ 256) : keysS L (plc p) = (dsL (b p) 8).map (ky p) := by
  refine srt_ext _ _ (keysS_srt h.srt _) (dsL_srt _ _ _) fun x => ?_
  unfold keysS
  rw [List.mem_map, List.mem_map]
  constructor
  · rintro ⟨y, hy, rfl⟩
    obtain ⟨h1, h2⟩ := List.mem_filter.1 hy
    obtain ⟨q, d, hq, hd, hv, rfl⟩ := (h.mem y).1 h1
    simp only at h2 ⊢
    rw [begs_ky d hq hp] at h2
    obtain rfl : q = p := by simpa using h2
    exact ⟨d, dsL_mem.2 ⟨hd, hv⟩, rfl⟩
  · rintro ⟨d, hd, rfl⟩
    obtain ⟨h1, h2⟩ := dsL_mem.1 hd
    refine ⟨(ky p d, byL (vl (b p d)) 32), List.mem_filter.2 ⟨(h.mem _).2 ⟨p, d, hp, h1, h2, rfl⟩, ?_⟩, rfl⟩
    simp only
    rw [begs_ky d hp hp]
    simp
theorem BkL.get_yes {L : List (List Int × List Int)} {b : Nat → Nat → Cn} (h : BkL L b) {p d : Nat} (hp : p ≤ 256) (hd : d < 8) (hv : vl (b p d) ≠ 0) : getS L (ky p d) = some (byL (vl (b p d)) 32) :=
  get_of h.srt ((h.mem _).2 ⟨p, d, hp, hd, hv, rfl⟩)
theorem BkL.get_no {L : List (List Int × List Int)} {b : Nat → Nat → Cn} (h : BkL L b) {p d : Nat} (hp : p ≤ 256) (hv : d < 8 → vl (b p d) = 0) : getS L (ky p d) = none := by
  cases hg : getS L (ky p d) with
  | none => rfl
  | some v =>
    obtain ⟨q, e, hq, he, hne, hx⟩ := (h.mem _).1 (get_mem hg)
    injection hx with h1 h2
    obtain ⟨rfl, rfl⟩ := (ky_inj hp hq).1 h1
    exact absurd (hv he) hne
def upB (b : Nat → Nat → Cn) (p d : Nat) (x : Cn) : Nat → Nat → Cn := fun q e => if q = p ∧ e = d then x else b q e
theorem upB_at (b : Nat → Nat → Cn) (p d : Nat) (x : Cn) : upB b p d x p d = x := if_pos ⟨rfl, rfl⟩
theorem upB_off {b : Nat → Nat → Cn} {p d : Nat} {x : Cn} {q e : Nat} (h : ¬ (q = p ∧ e = d)) : upB b p d x q e = b q e := if_neg h
theorem BkL.up {L : List (List Int × List Int)} {b : Nat → Nat → Cn} (h : BkL L b) {p d : Nat} (hp : p ≤ 256) (hd : d < 8) {x : Cn} (hx : LimC x) (hxd : x.d = d) : BkL (if vl x = 0 then dropS L (ky p d) else putS L (ky p d) (byL (vl x) 32)) (upB b p d x) := by
  have hpur : ∀ q, q ≤ 256 → Purse (upB b p d x q) := fun q hq e he => by
    by_cases hc : q = p ∧ e = d
    · obtain ⟨rfl, rfl⟩ := hc; rw [upB_at]; exact ⟨hx, hxd⟩
    · rw [upB_off hc]; exact h.pur q hq e he
  by_cases h0 : vl x = 0
  · rw [if_pos h0]
    refine ⟨srt_dropS h.srt _, hpur, fun y => ?_⟩
    rw [mem_drop, h.mem]
    constructor
    · rintro ⟨h1, q, e, hq, he, hv, rfl⟩
      have hc : ¬ (q = p ∧ e = d) := fun hc => h1 ((ky_inj hq hp).2 hc)
      exact ⟨q, e, hq, he, by rw [upB_off hc]; exact hv, by rw [upB_off hc]⟩
    · rintro ⟨q, e, hq, he, hv, rfl⟩
      have hc : ¬ (q = p ∧ e = d) := fun hc => by obtain ⟨rfl, rfl⟩ := hc; rw [upB_at] at hv; exact hv h0
      rw [upB_off hc] at hv ⊢
      exact ⟨fun e2 => hc ((ky_inj hq hp).1 e2), q, e, hq, he, hv, rfl⟩
  · rw [if_neg h0]
    refine ⟨srt_putS h.srt _ _, hpur, fun y => ?_⟩
    rw [mem_put, h.mem]
    constructor
    · rintro (rfl | ⟨h1, q, e, hq, he, hv, rfl⟩)
      · exact ⟨p, d, hp, hd, by rw [upB_at]; exact h0, by rw [upB_at]⟩
      · have hc : ¬ (q = p ∧ e = d) := fun hc => h1 ((ky_inj hq hp).2 hc)
        exact ⟨q, e, hq, he, by rw [upB_off hc]; exact hv, by rw [upB_off hc]⟩
    · rintro ⟨q, e, hq, he, hv, rfl⟩
      by_cases hc : q = p ∧ e = d
      · obtain ⟨rfl, rfl⟩ := hc
        rw [upB_at]
        exact .inl rfl
      · rw [upB_off hc] at hv ⊢
        exact .inr ⟨fun e2 => hc ((ky_inj hq hp).1 e2), q, e, hq, he, hv, rfl⟩
end Go.Proofs.Ytgphdioolcfmmaa

/- bank: places, keys, the number at a key. -/
namespace Go.Proofs.Ytgphdioolcfmmaa
open Go.RowKit

/-- One cell behind the bytes of a row that a conversion of a string made (it bears a mark behind its last cell). -/
theorem run_append_mark {P : Program} (w : World) (t ty e : TypeId) (i : TypeInfo) (ht : P.underlying t = some (.slice e)) (hi : P.info? e = some i) (hz : i.zero = some (.int .u8 0)) (hsz : i.size = 1) (hby : i.bytes = 1)
    (g n cap : Nat) (cur : Array Value) (hg : w.heap[g]? = some (.cells cur e (cur.size, cur.size + 1))) (hcs : cur.size = cap) (hn : n ≤ cap) (hm : n < 100000) (y : Nat) (u : Value) (ha : w.cell? ⟨y, 0, none⟩ = some u) (h1 : u.oneCell' = true) :
    ∃ g' cap' w', (Builtin.append_ #[t, t] ty #[.slice (some ⟨g, 0, none⟩) n cap, .slice (some ⟨y, 0, none⟩) 1 1]).run P w = .ok (.slice (some ⟨g', 0, none⟩) (n + 1) cap') w' ∧ (g' = g ∨ g' = w.heap.size) ∧ g' < w'.heap.size ∧ (∀ j v, (cur.toList.take n ++ [u])[j]? = some v → w'.cell? ⟨g', j, none⟩ = some v) ∧ w.grownBy w' (some g) := by
  have hgl : g < w.heap.size := (Array.getElem?_eq_some_iff.1 hg).1
  have hnews : ∀ j v, ([u] : List Value)[j]? = some v → w.cell? ((⟨y, 0, none⟩ : Addr).add j) = some v := fun j v hj => by
    match j, hj with
    | 0, hj => simp at hj; subst hj; rw [add_cell]; exact ha
    | j + 1, hj => simp at hj
  have htl : (cur.toList.take n).length = n := by rw [List.length_take, Array.length_toList]; omega
  by_cases hroom : n + 1 ≤ cap
  · have hf := run_firstCells_some (P := P) w i.size 1 ⟨y, 0, none⟩ 1 1 [u] (by rw [hsz]; rfl) hnews
    have hnc : n < cur.size := by omega
    have hcell : w.cell? ⟨g, n, none⟩ = some cur[n] := by simp [World.cell?, hg, hnc]
    have hfro : w.frozen? ⟨g, n, none⟩ = false := by simp [World.frozen?, hg]; omega
    have hst : (storeCells ⟨g, n, none⟩ [u] 0).run P w = .ok () (w.setRow g (cur.setIfInBounds n u)) := by
      have e0 : (⟨g, n, none⟩ : Addr).add 0 = ⟨g, n, none⟩ := add_cell 0
      simp only [storeCells, Sem.run_bind, e0]
      rw [run_store P w _ u _ h1, hcell]
      simp [hfro, setCell_eq_setRow w g n cur e _ u hg]
    refine ⟨g, cap, w.setRow g (cur.setIfInBounds n u), ?_, .inl rfl, by simpa [World.setRow] using hgl, fun j v hj => ?_, ⟨rfl, rfl, rfl, by simp [World.setRow], fun k _ hk => setRow_other w g k _ (fun e => hk (by simp [e]))⟩⟩
    · simp only [hsz] at hf
      simp [Builtin.append_, run_underlying ht, sizeOf, typeInfo, hi, hsz, Builtin.lenOf, hroom, hf, Addr.add_lit, hst]
    · rw [cell_of_row _ g j _ e _ (setRow_heap w g cur _ e _ hg), Array.getElem?_setIfInBounds]
      by_cases hj2 : j < n
      · rw [if_neg (by omega)]
        rw [List.getElem?_append_left (by omega), List.getElem?_take_of_lt hj2] at hj
        simpa using hj
      · rw [List.getElem?_append_right (by omega), htl] at hj
        have : j = n := by
          have := (List.getElem?_eq_some_iff.1 hj).1
          simp at this; omega
        subst this
        simp at hj
        subst hj
        rw [if_pos rfl, if_pos hnc]
  · have hold : ∀ j v, (cur.toList.take n)[j]? = some v → w.cell? ((⟨g, 0, none⟩ : Addr).add j) = some v := fun j v hj => by
      have hadd : (⟨g, 0, none⟩ : Addr).add j = ⟨g, j, none⟩ := by unfold Addr.add; split <;> simp_all
      rw [hadd, cell_of_row w g j cur e _ hg]
      rw [List.getElem?_take] at hj
      split at hj
      · simpa using hj
      · cases hj
    have hr := run_append_grow (P := P) w t ty e i _ ht hi hz ⟨g, 0, none⟩ n cap (cur.toList.take n) (by rw [htl, hsz]; omega) hold ⟨y, 0, none⟩ 1 1 [u] (by rw [hsz]; rfl) hnews (by omega) (by omega) (growslice_fits (by omega) (by rw [hby]; omega))
    refine ⟨_, _, _, hr, .inr rfl, by simp, fun j v hj => ?_, ⟨rfl, rfl, rfl, by simp, fun k hk _ => heap_alloc_old w.drew _ hk⟩⟩
    rw [cell_of_row _ w.heap.size j _ e _ (heap_alloc_new w.drew _)]
    rw [Array.getElem?_append_left (by
      have := (List.getElem?_eq_some_iff.1 hj).1
      simpa using this)]
    simpa using hj
theorem wpList_append_mark {P : Program} {w : World} {ops : Array Oper} {rest : List Oper} {o : Oper} {a : Act} {Q : Exit → Act → World → Prop} (hgd : o.guard = none) (s x : Operand) (t : TypeId)
    (ho : o.op = .call { callee := .builtin .append, args := #[s, x], argTypes := #[t, t] })
    (e : TypeId) (i : TypeInfo) (ht : P.underlying t = some (.slice e)) (hi : P.info? e = some i) (hz : i.zero = some (.int .u8 0)) (hsz : i.size = 1) (hby : i.bytes = 1)
    (g n cap : Nat) (cur : Array Value) (hs : a.eval s = .slice (some ⟨g, 0, none⟩) n cap) (hg : w.heap[g]? = some (.cells cur e (cur.size, cur.size + 1))) (hcs : cur.size = cap) (hn : n ≤ cap) (hm : n < 100000) (y : Nat) (u : Value) (hx : a.eval x = .slice (some ⟨y, 0, none⟩) 1 1) (ha : w.cell? ⟨y, 0, none⟩ = some u) (h1 : u.oneCell' = true)
    (h : ∀ g' cap' w', (g' = g ∨ g' = w.heap.size) → g' < w'.heap.size → (∀ j v, (cur.toList.take n ++ [u])[j]? = some v → w'.cell? ⟨g', j, none⟩ = some v) → w.grownBy w' (some g) → wpList P ops Q rest (a.put o.dst (.slice (some ⟨g', 0, none⟩) (n + 1) cap')) w') : wpList P ops Q (o :: rest) a w :=
  wpList_plain hgd fun _ hK => by
    obtain ⟨g', cap', w', hr, h2, h3, h4, h5⟩ := run_append_mark (P := P) w t o.type e i ht hi hz hsz hby g n cap cur hg hcs hn hm y u ha h1
    unfold Oper.wp execOp
    simp only [ho, resolve, invoke, builtin, Sem.run_bind, Sem.run_pure, Result.andThen_ok, List.map_toArray, List.map_cons, List.map_nil, hs, hx, hr]
    exact hK _ _ (h g' cap' w' h2 h3 h4 h5)

/-- A string's bytes. -/
def StrIs (s : ByteArray) (p : List Int) : Prop := s.data.toList = Lib.bytesOf p
theorem StrIs.size {s : ByteArray} {p : List Int} (h : StrIs s p) : s.size = p.length := by
  have : s.data.toList.length = p.length := by rw [h]; simp [Lib.bytesOf]
  rw [Array.length_toList] at this
  exact this
theorem of_any (a : Nat) (ha : a ≤ 255) (w : World) : Calls Try.prog 38 #[.int .u8 a] w fun e w' => ∃ s, e = .returned (.string s) ∧ StrIs s (plc a) ∧ Below w.heap.size w w' := by
  obtain ⟨s, hs, hs2⟩ := conv_src (W := w.alloc (.cells #[.int .u8 a] 5)) (u := .slice (some ⟨w.heap.size, 0, none⟩) 1 1) (p := [(a : Int)]) (src_new w [(a : Int)] 5) (byte_one (by omega))
  rw [Lib.toList_data] at hs2
  have hsz : s.size = 1 := StrIs.size (p := [(a : Int)]) hs2
  have h2 : Hid (s.data.toList = Lib.bytesOf [(a : Int)]) := hs2
  clear hs2
  go_enter Try.func38, Try.ntmps38
  go_wp2
  go_ret
  refine ⟨_, rfl, ?_, by (repeat (first | (with_reducible exact Below.refl _ _) | (with_reducible assumption) | (with_reducible apply bd) | (with_reducible apply ba) | (with_reducible refine bp ?_ (by first | omega | (simp [pad_size]; done) | (simp [pad_size]; omega)) _ _) | (with_reducible refine bs ?_ (by first | omega | (simp [pad_size]; done) | (simp [pad_size]; omega)) _) | (with_reducible refine bt ?_ (by assumption))))⟩
  unfold StrIs plc
  rw [if_pos (by omega), ByteArray.data_append, Array.toList_append, h2.out]
  simp [Lib.bytesOf, hasB]
theorem strIs_all : StrIs ⟨#[98, 97, 110, 107, 46, 97, 108, 108, 46]⟩ (plc 256) := by
  unfold StrIs plc allK; rw [if_neg (by omega)]; decide
/-- The bytes of a string as a slice. -/
theorem cv_str {s : ByteArray} {p : List Int} (h : StrIs s p) (hp : Byte p) (w : World) : ∃ cap cur, (convert 9 81 (.string s)).run Try.prog w = .ok (.slice (some ⟨w.heap.size, 0, none⟩) p.length cap) (w.drew.alloc (.cells cur 5 (cur.size, cur.size + 1))) ∧ cur.size = cap ∧ p.length ≤ cap ∧ cur.toList.take p.length = encB p := by
  have h1 := run_bytes_of_string (P := Try.prog) w 9 81 5 s Try.underlying9 Try.underlying81 Try.underlying5
  have hs := h.size
  have hge := grownCap_ge w s.size 0 5
  have hsz : s.data.size = s.size := rfl
  refine ⟨grownCap w s.size 0 5, bytesRow s (grownCap w s.size 0 5), by rw [h1, hs], ?_, by omega, ?_⟩
  · unfold bytesRow
    simp only [Array.size_append, Array.size_map, Array.size_replicate, hsz]
    omega
  · unfold bytesRow
    rw [Array.toList_append, List.take_append_of_le_length (by simp [hsz]; omega), List.take_of_length_le (by simp [hsz]; omega)]
    rw [Array.toList_map, h]
    unfold Lib.bytesOf encB
    rw [List.map_map]
    refine List.map_congr_left fun x hx => ?_
    have := hp x hx
    simp only [Function.comp, UInt8.toNat_ofNat']
    congr 1
    omega
set_option maxHeartbeats 1000000 in
theorem key_any {s : ByteArray} {p : List Int} (h : StrIs s p) (hp : Byte p) (hl : p.length < 1000) (d : Nat) (w : World) :
    Calls Try.prog 37 #[.string s, .int .u8 d] w fun e w' => ∃ g cap, e = .returned (.slice (some ⟨g, 0, none⟩) (p.length + 1) cap) ∧ Src w' (.slice (some ⟨g, 0, none⟩) (p.length + 1) cap) (p ++ [(d : Int)]) ∧ w.heap.size ≤ g ∧ g < w'.heap.size ∧ Below w.heap.size w w' := by
  obtain ⟨cap, cur, hcv, hc1, hc2, hc3⟩ := cv_str h hp w
  have hc3 : Hid _ := hc3
  obtain ⟨i0, hi, hz0, hz1, hz2⟩ := info_parts u8_info
  go_enter Try.func37, Try.ntmps37
  go_wp2_with (at_builtin; refine wpList_append_mark rfl _ _ 81 rfl 5 i0 Try.underlying81 hi hz0 hz1 hz2 w.heap.size p.length cap cur rfl ?_ hc1 hc2 (by omega) (w.heap.size + 1) (.int .u8 d) rfl ?_ rfl ?_)
  · rw [hc1]; exact (al_old (by simp)).trans (al_at rfl)
  · exact (cells_of_block (al_at (by simp))).1 0
  · intro g' cap' w' h1 h2 h3 h4
    go_wp2
    go_ret
    refine ⟨g', cap', rfl, .inr ⟨⟨g', 0, none⟩, cap', by simp, fun i x hx => ?_⟩, by omega, h2, ?_⟩
    · rw [add_cell, Nat.zero_add]
      refine h3 i _ ?_
      have e : encB p ++ [.int .u8 (d : Int)] = encB (p ++ [(d : Int)]) := by simp [encB]
      rw [e]
      simp only [encB, List.getElem?_map, hx]
      rfl
    · have hb0 : Below w.heap.size w ((w.alloc (.cells cur 5 (cap, cap + 1))).alloc (.cells #[.int .u8 (d : Int)] 5)).drew := by (repeat (first | (with_reducible exact Below.refl _ _) | (with_reducible assumption) | (with_reducible apply bd) | (with_reducible apply ba) | (with_reducible refine bp ?_ (by first | omega | (simp [pad_size]; done) | (simp [pad_size]; omega)) _ _) | (with_reducible refine bs ?_ (by first | omega | (simp [pad_size]; done) | (simp [pad_size]; omega)) _) | (with_reducible refine bt ?_ (by assumption))))
      exact hb0.grown h4 hb0.size (fun k hk => by injection hk with hk; omega)
theorem isb_src {W : World} {v : Value} {p : List Int} (h : IsBytes W v p) (hp : p ≠ []) : Src W v p := by
  rcases h with ⟨rfl, -⟩ | ⟨blk, off, cap, e, -, -, hc⟩
  · exact absurd rfl hp
  · exact .inr ⟨_, _, e, fun i x hi => by rw [add_cell]; exact hc i x hi⟩
theorem ky_ne (p d : Nat) : ky p d ≠ [] := by unfold ky; simp
section
variable {W : World} {s base : Nat} {A : Nat → Prop} {L : List (List Int × List Int)} {ds : List (List (List Int × List Int))} {n : Nat} {b : Nat → Nat → Cn}
set_option maxHeartbeats 1000000 in
/-- What is kept at a key. -/
theorem amt_any {u : Value} {p d : Nat} (h : StD W s base A L ds n) (hB : BkL L b) (hn : n ≤ 1000) (hp : p ≤ 256) (hd : d ≤ 255) (hu : Src W u (ky p d)) :
    Calls Try.prog 36 #[.pointer (some ⟨s, 0, none⟩), u] W fun e w' => e = .returned (.agg #[.int .u64 (amt (lst (b p) 8) d).a, .int .u64 (amt (lst (b p) 8) d).b, .int .u64 (amt (lst (b p) 8) d).c, .int .u64 (amt (lst (b p) 8) d).e]) ∧ Below W.heap.size W w' := by
  have hpur := hB.pur p hp
  have hlim := amt_lim hpur (d : Int)
  have hG := stdGet h hn hu (byte_ky p hd)
  have hR : ∀ (v : Value) (X : World), ((getS L (ky p d) = none ∧ v = .slice none 0 0) ∨ ∃ q, getS L (ky p d) = some q ∧ IsBytes X v q) → Calls Try.prog 54 #[v] X fun e w' => e = .returned (.tuple #[.agg #[.int .u64 (amt (lst (b p) 8) d).a, .int .u64 (amt (lst (b p) 8) d).b, .int .u64 (amt (lst (b p) 8) d).c, .int .u64 (amt (lst (b p) 8) d).e], .int .i64 0]) ∧ Below X.heap.size X w' := by
    intro v X hv
    by_cases hc : d < 8 ∧ vl (b p d) ≠ 0
    · have hg := hB.get_yes hp hc.1 hc.2
      rcases hv with ⟨e, -⟩ | ⟨q, e, hq⟩
      · rw [hg] at e; cases e
      · rw [hg] at e; injection e with e; subst e
        rw [amt_full hpur hc.1] at hlim ⊢
        have h1 := vl_lo hpur hc.1
        exact read_good (byL_good _ _) (byL_len _ _) hlim (rd_byL32 h1.1 h1.2).symm X hq
    · have hz : vl (amt (lst (b p) 8) d) = 0 := by
        by_cases h8 : d < 8
        · rw [amt_full hpur h8]; exact Classical.byContradiction fun e => hc ⟨h8, e⟩
        · rw [amt_beyond hpur h8]; exact val0
      have hg := hB.get_no (d := d) hp (fun h8 => Classical.byContradiction fun e => hc ⟨h8, e⟩)
      rcases hv with ⟨-, rfl⟩ | ⟨q, e, hq⟩
      · exact read_good good_nil (by simp) hlim (hz.trans rd_nil.symm) X (.inl ⟨rfl, _, _, rfl⟩)
      · rw [hg] at e; cases e
  generalize amt (lst (b p) 8) d = x at *
  replace hR : Hid _ := hR
  clear hG
  have hpad := pads
  obtain ⟨su, cu, rfl, -⟩ := hu.parts
  go_enter Try.func36, Try.ntmps36
  go_wp2_with (first
    | (go_at_call 53; refine (stdGet (h.below (by (repeat (first | (with_reducible exact Below.refl _ _) | (with_reducible assumption) | (with_reducible apply bd) | (with_reducible apply ba) | (with_reducible refine bp ?_ (by first | omega | (simp [pad_size]; done) | (simp [pad_size]; omega)) _ _) | (with_reducible refine bs ?_ (by first | omega | (simp [pad_size]; done) | (simp [pad_size]; omega)) _) | (with_reducible refine bt ?_ (by assumption)))))) hn (hu.kept (grown_none (by (repeat (first | (with_reducible exact Below.refl _ _) | (with_reducible assumption) | (with_reducible apply bd) | (with_reducible apply ba) | (with_reducible refine bp ?_ (by first | omega | (simp [pad_size]; done) | (simp [pad_size]; omega)) _ _) | (with_reducible refine bs ?_ (by first | omega | (simp [pad_size]; done) | (simp [pad_size]; omega)) _) | (with_reducible refine bt ?_ (by assumption))))))) (byte_ky p hd)).mono ?_; rintro e w1 ⟨hb1, ⟨h1, rfl⟩ | ⟨v, q, h1, rfl, hv⟩⟩)
    | (go_at_call 54; refine (hR.out _ _ (.inl ⟨h1, rfl⟩)).mono ?_; rintro e w2 ⟨rfl, hb2⟩; obtain ⟨m2, g2, d2, hm2, rfl⟩ := pad_of (bt hb1 hb2); clear hb1 hb2; (try simp at hm2); have st := sz1 (n := W.heap.size) (m := m2) hm2)
    | (go_at_call 54; refine (hR.out _ _ (.inr ⟨q, h1, hv⟩)).mono ?_; rintro e w2 ⟨rfl, hb2⟩; clear hv; obtain ⟨m2, g2, d2, hm2, rfl⟩ := pad_of (bt hb1 hb2); clear hb1 hb2; (try simp at hm2); have st := sz1 (n := W.heap.size) (m := m2) hm2))
  all_goals refine bodyPost_ret (v := .agg #[.int .u64 x.a, .int .u64 x.b, .int .u64 x.c, .int .u64 x.e]) (by simp only [results, Try.results36]; go_simp) rfl ⟨rfl, ?_⟩
  all_goals (repeat (first | (with_reducible exact Below.refl _ _) | (with_reducible assumption) | (with_reducible apply bd) | (with_reducible apply ba) | (with_reducible refine bp ?_ (by first | omega | (simp [pad_size]; done) | (simp [pad_size]; omega)) _ _) | (with_reducible refine bs ?_ (by first | omega | (simp [pad_size]; done) | (simp [pad_size]; omega)) _) | (with_reducible refine bt ?_ (by assumption))))
end
end Go.Proofs.Ytgphdioolcfmmaa

/- bank: a number is kept at a key; what is kept at a place. -/
namespace Go.Proofs.Ytgphdioolcfmmaa
open Go.RowKit

theorem bytes_row (x0 x1 x2 x3 : Int) (hx : Lim x0 x1 x2 x3) (w : World) :
    Calls Try.prog 70 #[.agg #[.int .u64 x0, .int .u64 x1, .int .u64 x2, .int .u64 x3]] w fun e w' => ∃ v : Value, e = .returned v ∧ IsBytes w' v (byL (val x0 x1 x2 x3) 32) ∧ (∀ g, v.ownBlock = some g → w.heap.size ≤ g) ∧ Below w.heap.size w w' := by
  refine (bytes_any x0 x1 x2 x3 hx w).mono ?_
  rintro e w' ⟨v, rfl, hr, hb⟩
  rw [bytesB_byL hx] at hr
  have := byL_len (val x0 x1 x2 x3) 32
  exact ⟨v, rfl, own_bytes (by omega) hr, fun g hg => (hr.lt g hg).1, hb⟩
theorem byL_ne {n : Int} (h0 : 0 ≤ n) (h1 : n < 115792089237316195423570985008687907853269984665640564039457584007913129639936) (hn : n ≠ 0) : byL n 32 ≠ [] := fun e => by
  have := rd_byL32 h0 h1
  rw [e, rd_nil] at this
  exact hn this.symm
section
variable {W : World} {s base : Nat} {A : Nat → Prop} {L : List (List Int × List Int)} {ds : List (List (List Int × List Int))} {n : Nat} {b : Nat → Nat → Cn}
set_option maxHeartbeats 4000000 in
theorem putB_any {u : Value} {p d : Nat} {x : Cn} (h : StD W s base A L ds n) (hB : BkL L b) (hn : n ≤ 1000) (hp : p ≤ 256) (hd : d < 8) (hu : Src W u (ky p d)) (hua : ∀ g, u.ownBlock = some g → ¬ A g) (hx : LimC x) (hxd : x.d = d) :
    Calls Try.prog 56 #[.pointer (some ⟨s, 0, none⟩), u, .agg #[.int .u64 x.a, .int .u64 x.b, .int .u64 x.c, .int .u64 x.e]] W fun e w' => e = .returned (.tuple #[]) ∧ ∃ A' L', StD w' s base A' L' ds (n + 1) ∧ BkL L' (upB b p d x) ∧ Fr W w' A A' := by
  have heq := eq_num
  have hE := eq4_vl hx
  have hU := hB.up hp hd hx hxd
  have hkb := byte_ky p (d := d) (by omega)
  have hkl : (ky p d).length ≤ 1048576 := by have := plc_len p; have := ky_len p d; omega
  obtain ⟨su, cu, rfl, -⟩ := hu.parts
  have h1 : 0 ≤ vl x ∧ vl x < 115792089237316195423570985008687907853269984665640564039457584007913129639936 := ⟨val_lo hx, val_hi hx⟩
  by_cases h0 : vl x = 0
  · rw [decide_eq_true h0] at hE
    rw [if_pos h0] at hU
    go_enter Try.func56, Try.ntmps56
    go_wp2_with (go_at_call 68; refine (stdDel (h.below (by (repeat (first | (with_reducible exact Below.refl _ _) | (with_reducible assumption) | (with_reducible apply bd) | (with_reducible apply ba) | (with_reducible refine bp ?_ (by first | omega | (simp [pad_size]; done) | (simp [pad_size]; omega)) _ _) | (with_reducible refine bs ?_ (by first | omega | (simp [pad_size]; done) | (simp [pad_size]; omega)) _) | (with_reducible refine bt ?_ (by assumption)))))) hn (hu.kept (grown_none (by (repeat (first | (with_reducible exact Below.refl _ _) | (with_reducible assumption) | (with_reducible apply bd) | (with_reducible apply ba) | (with_reducible refine bp ?_ (by first | omega | (simp [pad_size]; done) | (simp [pad_size]; omega)) _ _) | (with_reducible refine bs ?_ (by first | omega | (simp [pad_size]; done) | (simp [pad_size]; omega)) _) | (with_reducible refine bt ?_ (by assumption))))))) hkb hkl (.inr hua)).mono ?_; rintro e w1 ⟨rfl, A1, h2, f1⟩)
    refine bodyPost_end (v := .tuple #[]) (by simp [results, Try.results56]) rfl ?_
    exact ⟨rfl, A1, _, h2, hU, (Fr.below (by (repeat (first | (with_reducible exact Below.refl _ _) | (with_reducible assumption) | (with_reducible apply bd) | (with_reducible apply ba) | (with_reducible refine bp ?_ (by first | omega | (simp [pad_size]; done) | (simp [pad_size]; omega)) _ _) | (with_reducible refine bs ?_ (by first | omega | (simp [pad_size]; done) | (simp [pad_size]; omega)) _) | (with_reducible refine bt ?_ (by assumption)))))).trans f1⟩
  · rw [decide_eq_false h0] at hE
    rw [if_neg h0] at hU
    have hne := byL_ne h1.1 h1.2 h0
    have hgd := byL_good (vl x) 32
    have hgl := byL_len (vl x) 32
    have hBy : ∀ X : World, Calls Try.prog 70 #[.agg #[.int .u64 x.a, .int .u64 x.b, .int .u64 x.c, .int .u64 x.e]] X fun e w' => ∃ v : Value, e = .returned v ∧ IsBytes w' v (byL (vl x) 32) ∧ (∀ g, v.ownBlock = some g → X.heap.size ≤ g) ∧ Below X.heap.size X w' := fun X => bytes_row x.a x.b x.c x.e hx X
    generalize byL (vl x) 32 = q at *
    go_enter Try.func56, Try.ntmps56
    go_wp2_with (first
      | (go_at_call 70; refine (hBy _).mono ?_; rintro e w1 ⟨v, rfl, hv, ho, hb1⟩; have hB1 : Below W.heap.size W w1 := bt (by (repeat (first | (with_reducible exact Below.refl _ _) | (with_reducible assumption) | (with_reducible apply bd) | (with_reducible apply ba) | (with_reducible refine bp ?_ (by first | omega | (simp [pad_size]; done) | (simp [pad_size]; omega)) _ _) | (with_reducible refine bs ?_ (by first | omega | (simp [pad_size]; done) | (simp [pad_size]; omega)) _) | (with_reducible refine bt ?_ (by assumption))))) hb1)
      | (go_at_call 69; refine (stdSet (h.below (bt hB1 (by (repeat (first | (with_reducible exact Below.refl _ _) | (with_reducible assumption) | (with_reducible apply bd) | (with_reducible apply ba) | (with_reducible refine bp ?_ (by first | omega | (simp [pad_size]; done) | (simp [pad_size]; omega)) _ _) | (with_reducible refine bs ?_ (by first | omega | (simp [pad_size]; done) | (simp [pad_size]; omega)) _) | (with_reducible refine bt ?_ (by assumption))))))) hn (hu.kept (grown_none (bt hB1 (by (repeat (first | (with_reducible exact Below.refl _ _) | (with_reducible assumption) | (with_reducible apply bd) | (with_reducible apply ba) | (with_reducible refine bp ?_ (by first | omega | (simp [pad_size]; done) | (simp [pad_size]; omega)) _ _) | (with_reducible refine bs ?_ (by first | omega | (simp [pad_size]; done) | (simp [pad_size]; omega)) _) | (with_reducible refine bt ?_ (by assumption)))))))) ((isb_src hv hne).kept (grown_none (by (repeat (first | (with_reducible exact Below.refl _ _) | (with_reducible assumption) | (with_reducible apply bd) | (with_reducible apply ba) | (with_reducible refine bp ?_ (by first | omega | (simp [pad_size]; done) | (simp [pad_size]; omega)) _ _) | (with_reducible refine bs ?_ (by first | omega | (simp [pad_size]; done) | (simp [pad_size]; omega)) _) | (with_reducible refine bt ?_ (by assumption))))))) hkb hgd.1 hkl (by omega) (.inr hua) (.inr fun g hg hA => by have h7 := ho g hg; have h8 := (h.foot g hA).2; (first | omega | (simp at h7; omega)))).mono ?_; rintro e w2 ⟨rfl, A1, h2, f1⟩))
    refine bodyPost_end (v := .tuple #[]) (by simp [results, Try.results56]) rfl ?_
    exact ⟨rfl, A1, _, h2, hU, (Fr.below hB1).trans f1⟩
end
theorem coin_app {W X : World} {v : Value} {l : List Cn} (hr : X.ownsRow W.heap.size 65 5 v l.length (cellsL l)) (hb : Below W.heap.size W X) (hl : l.length ≤ 1000) {x : Cn} {o : Oper} {a : Act} {K : Act → World → Prop} {Q : Exit → Act → World → Prop} (s y : Operand)
    (ho : o.op = .call { callee := .builtin .append, args := #[s, y], argTypes := #[29, 29] }) (hs : a.eval s = v) {g : Nat} (hx : a.eval y = .slice (some ⟨g, 0, none⟩) 1 1) (hc : X.heap[g]? = some (.cells #[.int .u8 x.d, .int .u64 x.a, .int .u64 x.b, .int .u64 x.c, .int .u64 x.e] 65 (0, 0)))
    (k : ∀ v' w', w'.ownsRow W.heap.size 65 5 v' (l ++ [x]).length (cellsL (l ++ [x])) → Below W.heap.size W w' → K (a.put o.dst v') w') : o.wp Try.prog a X K Q := by
  obtain ⟨i0, hi, hz0, hz1, hz2⟩ := info_parts coin_info
  refine wp_append_own_at X s y 29 ho W.heap.size 65 i0 _ 5 40 Try.underlying29 hi hz0 hz1 hz2 rfl (by decide) v l.length (cellsL l) hs hr ⟨g, 0, none⟩ 1 1 [.int .u8 x.d, .int .u64 x.a, .int .u64 x.b, .int .u64 x.c, .int .u64 x.e] hx rfl (fun j u hj => by rw [add_cell, Nat.zero_add, (cells_of_block hc).1]; simpa using hj) (by simp [Value.oneCell']) (by unfold maxLen; omega) (by omega) hb.size ?_
  intro u' w' hown hg _ hat
  refine k u' w' (by rw [List.length_append, cellsL_append]; exact hown) (hb.grown hg hb.size (fun k hk => (hr.lt k hk).1))
theorem kst_at {W : World} {v : Value} {D : List Nat} {p : Nat} (h : Kst W v (D.map (ky p))) {j : Nat} (hj : j < D.length) : ∃ g cap blk off c, v = .slice (some ⟨g, 0, none⟩) D.length cap ∧ g < W.heap.size ∧ W.cell? ⟨g, j, none⟩ = some (.slice (some ⟨blk, off, none⟩) ((plc p).length + 1) c) ∧ blk < W.heap.size ∧ IsBytes W (.slice (some ⟨blk, off, none⟩) ((plc p).length + 1) c) (ky p D[j]) ∧ W.cell? ⟨blk, off + (plc p).length, none⟩ = some (.int .u8 (D[j] : Int)) := by
  obtain ⟨g, cap, a, c, e, h1, h2, h3⟩ := h.2 j (by simpa using hj)
  simp only [List.getElem_map, List.length_map] at e h2 h3
  rcases h3 with ⟨h4, -⟩ | ⟨blk, off, c', e2, h4, h5, h6⟩
  · exact absurd h4 (ky_ne _ _)
  · simp at e2
    obtain ⟨rfl, rfl⟩ := e2
    rw [ky_len] at h2
    have h7 := h6 (plc p).length (D[j] : Int) (by unfold ky; simp)
    refine ⟨g, cap, blk, off, c, e, h1, h2, h5, .inr ⟨blk, off, c, by rw [ky_len], h4, h5, h6⟩, h7⟩
theorem src_cur {X : World} {g cap : Nat} {p : List Int} {cur : Array Value} {t : TypeId} {fz : Nat × Nat} (h : X.heap[g]? = some (.cells cur t fz)) (hc : cur.toList.take p.length = encB p) : Src X (.slice (some ⟨g, 0, none⟩) p.length cap) p := by
  refine .inr ⟨⟨g, 0, none⟩, cap, rfl, fun i x hi => ?_⟩
  rw [add_cell, Nat.zero_add, cell_of_row X g i cur t fz h]
  have h1 : (cur.toList.take p.length)[i]? = some (.int .u8 x) := by rw [hc]; simp [encB, hi]
  rw [List.getElem?_take] at h1
  split at h1
  · simpa using h1
  · cases h1
section
variable {W : World} {s base : Nat} {A : Nat → Prop} {L : List (List Int × List Int)} {ds : List (List (List Int × List Int))} {n : Nat} {b : Nat → Nat → Cn}
set_option maxHeartbeats 4000000 in
theorem kept_new {t : ByteArray} {p : Nat} (h : StD W s base A L ds n) (hB : BkL L b) (hn : n ≤ 1000) (hp : p ≤ 256) (ht : StrIs t (plc p)) :
    Calls Try.prog 35 #[.pointer (some ⟨s, 0, none⟩), .string t] W fun e w' => ∃ v, e = .returned v ∧ IsCoins w' v (lst (b p) 8) ∧ (∀ g, v.ownBlock = some g → W.heap.size ≤ g ∧ g < w'.heap.size) ∧ Below W.heap.size W w' := by
  have hpad := pads
  have hpur := hB.pur p hp
  obtain ⟨cap, cur, hcv, hc1, hc2, hc3⟩ := cv_str ht (byte_plc p) W
  replace hc3 : Hid _ := hc3
  have hpl : (plc p).length ≤ 1048576 := by have := plc_len p; omega
  have hK : Hid (∀ (X : World) (u : Value), Below W.heap.size W X → Src X u (plc p) → Calls Try.prog 51 #[.pointer (some ⟨s, 0, none⟩), u] X fun e w' => ∃ v, e = .returned v ∧ Kst w' v ((dsL (b p) 8).map (ky p)) ∧ Below X.heap.size X w') := fun X u hb hu => by rw [← hB.keys hp]; exact stdKeys (h.below hb) hn hu (byte_plc p) hpl
  have hL := lst_dsL hpur 8 (Nat.le_refl _)
  have hdl : (dsL (b p) 8).length ≤ 8 := by
    have : ((dsL (b p) 8).map (b p)).length ≤ 8 := by rw [← hL]; exact lst_len _ _
    simpa using this
  have hdm : ∀ d ∈ dsL (b p) 8, d < 8 ∧ vl (b p d) ≠ 0 := fun d hd => dsL_mem.1 hd
  rw [hL]
  generalize hds : dsL (b p) 8 = D at *
  clear hL hds
  go_enter Try.func35, Try.ntmps35
  go_wp2_with (go_at_call 51; refine (hK.out (W.alloc (.cells cur 5 (cap, cap + 1))).drew _ (by (repeat (first | (with_reducible exact Below.refl _ _) | (with_reducible assumption) | (with_reducible apply bd) | (with_reducible apply ba) | (with_reducible refine bp ?_ (by first | omega | (simp [pad_size]; done) | (simp [pad_size]; omega)) _ _) | (with_reducible refine bs ?_ (by first | omega | (simp [pad_size]; done) | (simp [pad_size]; omega)) _) | (with_reducible refine bt ?_ (by assumption))))) (src_cur (cap := cap) (fz := (cap, cap + 1)) ((dr_blk _ _).trans (al_at rfl)) hc3.out)).mono ?_; rintro e w1 ⟨v, rfl, hk, hb1⟩; have hB1 : Below W.heap.size W w1 := bt (by (repeat (first | (with_reducible exact Below.refl _ _) | (with_reducible assumption) | (with_reducible apply bd) | (with_reducible apply ba) | (with_reducible refine bp ?_ (by first | omega | (simp [pad_size]; done) | (simp [pad_size]; omega)) _ _) | (with_reducible refine bs ?_ (by first | omega | (simp [pad_size]; done) | (simp [pad_size]; omega)) _) | (with_reducible refine bt ?_ (by assumption))))) hb1; obtain ⟨ak, ck, rfl⟩ := hk.1; clear hb1)
  go_loopw [5, 13] (fun v5 v13 X => ∃ j : Nat, j ≤ D.length ∧ v13 = .int .i64 (j : Int) ∧ X.ownsRow w1.heap.size 65 5 v5 ((D.take j).map (b p)).length (cellsL ((D.take j).map (b p))) ∧ Below w1.heap.size w1 X) (fun _ v13 _ => D.length - (intOf v13).toNat)
  case atStart => exact ⟨0, by omega, rfl, World.ownsRow_nil _ _ _ _, Below.refl _ _⟩
  case round =>
    obtain ⟨j, hj, rfl, hrow, hX⟩ := hrel
    by_cases hlt : j < D.length
    · obtain ⟨g, cp, blk, off, c, ev, hg, hc0, hbl, hkb, hc1'⟩ := kst_at hk hlt
      simp at ev
      obtain ⟨rfl, rfl⟩ := ev
      obtain ⟨hd8, hdv⟩ := hdm _ (List.getElem_mem hlt)
      have hx := hpur _ hd8
      have hA : Hid (∀ X, Below w1.heap.size w1 X → Calls Try.prog 36 #[.pointer (some ⟨s, 0, none⟩), .slice (some ⟨blk, off, none⟩) ((plc p).length + 1) c] X fun e w' => e = .returned (.agg #[.int .u64 (b p D[j]).a, .int .u64 (b p D[j]).b, .int .u64 (b p D[j]).c, .int .u64 (b p D[j]).e]) ∧ Below X.heap.size X w') := fun X hX => by
        have := amt_any (h.below (bt hB1 hX)) hB hn hp (d := D[j]) (by omega) (isb_src (hkb.below hX) (ky_ne _ _))
        rwa [amt_full hpur hd8] at this
      have hq : Hid (eq4 (b p D[j]).a (b p D[j]).b (b p D[j]).c (b p D[j]).e 0 0 0 0 = false) := by show _ = _; rw [eq4_vl hx.1, decide_eq_false hdv]
      have htk : Hid ((D.take (j + 1)).map (b p) = (D.take j).map (b p) ++ [⟨(D[j] : Nat), (b p D[j]).a, (b p D[j]).b, (b p D[j]).c, (b p D[j]).e⟩]) := by
        show _ = _
        rw [List.take_succ_eq_append_getElem hlt, List.map_append]
        congr 1
        simp only [List.map_cons, List.map_nil]
        rw [← hx.2]
      have hl8 : ((D.take j).map (b p)).length ≤ 1000 := by simp; omega
      generalize (D.take j).map (b p) = l at *
      generalize b p D[j] = x at *
      generalize hdd : D[j] = d at *
      have hd8' : ¬ (8 : Int) ≤ (d : Int) := by omega
      have hKeep : Hid (∀ X, Below w1.heap.size w1 X → X.cell? ⟨blk, off + (plc p).length, none⟩ = some (.int .u8 (d : Int))) := fun X hX => (hX.cell (p := ⟨blk, off + (plc p).length, none⟩) hbl).trans hc1'
      have k0 := hKeep.out _ hX
      have c0 := (hX.cell (p := ⟨g, j, none⟩) hg).trans hc0
      have hdl : decide ((j : Int) < (D.length : Int)) = true := by simpa using hlt
      have hpm := plc_len p
      obtain ⟨m, hm⟩ : ∃ m, (plc p).length = m := ⟨_, rfl⟩
      rw [hm] at hpm hA hKeep k0 c0
      clear hc1' hc0 hkb hm hk hdd hdm
      obtain ⟨a5, c5, rfl⟩ := row_slice hrow
      obtain ⟨n1, hn1⟩ : ∃ n1, m + 1 = n1 := ⟨_, rfl⟩
      rw [hn1] at hA c0
      have hw1 : IntKind.i64.wrap ((n1 : Int) - 1) = (m : Int) := by rw [IntKind.wrap_i64]; omega
      have hm0 : (0 : Int) ≤ (m : Int) := by omega
      have hm1 : (m : Int) < (n1 : Int) := by omega
      clear hn1 hpm
      go_upto_region 5 with fail
      go_region_held2 (fun X => X.cell? ⟨blk, off + m, none⟩ = some (.int .u8 (d : Int))) (first | (with_reducible exact hKeep.out _ (by assumption)) | exact hKeep.out _ (bt hX (by (repeat (first | (with_reducible exact Below.refl _ _) | (with_reducible assumption) | (with_reducible apply bd) | (with_reducible apply ba) | (with_reducible refine bp ?_ (by first | omega | (simp [pad_size]; done) | (simp [pad_size]; omega)) _ _) | (with_reducible refine bs ?_ (by first | omega | (simp [pad_size]; done) | (simp [pad_size]; omega)) _) | (with_reducible refine bt ?_ (by assumption))))))) (first
        | (go_at_call 36; refine (hA.out _ (bt hX (by (repeat (first | (with_reducible exact Below.refl _ _) | (with_reducible assumption) | (with_reducible apply bd) | (with_reducible apply ba) | (with_reducible refine bp ?_ (by first | omega | (simp [pad_size]; done) | (simp [pad_size]; omega)) _ _) | (with_reducible refine bs ?_ (by first | omega | (simp [pad_size]; done) | (simp [pad_size]; omega)) _) | (with_reducible refine bt ?_ (by assumption))))))).mono ?_; rintro e w2 ⟨rfl, hb2⟩; obtain ⟨m1, g1, d1, hm1, rfl⟩ := pad_of hb2; clear hb2; (try simp [pad_size] at hm1))
        | (go_at_call 52; refine (one_some d x.a x.b x.c x.e (by omega) hq.out _).mono ?_; rintro e w3 ⟨rfl, rfl⟩)
        | (rw [if_pos (by rfl)]; refine coin_app (W := w1) (x := ⟨(d : Nat), x.a, x.b, x.c, x.e⟩) (own_below hrow (by (repeat (first | (with_reducible exact Below.refl _ _) | (with_reducible assumption) | (with_reducible apply bd) | (with_reducible apply ba) | (with_reducible refine bp ?_ (by first | omega | (simp [pad_size]; done) | (simp [pad_size]; omega)) _ _) | (with_reducible refine bs ?_ (by first | omega | (simp [pad_size]; done) | (simp [pad_size]; omega)) _) | (with_reducible refine bt ?_ (by assumption)))))) (bt hX (by (repeat (first | (with_reducible exact Below.refl _ _) | (with_reducible assumption) | (with_reducible apply bd) | (with_reducible apply ba) | (with_reducible refine bp ?_ (by first | omega | (simp [pad_size]; done) | (simp [pad_size]; omega)) _ _) | (with_reducible refine bs ?_ (by first | omega | (simp [pad_size]; done) | (simp [pad_size]; omega)) _) | (with_reducible refine bt ?_ (by assumption)))))) hl8 _ _ rfl rfl rfl (by (repeat (first | (with_reducible exact al_at (by simp [pad_size])) | (with_reducible refine Eq.trans (dr_blk _ _) ?_) | (with_reducible refine Eq.trans (al_old (by first | omega | (simp [pad_size]; done) | (simp [pad_size]; omega))) ?_) | (with_reducible refine Eq.trans (pad_block (by first | omega | (simp [pad_size]; done) | (simp [pad_size]; omega)) (by first | omega | (simp [pad_size]; done) | (simp [pad_size]; omega))) ?_) | (with_reducible assumption)))) ?_; intro v' w4 hr4 hb4))
      all_goals go_wp2
      all_goals go_roundw
      case rel => exact ⟨j + 1, by omega, by go_num, by rw [htk.out]; exact hr4, hb4⟩
      case measure => (simp [intOf] <;> omega)
    · have hjn : j = D.length := by omega
      subst hjn
      rw [List.take_length] at hrow
      go_wp2
      go_ret
      refine ⟨_, rfl, own_coins hrow (by simp; omega), fun g hg => ⟨Nat.le_trans hB1.size (hrow.lt g hg).1, (hrow.lt g hg).2⟩, bt hB1 hX⟩
theorem kept_any {t : ByteArray} {p : Nat} (h : StD W s base A L ds n) (hB : BkL L b) (hn : n ≤ 1000) (hp : p ≤ 256) (ht : StrIs t (plc p)) :
    Calls Try.prog 35 #[.pointer (some ⟨s, 0, none⟩), .string t] W fun e w' => ∃ v, e = .returned v ∧ IsCoins w' v (lst (b p) 8) ∧ Below W.heap.size W w' := by
  refine (kept_new h hB hn hp ht).mono ?_
  rintro e w' ⟨v, rfl, h1, -, h2⟩
  exact ⟨v, rfl, h1, h2⟩
end
end Go.Proofs.Ytgphdioolcfmmaa

/- bank: what is kept at a place becomes another purse. -/
namespace Go.Proofs.Ytgphdioolcfmmaa
open Go.RowKit

/-- A list of coins outside of what is a store's (or none). -/
def Out (A : Nat → Prop) (v : Value) (l : List Cn) : Prop := l = [] ∨ ∀ g, v.ownBlock = some g → ¬ A g
theorem IsCoins.fr {W W' : World} {A A' : Nat → Prop} {v : Value} {l : List Cn} (h : IsCoins W v l) (hf : Fr W W' A A') (ho : Out A v l) : IsCoins W' v l := by
  rcases h with h | ⟨blk, off, cap, hv, hne, hlen, hlt, hall⟩
  · exact .inl h
  · have hb := hf.block blk hlt (ho.resolve_left hne blk (by rw [hv]; rfl))
    refine .inr ⟨blk, off, cap, hv, hne, hlen, Nat.lt_of_lt_of_le hlt hf.size, fun i x hi => ?_⟩
    obtain ⟨h0, h1, h2, h3, h4⟩ := hall i x hi
    exact ⟨(World.cell?_of_block (a := ⟨blk, _, none⟩) hb).trans h0, (World.cell?_of_block (a := ⟨blk, _, none⟩) hb).trans h1, (World.cell?_of_block (a := ⟨blk, _, none⟩) hb).trans h2, (World.cell?_of_block (a := ⟨blk, _, none⟩) hb).trans h3, (World.cell?_of_block (a := ⟨blk, _, none⟩) hb).trans h4⟩
theorem IsCoins.out {W W' : World} {A A' : Nat → Prop} {v : Value} {l : List Cn} (h : IsCoins W v l) (hf : Fr W W' A A') (ho : Out A v l) : Out A' v l := by
  rcases h with ⟨h, -⟩ | ⟨blk, off, cap, hv, hne, hlen, hlt, hall⟩
  · exact .inl h
  · refine .inr fun g hg hA => ?_
    rcases hf.sub g hA with h1 | h1
    · exact ho.resolve_left hne g hg h1
    · rw [hv] at hg; injection hg with hg; simp only at hg; omega
theorem out_row {W X : World} {A : Nat → Prop} {e : TypeId} {k m : Nat} {v : Value} {xs : List Value} {l : List Cn} (h : X.ownsRow W.heap.size e k v m xs) (hA : ∀ g, A g → g < W.heap.size) : Out A v l := .inr fun g hg hA' => by
  have := (h.lt g hg).1
  have := hA g hA'
  omega

set_option maxHeartbeats 2000000 in
theorem addC_row {va vb : Value} {z y : Nat → Cn} (hz : Purse z) (hy : Purse y) (h : ∀ d, d < 8 → vl (z d) + vl (y d) < 115792089237316195423570985008687907853269984665640564039457584007913129639936) (w : World) (hA : IsCoins w va (lst z 8)) (hB : IsCoins w vb (lst y 8)) :
    Calls Try.prog 42 #[va, vb] w fun e w' => ∃ u, e = .returned (.tuple #[u, .int .i64 0]) ∧ w'.ownsRow w.heap.size 65 5 u (lst (opP (· + ·) z y) 8).length (cellsL (lst (opP (· + ·) z y) 8)) ∧ Below w.heap.size w w' := by
  have hof : ∀ (x0 x1 x2 x3 y0 y1 y2 y3 : Int) (W : World), Lim x0 x1 x2 x3 → Lim y0 y1 y2 y3 →
      Below (w.alloc (.cells #[.func (.func 60) #[] #[]] 106)).heap.size (w.alloc (.cells #[.func (.func 60) #[] #[]] 106)) W →
      Calls Try.prog 60 (#[.agg #[.int .u64 x0, .int .u64 x1, .int .u64 x2, .int .u64 x3], .agg #[.int .u64 y0, .int .u64 y1, .int .u64 y2, .int .u64 y3]] ++ #[]) W fun e w' =>
        ∃ z0 z1 z2 z3 c : Int, e = .returned (.tuple #[.agg #[.int .u64 z0, .int .u64 z1, .int .u64 z2, .int .u64 z3], .int .i64 c]) ∧ Lim z0 z1 z2 z3 ∧ AddS (val x0 x1 x2 x3) (val y0 y1 y2 y3) (val z0 z1 z2 z3) c ∧ Below W.heap.size W w' :=
    fun x0 x1 x2 x3 y0 y1 y2 y3 W hx hy _ => add_any x0 x1 x2 x3 y0 y1 y2 y3 hx hy W
  go_enter Try.func42, Try.ntmps42
  go_wp2_with (first
    | (go_at_call 58; refine (ofEachM_any _ _ rfl).mono ?_; rintro e w1 ⟨rfl, rfl⟩)
    | (go_at_call 71; refine (ofEach_any 60 #[] AddS w.heap.size _ (hA.below (by (repeat (first | (with_reducible exact Below.refl _ _) | (with_reducible assumption) | (with_reducible apply bd) | (with_reducible apply ba) | (with_reducible refine bp ?_ (by first | omega | (simp [pad_size]; done) | (simp [pad_size]; omega)) _ _) | (with_reducible refine bs ?_ (by first | omega | (simp [pad_size]; done) | (simp [pad_size]; omega)) _) | (with_reducible refine bt ?_ (by assumption)))))) (hB.below (by (repeat (first | (with_reducible exact Below.refl _ _) | (with_reducible assumption) | (with_reducible apply bd) | (with_reducible apply ba) | (with_reducible refine bp ?_ (by first | omega | (simp [pad_size]; done) | (simp [pad_size]; omega)) _ _) | (with_reducible refine bs ?_ (by first | omega | (simp [pad_size]; done) | (simp [pad_size]; omega)) _) | (with_reducible refine bt ?_ (by assumption)))))) (amt_lim hz) (amt_lim hy) (by (repeat (first | (with_reducible exact al_at (by simp [pad_size])) | (with_reducible refine Eq.trans (dr_blk _ _) ?_) | (with_reducible refine Eq.trans (al_old (by first | omega | (simp [pad_size]; done) | (simp [pad_size]; omega))) ?_) | (with_reducible refine Eq.trans (pad_block (by first | omega | (simp [pad_size]; done) | (simp [pad_size]; omega)) (by first | omega | (simp [pad_size]; done) | (simp [pad_size]; omega))) ?_) | (with_reducible assumption)))) (enters_of Try.func60 (by kernel_rfl) rfl) hof).mono ?_; clear hof; rintro e w1 (⟨s, v, rfl, hs, hown, hb⟩ | ⟨kk, c, z0, hk, hc, hS, rfl, hb⟩)))
  · go_ret2
    refine ⟨v, rfl, ?_, bt (by (repeat (first | (with_reducible exact Below.refl _ _) | (with_reducible assumption) | (with_reducible apply bd) | (with_reducible apply ba) | (with_reducible refine bp ?_ (by first | omega | (simp [pad_size]; done) | (simp [pad_size]; omega)) _ _) | (with_reducible refine bs ?_ (by first | omega | (simp [pad_size]; done) | (simp [pad_size]; omega)) _) | (with_reducible refine bt ?_ (by assumption))))) hb⟩
    have e : lst s 8 = lst (opP (· + ·) z y) 8 := lst_op (s := s) (fun d hd => ⟨(hs d hd).1, (hs d hd).2.1, by
      have h1 := h d hd
      have h2 := (hs d hd).2.2
      rw [amt_full hz hd, amt_full hy hd] at h2
      rcases h2 with ⟨-, -, e⟩ | ⟨-, e, -⟩
      · exact e
      · omega⟩)
    rw [e] at hown
    exact row_base hown (by simp)
  · go_ret2
    exfalso
    have h1 := h kk hk
    rw [amt_full hz hk, amt_full hy hk] at hS
    rcases hS with ⟨-, e, -⟩ | ⟨e, -⟩ <;> omega
set_option maxHeartbeats 2000000 in
theorem subC_row {va vb : Value} {z y : Nat → Cn} (hz : Purse z) (hy : Purse y) (h : ∀ d, d < 8 → vl (y d) ≤ vl (z d)) (w : World) (hA : IsCoins w va (lst z 8)) (hB : IsCoins w vb (lst y 8)) :
    Calls Try.prog 41 #[va, vb] w fun e w' => ∃ u, e = .returned (.tuple #[u, .int .i64 0]) ∧ w'.ownsRow w.heap.size 65 5 u (lst (opP restI z y) 8).length (cellsL (lst (opP restI z y) 8)) ∧ Below w.heap.size w w' := by
  have hof : ∀ (x0 x1 x2 x3 y0 y1 y2 y3 : Int) (W : World), Lim x0 x1 x2 x3 → Lim y0 y1 y2 y3 →
      Below (w.alloc (.cells #[.func (.func 59) #[] #[]] 106)).heap.size (w.alloc (.cells #[.func (.func 59) #[] #[]] 106)) W →
      Calls Try.prog 59 (#[.agg #[.int .u64 x0, .int .u64 x1, .int .u64 x2, .int .u64 x3], .agg #[.int .u64 y0, .int .u64 y1, .int .u64 y2, .int .u64 y3]] ++ #[]) W fun e w' =>
        ∃ z0 z1 z2 z3 c : Int, e = .returned (.tuple #[.agg #[.int .u64 z0, .int .u64 z1, .int .u64 z2, .int .u64 z3], .int .i64 c]) ∧ Lim z0 z1 z2 z3 ∧ SubS (val x0 x1 x2 x3) (val y0 y1 y2 y3) (val z0 z1 z2 z3) c ∧ Below W.heap.size W w' :=
    fun x0 x1 x2 x3 y0 y1 y2 y3 W hx hy _ => sub_any x0 x1 x2 x3 y0 y1 y2 y3 hx hy W
  go_enter Try.func41, Try.ntmps41
  go_wp2_with (first
    | (go_at_call 58; refine (ofEachM_any _ _ rfl).mono ?_; rintro e w1 ⟨rfl, rfl⟩)
    | (go_at_call 71; refine (ofEach_any 59 #[] SubS w.heap.size _ (hA.below (by (repeat (first | (with_reducible exact Below.refl _ _) | (with_reducible assumption) | (with_reducible apply bd) | (with_reducible apply ba) | (with_reducible refine bp ?_ (by first | omega | (simp [pad_size]; done) | (simp [pad_size]; omega)) _ _) | (with_reducible refine bs ?_ (by first | omega | (simp [pad_size]; done) | (simp [pad_size]; omega)) _) | (with_reducible refine bt ?_ (by assumption)))))) (hB.below (by (repeat (first | (with_reducible exact Below.refl _ _) | (with_reducible assumption) | (with_reducible apply bd) | (with_reducible apply ba) | (with_reducible refine bp ?_ (by first | omega | (simp [pad_size]; done) | (simp [pad_size]; omega)) _ _) | (with_reducible refine bs ?_ (by first | omega | (simp [pad_size]; done) | (simp [pad_size]; omega)) _) | (with_reducible refine bt ?_ (by assumption)))))) (amt_lim hz) (amt_lim hy) (by (repeat (first | (with_reducible exact al_at (by simp [pad_size])) | (with_reducible refine Eq.trans (dr_blk _ _) ?_) | (with_reducible refine Eq.trans (al_old (by first | omega | (simp [pad_size]; done) | (simp [pad_size]; omega))) ?_) | (with_reducible refine Eq.trans (pad_block (by first | omega | (simp [pad_size]; done) | (simp [pad_size]; omega)) (by first | omega | (simp [pad_size]; done) | (simp [pad_size]; omega))) ?_) | (with_reducible assumption)))) (enters_of Try.func59 (by kernel_rfl) rfl) hof).mono ?_; clear hof; rintro e w1 (⟨s, v, rfl, hs, hown, hb⟩ | ⟨kk, c, z0, hk, hc, hS, rfl, hb⟩)))
  · go_ret2
    refine ⟨v, rfl, ?_, bt (by (repeat (first | (with_reducible exact Below.refl _ _) | (with_reducible assumption) | (with_reducible apply bd) | (with_reducible apply ba) | (with_reducible refine bp ?_ (by first | omega | (simp [pad_size]; done) | (simp [pad_size]; omega)) _ _) | (with_reducible refine bs ?_ (by first | omega | (simp [pad_size]; done) | (simp [pad_size]; omega)) _) | (with_reducible refine bt ?_ (by assumption))))) hb⟩
    have e : lst s 8 = lst (opP restI z y) 8 := lst_op (s := s) (fun d hd => ⟨(hs d hd).1, (hs d hd).2.1, by
      have h1 := h d hd
      have h2 := (hs d hd).2.2
      rw [amt_full hz hd, amt_full hy hd] at h2
      rcases h2 with ⟨-, -, e⟩ | ⟨-, e, -⟩
      · rw [e]; unfold restI; rw [if_pos h1]
      · omega⟩)
    rw [e] at hown
    exact row_base hown (by simp)
  · go_ret2
    exfalso
    have h1 := h kk hk
    rw [amt_full hz hk, amt_full hy hk] at hS
    rcases hS with ⟨-, e, -⟩ | ⟨e, -⟩ <;> omega

def setB (b : Nat → Nat → Cn) (p : Nat) (z : Nat → Cn) : Nat → Nat → Cn := fun q => if q = p then z else b q
/-- Of a place some numbers are changed. -/
def mixB (b : Nat → Nat → Cn) (p : Nat) (z : Nat → Cn) (T : List Nat) : Nat → Nat → Cn := fun q e => if q = p ∧ e ∈ T then z e else b q e
theorem mixB_nil (b : Nat → Nat → Cn) (p : Nat) (z : Nat → Cn) : mixB b p z [] = b := by funext q e; simp [mixB]
theorem mixB_snoc (b : Nat → Nat → Cn) (p : Nat) (z : Nat → Cn) (T : List Nat) (d : Nat) : mixB b p z (T ++ [d]) = upB (mixB b p z T) p d (z d) := by
  funext q e
  unfold mixB upB
  by_cases h : q = p ∧ e = d
  · obtain ⟨rfl, rfl⟩ := h; simp
  · by_cases h1 : q = p
    · have h2 : ¬ e = d := fun h2 => h ⟨h1, h2⟩
      simp [h1, h2]
    · simp [h1]
theorem mixB_all {b : Nat → Nat → Cn} {p : Nat} {z y : Nat → Cn} (h : ∀ d, d < 8 → vl (y d) = 0 → z d = b p d) : ∀ q d, q ≤ 256 → d < 8 → mixB b p z (dsL y 8) q d = setB b p z q d := by
  intro q d hq hd
  unfold mixB setB
  by_cases h1 : q = p
  · subst h1
    by_cases h2 : d ∈ dsL y 8
    · simp [h2]
    · simp [h2]
      rw [h d hd (Classical.byContradiction fun e => h2 (dsL_mem.2 ⟨hd, e⟩))]
  · simp [h1]
theorem cn_at {W : World} {v : Value} {l : List Cn} (h : IsCoins W v l) {j : Nat} (hj : j < l.length) : ∃ blk off cap, v = .slice (some ⟨blk, off, none⟩) l.length cap ∧ blk < W.heap.size ∧ CnAt W blk (off + j * 5) l[j] := by
  rcases h with ⟨rfl, -⟩ | ⟨blk, off, cap, hv, hne, hlen, hlt, hall⟩
  · simp at hj
  · exact ⟨blk, off, cap, hv, hlt, hall j _ (List.getElem?_eq_getElem hj)⟩
theorem cn_slice {W : World} {v : Value} {l : List Cn} (h : IsCoins W v l) : ∃ a cap, v = .slice a l.length cap := by
  rcases h with ⟨rfl, a, cap, rfl⟩ | ⟨blk, off, cap, hv, -⟩
  · exact ⟨a, cap, rfl⟩
  · exact ⟨_, _, hv⟩
section
variable {W : World} {s base : Nat} {A : Nat → Prop} {L : List (List Int × List Int)} {ds : List (List (List Int × List Int))} {n : Nat} {b : Nat → Nat → Cn}
set_option maxHeartbeats 8000000 in
theorem change_ok {k : Nat} (hk : k = 42 ∨ k = 41) {t : ByteArray} {p : Nat} {y z : Nat → Cn} {v : Value} (h : StD W s base A L ds n) (hB : BkL L b) (hn : n ≤ 900) (hp : p ≤ 256) (ht : StrIs t (plc p)) (hy : Purse y) (hz : Purse z) (hzy : ∀ d, d < 8 → vl (y d) = 0 → z d = b p d) (hv : IsCoins W v (lst y 8)) (hvo : Out A v (lst y 8))
    (hcall : ∀ X va vb, IsCoins X va (lst (b p) 8) → IsCoins X vb (lst y 8) → Calls Try.prog k #[va, vb] X fun e w' => ∃ u, e = .returned (.tuple #[u, .int .i64 0]) ∧ w'.ownsRow X.heap.size 65 5 u (lst z 8).length (cellsL (lst z 8)) ∧ Below X.heap.size X w') :
    Calls Try.prog 40 #[.pointer (some ⟨s, 0, none⟩), .string t, .func (.func k) #[] #[], v] W fun e w' => e = .returned (.int .i64 0) ∧ ∃ A' L', StD w' s base A' L' ds (n + 8) ∧ BkL L' (setB b p z) ∧ Fr W w' A A' := by
  have hpad := pads
  have hK := kept_any h hB (by omega) hp ht
  have hcall : Hid _ := hcall
  have hL := lst_dsL hy 8 (Nat.le_refl _)
  have hdl : (dsL y 8).length ≤ 8 := by
    have : ((dsL y 8).map y).length ≤ 8 := by rw [← hL]; exact lst_len _ _
    simpa using this
  have hfin : Hid _ := mixB_all hzy
  have hdm : ∀ d ∈ dsL y 8, d < 8 := fun d hd => (dsL_mem.1 hd).1
  rw [hL] at hv hvo
  have hvl : ∀ X, IsCoins X v ((dsL y 8).map y) → IsCoins X v (lst y 8) := fun X hX => by rw [hL]; exact hX
  have hcall2 : Hid (∀ X va, IsCoins X va (lst (b p) 8) → IsCoins X v ((dsL y 8).map y) → Calls Try.prog k #[va, v] X fun e w' => ∃ u, e = .returned (.tuple #[u, .int .i64 0]) ∧ w'.ownsRow X.heap.size 65 5 u (lst z 8).length (cellsL (lst z 8)) ∧ Below X.heap.size X w') := fun X va h1 h2 => hcall.out X va v h1 (hvl X h2)
  clear hcall hvl hL
  generalize dsL y 8 = D at *
  obtain ⟨av, cv, rfl⟩ := cn_slice hv
  simp only [List.length_map] at hv hcall2 hvo
  rcases hk with rfl | rfl
  · go_enter Try.func40, Try.ntmps40
    go_wp2_with (first
      | (go_at_call 35; refine hK.mono ?_; clear hK; rintro e w1 ⟨v0, rfl, hv0, hb1⟩)
      | (go_at_call 42; refine (hcall2.out _ _ hv0 (hv.below hb1)).mono ?_; clear hcall2; rintro e w2 ⟨u, rfl, hu, hb2⟩; have hB2 : Below W.heap.size W w2 := bt hb1 hb2; have hI : IsCoins w2 u (lst z 8) := own_coins hu (lst8 z); have huo : Out A u (lst z 8) := out_row hu (fun g hg => Nat.lt_of_lt_of_le (h.foot g hg).2 hb1.size); replace h := h.below hB2; replace hv := hv.below hB2; clear hv0 hu hb1 hb2))
    go_loopw [27] (fun i X => ∃ (j : Nat) (A1 : Nat → Prop) (L1 : List (List Int × List Int)), j ≤ D.length ∧ i = .int .i64 (j : Int) ∧ StD X s base A1 L1 ds (n + j) ∧ BkL L1 (mixB b p z (D.take j)) ∧ Fr w2 X A A1) (fun i _ => D.length - (intOf i).toNat)
    case atStart => exact ⟨0, A, L, by omega, rfl, h, by rw [List.take_zero, mixB_nil]; exact hB, Fr.below (Below.refl _ _)⟩
    case round =>
      obtain ⟨j, A1, L1, hj, rfl, h1, hB1, f1⟩ := hrel
      by_cases hlt : j < D.length
      · have hvr := hv.fr f1 hvo
        have hIr := hI.fr f1 huo
        obtain ⟨blk, off, cap, ev, hbl, c0, c1, c2, c3, c4⟩ := cn_at hvr (j := j) (by simpa using hlt)
        simp only [List.getElem_map, List.length_map] at ev c0 c1 c2 c3 c4
        simp at ev
        obtain ⟨rfl, rfl⟩ := ev
        have hd8 := hdm _ (List.getElem_mem hlt)
        have hyd := (hy _ hd8).2
        have hzd := hz _ hd8
        have htk : Hid (mixB b p z (D.take (j + 1)) = upB (mixB b p z (D.take j)) p D[j] (z D[j])) := by
          show _ = _
          rw [List.take_succ_eq_append_getElem hlt, mixB_snoc]
        have hA : Hid (∀ X, Below wr.heap.size wr X → Calls Try.prog 57 #[u, .int .u8 (D[j] : Nat)] X fun e w' => e = .returned (.agg #[.int .u64 (z D[j]).a, .int .u64 (z D[j]).b, .int .u64 (z D[j]).c, .int .u64 (z D[j]).e]) ∧ Below X.heap.size X w') := fun X hX => by
          have := amount_any (D[j] : Nat) X (hIr.below hX)
          rwa [amt_full hz hd8] at this
        have hKp : Hid (∀ X, Below (wr.alloc (.cells #[.int .u8 (D[j] : Nat), .int .u64 (y D[j]).a, .int .u64 (y D[j]).b, .int .u64 (y D[j]).c, .int .u64 (y D[j]).e] 65)).heap.size (wr.alloc (.cells #[.int .u8 (D[j] : Nat), .int .u64 (y D[j]).a, .int .u64 (y D[j]).b, .int .u64 (y D[j]).c, .int .u64 (y D[j]).e] 65)) X → X.cell? ⟨wr.heap.size, 0, none⟩ = some (.int .u8 (D[j] : Nat))) := fun X hX => (World.cell?_of_block (a := ⟨wr.heap.size, 0, none⟩) (hX.block wr.heap.size (by simp))).trans ((cells_of_block (al_at rfl)).1 0)
        have hP : Hid (∀ X g c, Below (wr.alloc (.cells #[.int .u8 (D[j] : Nat), .int .u64 (y D[j]).a, .int .u64 (y D[j]).b, .int .u64 (y D[j]).c, .int .u64 (y D[j]).e] 65)).heap.size (wr.alloc (.cells #[.int .u8 (D[j] : Nat), .int .u64 (y D[j]).a, .int .u64 (y D[j]).b, .int .u64 (y D[j]).c, .int .u64 (y D[j]).e] 65)) X → Src X (.slice (some ⟨g, 0, none⟩) ((plc p).length + 1) c) (ky p D[j]) → wr.heap.size ≤ g → Calls Try.prog 56 #[.pointer (some ⟨s, 0, none⟩), .slice (some ⟨g, 0, none⟩) ((plc p).length + 1) c, .agg #[.int .u64 (z D[j]).a, .int .u64 (z D[j]).b, .int .u64 (z D[j]).c, .int .u64 (z D[j]).e]] X fun e w' => e = .returned (.tuple #[]) ∧ ∃ A' L', StD w' s base A' L' ds (n + (j + 1)) ∧ BkL L' (mixB b p z (D.take (j + 1))) ∧ Fr w2 w' A A' ∧ w'.cell? ⟨wr.heap.size, 0, none⟩ = some (.int .u8 (D[j] : Nat))) := fun X g c hX0 hs hg => by
          have hX : Below wr.heap.size wr X := (ba (Below.refl _ _) _ : Below wr.heap.size wr (wr.alloc (.cells #[.int .u8 (D[j] : Nat), .int .u64 (y D[j]).a, .int .u64 (y D[j]).b, .int .u64 (y D[j]).c, .int .u64 (y D[j]).e] 65))).trans (hX0.mono (by simp))
          refine (putB_any (h1.below hX) hB1 (by omega) hp hd8 hs (fun g' hg' hA => by injection hg' with hg'; simp only at hg'; have := (h1.foot g' hA).2; omega) hzd.1 hzd.2).mono ?_
          rintro e w' ⟨rfl, A2, L2, q1, q2, q3⟩
          have h9 : wr.heap.size < X.heap.size := by have := hX0.size; simp at this; omega
          exact ⟨rfl, A2, L2, q1, by rw [htk.out]; exact q2, (f1.trans (Fr.below hX)).trans q3, (World.cell?_of_block (a := ⟨wr.heap.size, 0, none⟩) (q3.block wr.heap.size h9 (fun hA => by have := (h1.foot _ hA).2; omega))).trans (hKp.out X hX0)⟩
        have hky : ∀ (X : World) (d : Nat), Calls Try.prog 37 #[.string t, .int .u8 d] X fun e w' => ∃ g cap, e = .returned (.slice (some ⟨g, 0, none⟩) ((plc p).length + 1) cap) ∧ Src w' (.slice (some ⟨g, 0, none⟩) ((plc p).length + 1) cap) (ky p d) ∧ X.heap.size ≤ g ∧ g < w'.heap.size ∧ Below X.heap.size X w' := fun X d => key_any ht (byte_plc p) (by have := plc_len p; omega) d X
        replace hky : Hid _ := hky
        rw [hyd] at c0
        generalize y D[j] = x at *
        generalize z D[j] = zx at *
        generalize D[j] = d at *
        have hdl : decide ((j : Int) < (D.length : Int)) = true := by simpa using hlt
        clear hv hI hvr hIr h hB hB1 h1 f1 htk hdm hfin hyd hzd ht hvo huo
        go_upto_region 7 with fail
        go_region_held2 (fun X => X.cell? ⟨wr.heap.size, 0, none⟩ = some (.int .u8 (d : Int))) (first | (with_reducible assumption) | exact hKp.out _ (by (repeat (first | (with_reducible exact Below.refl _ _) | (with_reducible assumption) | (with_reducible apply bd) | (with_reducible apply ba) | (with_reducible refine bp ?_ (by first | omega | (simp [pad_size]; done) | (simp [pad_size]; omega)) _ _) | (with_reducible refine bs ?_ (by first | omega | (simp [pad_size]; done) | (simp [pad_size]; omega)) _) | (with_reducible refine bt ?_ (by assumption)))))) (first
          | (go_at_call 57; refine (hA.out _ (by (repeat (first | (with_reducible exact Below.refl _ _) | (with_reducible assumption) | (with_reducible apply bd) | (with_reducible apply ba) | (with_reducible refine bp ?_ (by first | omega | (simp [pad_size]; done) | (simp [pad_size]; omega)) _ _) | (with_reducible refine bs ?_ (by first | omega | (simp [pad_size]; done) | (simp [pad_size]; omega)) _) | (with_reducible refine bt ?_ (by assumption)))))).mono ?_; rintro e w4 ⟨rfl, hb4⟩)
          | (go_at_call 37; refine (hky.out _ _).mono ?_; rintro e w3 ⟨g3, c3', rfl, hs3, hg3, hl3, hb3⟩)
          | (go_at_call 56; go_loud (refine (hP.out _ _ _ (by (repeat (first | (with_reducible exact Below.refl _ _) | (with_reducible assumption) | (with_reducible apply bd) | (with_reducible apply ba) | (with_reducible refine bp ?_ (by first | omega | (simp [pad_size]; done) | (simp [pad_size]; omega)) _ _) | (with_reducible refine bs ?_ (by first | omega | (simp [pad_size]; done) | (simp [pad_size]; omega)) _) | (with_reducible refine bt ?_ (by assumption))))) (by first | exact hs3 | exact hs3.kept (grown_none (by assumption))) (by first | omega | (simp at hg3; omega))).mono ?_; rintro e w5 ⟨rfl, A5, L5, h5, hB5, f5, k5⟩)))
        all_goals go_wp2
        all_goals go_roundw
        case rel => exact ⟨j + 1, A5, L5, by omega, by go_num, h5, hB5, f5⟩
        case measure => (simp [intOf] <;> omega)
      · have hjn : j = D.length := by omega
        subst hjn
        rw [List.take_length] at hB1
        go_wp2
        go_ret
        exact ⟨rfl, A1, L1, h1.up (by omega), hB1.congr hfin.out, (Fr.below hB2).trans f1⟩
  · go_enter Try.func40, Try.ntmps40
    go_wp2_with (first
      | (go_at_call 35; refine hK.mono ?_; clear hK; rintro e w1 ⟨v0, rfl, hv0, hb1⟩)
      | (go_at_call 41; refine (hcall2.out _ _ hv0 (hv.below hb1)).mono ?_; clear hcall2; rintro e w2 ⟨u, rfl, hu, hb2⟩; have hB2 : Below W.heap.size W w2 := bt hb1 hb2; have hI : IsCoins w2 u (lst z 8) := own_coins hu (lst8 z); have huo : Out A u (lst z 8) := out_row hu (fun g hg => Nat.lt_of_lt_of_le (h.foot g hg).2 hb1.size); replace h := h.below hB2; replace hv := hv.below hB2; clear hv0 hu hb1 hb2))
    go_loopw [27] (fun i X => ∃ (j : Nat) (A1 : Nat → Prop) (L1 : List (List Int × List Int)), j ≤ D.length ∧ i = .int .i64 (j : Int) ∧ StD X s base A1 L1 ds (n + j) ∧ BkL L1 (mixB b p z (D.take j)) ∧ Fr w2 X A A1) (fun i _ => D.length - (intOf i).toNat)
    case atStart => exact ⟨0, A, L, by omega, rfl, h, by rw [List.take_zero, mixB_nil]; exact hB, Fr.below (Below.refl _ _)⟩
    case round =>
      obtain ⟨j, A1, L1, hj, rfl, h1, hB1, f1⟩ := hrel
      by_cases hlt : j < D.length
      · have hvr := hv.fr f1 hvo
        have hIr := hI.fr f1 huo
        obtain ⟨blk, off, cap, ev, hbl, c0, c1, c2, c3, c4⟩ := cn_at hvr (j := j) (by simpa using hlt)
        simp only [List.getElem_map, List.length_map] at ev c0 c1 c2 c3 c4
        simp at ev
        obtain ⟨rfl, rfl⟩ := ev
        have hd8 := hdm _ (List.getElem_mem hlt)
        have hyd := (hy _ hd8).2
        have hzd := hz _ hd8
        have htk : Hid (mixB b p z (D.take (j + 1)) = upB (mixB b p z (D.take j)) p D[j] (z D[j])) := by
          show _ = _
          rw [List.take_succ_eq_append_getElem hlt, mixB_snoc]
        have hA : Hid (∀ X, Below wr.heap.size wr X → Calls Try.prog 57 #[u, .int .u8 (D[j] : Nat)] X fun e w' => e = .returned (.agg #[.int .u64 (z D[j]).a, .int .u64 (z D[j]).b, .int .u64 (z D[j]).c, .int .u64 (z D[j]).e]) ∧ Below X.heap.size X w') := fun X hX => by
          have := amount_any (D[j] : Nat) X (hIr.below hX)
          rwa [amt_full hz hd8] at this
        have hKp : Hid (∀ X, Below (wr.alloc (.cells #[.int .u8 (D[j] : Nat), .int .u64 (y D[j]).a, .int .u64 (y D[j]).b, .int .u64 (y D[j]).c, .int .u64 (y D[j]).e] 65)).heap.size (wr.alloc (.cells #[.int .u8 (D[j] : Nat), .int .u64 (y D[j]).a, .int .u64 (y D[j]).b, .int .u64 (y D[j]).c, .int .u64 (y D[j]).e] 65)) X → X.cell? ⟨wr.heap.size, 0, none⟩ = some (.int .u8 (D[j] : Nat))) := fun X hX => (World.cell?_of_block (a := ⟨wr.heap.size, 0, none⟩) (hX.block wr.heap.size (by simp))).trans ((cells_of_block (al_at rfl)).1 0)
        have hP : Hid (∀ X g c, Below (wr.alloc (.cells #[.int .u8 (D[j] : Nat), .int .u64 (y D[j]).a, .int .u64 (y D[j]).b, .int .u64 (y D[j]).c, .int .u64 (y D[j]).e] 65)).heap.size (wr.alloc (.cells #[.int .u8 (D[j] : Nat), .int .u64 (y D[j]).a, .int .u64 (y D[j]).b, .int .u64 (y D[j]).c, .int .u64 (y D[j]).e] 65)) X → Src X (.slice (some ⟨g, 0, none⟩) ((plc p).length + 1) c) (ky p D[j]) → wr.heap.size ≤ g → Calls Try.prog 56 #[.pointer (some ⟨s, 0, none⟩), .slice (some ⟨g, 0, none⟩) ((plc p).length + 1) c, .agg #[.int .u64 (z D[j]).a, .int .u64 (z D[j]).b, .int .u64 (z D[j]).c, .int .u64 (z D[j]).e]] X fun e w' => e = .returned (.tuple #[]) ∧ ∃ A' L', StD w' s base A' L' ds (n + (j + 1)) ∧ BkL L' (mixB b p z (D.take (j + 1))) ∧ Fr w2 w' A A' ∧ w'.cell? ⟨wr.heap.size, 0, none⟩ = some (.int .u8 (D[j] : Nat))) := fun X g c hX0 hs hg => by
          have hX : Below wr.heap.size wr X := (ba (Below.refl _ _) _ : Below wr.heap.size wr (wr.alloc (.cells #[.int .u8 (D[j] : Nat), .int .u64 (y D[j]).a, .int .u64 (y D[j]).b, .int .u64 (y D[j]).c, .int .u64 (y D[j]).e] 65))).trans (hX0.mono (by simp))
          refine (putB_any (h1.below hX) hB1 (by omega) hp hd8 hs (fun g' hg' hA => by injection hg' with hg'; simp only at hg'; have := (h1.foot g' hA).2; omega) hzd.1 hzd.2).mono ?_
          rintro e w' ⟨rfl, A2, L2, q1, q2, q3⟩
          have h9 : wr.heap.size < X.heap.size := by have := hX0.size; simp at this; omega
          exact ⟨rfl, A2, L2, q1, by rw [htk.out]; exact q2, (f1.trans (Fr.below hX)).trans q3, (World.cell?_of_block (a := ⟨wr.heap.size, 0, none⟩) (q3.block wr.heap.size h9 (fun hA => by have := (h1.foot _ hA).2; omega))).trans (hKp.out X hX0)⟩
        have hky : ∀ (X : World) (d : Nat), Calls Try.prog 37 #[.string t, .int .u8 d] X fun e w' => ∃ g cap, e = .returned (.slice (some ⟨g, 0, none⟩) ((plc p).length + 1) cap) ∧ Src w' (.slice (some ⟨g, 0, none⟩) ((plc p).length + 1) cap) (ky p d) ∧ X.heap.size ≤ g ∧ g < w'.heap.size ∧ Below X.heap.size X w' := fun X d => key_any ht (byte_plc p) (by have := plc_len p; omega) d X
        replace hky : Hid _ := hky
        rw [hyd] at c0
        generalize y D[j] = x at *
        generalize z D[j] = zx at *
        generalize D[j] = d at *
        have hdl : decide ((j : Int) < (D.length : Int)) = true := by simpa using hlt
        clear hv hI hvr hIr h hB hB1 h1 f1 htk hdm hfin hyd hzd ht hvo huo
        go_upto_region 7 with fail
        go_region_held2 (fun X => X.cell? ⟨wr.heap.size, 0, none⟩ = some (.int .u8 (d : Int))) (first | (with_reducible assumption) | exact hKp.out _ (by (repeat (first | (with_reducible exact Below.refl _ _) | (with_reducible assumption) | (with_reducible apply bd) | (with_reducible apply ba) | (with_reducible refine bp ?_ (by first | omega | (simp [pad_size]; done) | (simp [pad_size]; omega)) _ _) | (with_reducible refine bs ?_ (by first | omega | (simp [pad_size]; done) | (simp [pad_size]; omega)) _) | (with_reducible refine bt ?_ (by assumption)))))) (first
          | (go_at_call 57; refine (hA.out _ (by (repeat (first | (with_reducible exact Below.refl _ _) | (with_reducible assumption) | (with_reducible apply bd) | (with_reducible apply ba) | (with_reducible refine bp ?_ (by first | omega | (simp [pad_size]; done) | (simp [pad_size]; omega)) _ _) | (with_reducible refine bs ?_ (by first | omega | (simp [pad_size]; done) | (simp [pad_size]; omega)) _) | (with_reducible refine bt ?_ (by assumption)))))).mono ?_; rintro e w4 ⟨rfl, hb4⟩)
          | (go_at_call 37; refine (hky.out _ _).mono ?_; rintro e w3 ⟨g3, c3', rfl, hs3, hg3, hl3, hb3⟩)
          | (go_at_call 56; go_loud (refine (hP.out _ _ _ (by (repeat (first | (with_reducible exact Below.refl _ _) | (with_reducible assumption) | (with_reducible apply bd) | (with_reducible apply ba) | (with_reducible refine bp ?_ (by first | omega | (simp [pad_size]; done) | (simp [pad_size]; omega)) _ _) | (with_reducible refine bs ?_ (by first | omega | (simp [pad_size]; done) | (simp [pad_size]; omega)) _) | (with_reducible refine bt ?_ (by assumption))))) (by first | exact hs3 | exact hs3.kept (grown_none (by assumption))) (by first | omega | (simp at hg3; omega))).mono ?_; rintro e w5 ⟨rfl, A5, L5, h5, hB5, f5, k5⟩)))
        all_goals go_wp2
        all_goals go_roundw
        case rel => exact ⟨j + 1, A5, L5, by omega, by go_num, h5, hB5, f5⟩
        case measure => (simp [intOf] <;> omega)
      · have hjn : j = D.length := by omega
        subst hjn
        rw [List.take_length] at hB1
        go_wp2
        go_ret
        exact ⟨rfl, A1, L1, h1.up (by omega), hB1.congr hfin.out, (Fr.below hB2).trans f1⟩
end
end Go.Proofs.Ytgphdioolcfmmaa

/- bank: right coins as a purse; what all have together; each deed told: plain facts. -/
namespace Go.Proofs.Ytgphdioolcfmmaa
open Go.RowKit

/-- The list of a purse from one place on. -/
def lf (z : Nat → Cn) : Nat → Nat → List Cn
  | 0, _ => []
  | k + 1, m => oneL (z m) ++ lf z k (m + 1)
theorem lf_lst (z : Nat → Cn) : ∀ k m, lst z (m + k) = lst z m ++ lf z k m
  | 0, m => by simp [lf]
  | k + 1, m => by
    have e : m + (k + 1) = (m + 1) + k := by omega
    rw [e, lf_lst z k (m + 1)]
    simp [lst, lf]
theorem lf_congr {z y : Nat → Cn} : ∀ k m, (∀ d, m ≤ d → z d = y d) → lf z k m = lf y k m
  | 0, _, _ => rfl
  | k + 1, m, h => by
    simp only [lf]
    rw [h m (Nat.le_refl _), lf_congr k (m + 1) (fun d hd => h d (by omega))]
theorem amt_cons_ne {x : Cn} {l : List Cn} {d : Int} (h : x.d ≠ d) : amt (x :: l) d = amt l d := by
  unfold amt
  rw [List.find?_cons_of_neg (by simpa using h)]
theorem amt_cons_eq {x : Cn} {l : List Cn} : amt (x :: l) x.d = x := by
  unfold amt
  rw [List.find?_cons_of_pos (by simp)]
  rfl
theorem right_cons {m : Int} {x : Cn} {l : List Cn} (h : rightFrom m (x :: l) = true) : m ≤ x.d ∧ x.d < 8 ∧ eq4 x.a x.b x.c x.e 0 0 0 0 = false ∧ rightFrom (x.d + 1) l = true := by
  unfold rightFrom at h
  split at h
  · cases h
  · split at h
    · cases h
    · split at h
      · cases h
      · rename_i h1 h2 h3
        exact ⟨by omega, by omega, by simpa using h3, h⟩
theorem right_up : ∀ {m k : Int} {l : List Cn}, rightFrom m l = true → (∀ x, l.head? = some x → k ≤ x.d) → rightFrom k l = true
  | _, _, [], _, _ => rfl
  | m, k, x :: l, h, hk => by
    obtain ⟨h1, h2, h3, h4⟩ := right_cons h
    have := hk x rfl
    unfold rightFrom
    rw [if_neg (by omega), if_neg (by omega), h3]
    simpa using h4
theorem amt_low : ∀ {m : Int} {l : List Cn} {d : Int}, rightFrom m l = true → d < m → amt l d = ⟨d, 0, 0, 0, 0⟩
  | _, [], _, _, _ => rfl
  | m, x :: l, d, h, hd => by
    obtain ⟨h1, h2, h3, h4⟩ := right_cons h
    rw [amt_cons_ne (by omega)]
    exact amt_low h4 (by omega)
theorem lf_amt : ∀ (k m : Nat) (l : List Cn), rightFrom (m : Int) l = true → m + k = 8 → lf (fun d => amt l d) k m = l
  | 0, m, [], _, _ => rfl
  | 0, m, x :: l, h, hm => by
    obtain ⟨h1, h2, -, -⟩ := right_cons h
    omega
  | k + 1, m, [], _, hm => by
    simp only [lf]
    have ih := lf_amt k (m + 1) [] rfl (by omega)
    rw [ih]
    simp [amt, oneL, eq4]
  | k + 1, m, x :: l, h, hm => by
    obtain ⟨h1, h2, h3, h4⟩ := right_cons h
    simp only [lf]
    by_cases e : x.d = (m : Int)
    · have e2 : amt (x :: l) (m : Int) = x := by rw [← e]; exact amt_cons_eq
      rw [e2, lf_congr (y := fun d => amt l d) k (m + 1) (fun d hd => amt_cons_ne (by omega))]
      have h4' : rightFrom ((m + 1 : Nat) : Int) l = true := by
        have e3 : ((m + 1 : Nat) : Int) = x.d + 1 := by omega
        rw [e3]; exact h4
      rw [lf_amt k (m + 1) l h4' (by omega)]
      unfold oneL
      rw [h3]
      rfl
    · have e2 : amt (x :: l) (m : Int) = ⟨(m : Int), 0, 0, 0, 0⟩ := by
        rw [amt_cons_ne e]
        exact amt_low h4 (by omega)
      have h5 : rightFrom ((m + 1 : Nat) : Int) (x :: l) = true := right_up h (fun y hy => by injection hy with hy; subst hy; omega)
      rw [e2, lf_amt k (m + 1) (x :: l) h5 (by omega)]
      simp [oneL, eq4]
/-- Coins that may be are the list of a purse. -/
theorem right_lst {l : List Cn} (h : rightFrom 0 l = true) : lst (fun d => amt l d) 8 = l := by
  have := lf_lst (fun d => amt l d) 8 0
  rw [Nat.zero_add] at this
  rw [this, lf_amt 8 0 l h rfl]
  rfl
theorem amt_d (l : List Cn) (d : Int) : (amt l d).d = d := by
  unfold amt
  cases hf : l.find? (fun x => x.d == d) with
  | none => rfl
  | some x => simpa using List.find?_some hf
theorem purse_amt {l : List Cn} (hwf : ∀ x ∈ l, CnWf x) : Purse (fun d => amt l d) := fun d _ => ⟨lim_amt (fun x hx => (hwf x hx).2) d, amt_d l d⟩

/-- The sum of the first numbers. -/
def sumF (f : Nat → Int) : Nat → Int
  | 0 => 0
  | n + 1 => sumF f n + f n
theorem sumF_congr {f g : Nat → Int} : ∀ n, (∀ i, i < n → f i = g i) → sumF f n = sumF g n
  | 0, _ => rfl
  | n + 1, h => by simp only [sumF]; rw [sumF_congr n (fun i hi => h i (by omega)), h n (by omega)]
theorem sumF_nonneg {f : Nat → Int} : ∀ n, (∀ i, i < n → 0 ≤ f i) → 0 ≤ sumF f n
  | 0, _ => by simp [sumF]
  | n + 1, h => by
    have h1 := sumF_nonneg n (fun i hi => h i (by omega))
    have h2 := h n (by omega)
    simp only [sumF]; omega
theorem sumF_upd {f : Nat → Int} {p : Nat} {v : Int} : ∀ n, p < n → sumF (fun i => if i = p then v else f i) n = sumF f n - f p + v
  | 0, h => by omega
  | n + 1, h => by
    simp only [sumF]
    by_cases e : p = n
    · subst e
      rw [sumF_congr (g := f) p (fun i hi => if_neg (by omega)), if_pos rfl]
      omega
    · rw [sumF_upd n (by omega), if_neg (by omega)]
      omega
theorem sumF_zero {f : Nat → Int} : ∀ n, (∀ i, i < n → f i = 0) → sumF f n = 0
  | 0, _ => rfl
  | n + 1, h => by simp only [sumF]; rw [sumF_zero n (fun i hi => h i (by omega)), h n (by omega)]; rfl
theorem sumF_one {f : Nat → Int} {n p : Nat} (h : ∀ i, i < n → 0 ≤ f i) (hp : p < n) : f p ≤ sumF f n := by
  have h1 := sumF_upd (f := f) (p := p) (v := 0) n hp
  have h2 := sumF_nonneg (f := fun i => if i = p then 0 else f i) n (fun i hi => by
    show 0 ≤ if i = p then 0 else f i
    split
    · omega
    · exact h i hi)
  omega
theorem sumF_two {f : Nat → Int} {n p q : Nat} (h : ∀ i, i < n → 0 ≤ f i) (hp : p < n) (hq : q < n) (hne : p ≠ q) : f p + f q ≤ sumF f n := by
  have h1 := sumF_upd (f := f) (p := p) (v := 0) n hp
  have h2 := sumF_one (f := fun i => if i = p then 0 else f i) (p := q) (fun i hi => by
    show 0 ≤ if i = p then 0 else f i
    split
    · omega
    · exact h i hi) hq
  simp only [if_neg hne.symm] at h2
  omega

/-- What holds of all places, whatever was done. -/
structure BInv (b : Nat → Nat → Cn) : Prop where
  pur : ∀ p, p ≤ 256 → Purse (b p)
  sum : ∀ d, d < 8 → sumF (fun p => vl (b p d)) 205 = vl (b 256 d)
  out : ∀ p d, 205 ≤ p → p < 256 → d < 8 → vl (b p d) = 0
theorem BInv.new : BInv (fun _ => zeroP) := ⟨fun _ _ => purse_zero, fun d _ => by
  rw [sumF_zero 205 (fun i _ => vl_zero d)]; exact (vl_zero d).symm, fun _ d _ _ _ => vl_zero d⟩
theorem opP_vl {f : Int → Int → Int} {z y : Nat → Cn} (d : Nat) : vl (opP f z y d) = f (vl (z d)) (vl (y d)) := cnOf_vl
theorem opP_keep {f : Int → Int → Int} {z y : Nat → Cn} (hz : Purse z) {d : Nat} (hd : d < 8) (hf : ∀ n, 0 ≤ n → f n 0 = n) (h : vl (y d) = 0) : opP f z y d = z d := by
  unfold opP
  rw [h, hf _ (vl_lo hz hd).1]
  exact (cn_one (hz d hd).1 (hz d hd).2 rfl).symm
theorem rest0 (n : Int) (h : 0 ≤ n) : restI n 0 = n := by unfold restI; rw [if_pos h]; omega
theorem add0 (n : Int) (h : 0 ≤ n) : n + 0 = n := by omega
theorem setB_at (b : Nat → Nat → Cn) (p : Nat) (z : Nat → Cn) : setB b p z p = z := if_pos rfl
theorem setB_off {b : Nat → Nat → Cn} {p q : Nat} {z : Nat → Cn} (h : q ≠ p) : setB b p z q = b q := if_neg h
theorem sum_set {b : Nat → Nat → Cn} {p : Nat} {z : Nat → Cn} (hp : p < 205) (d : Nat) : sumF (fun q => vl (setB b p z q d)) 205 = sumF (fun q => vl (b q d)) 205 - vl (b p d) + vl (z d) := by
  rw [← sumF_upd (f := fun q => vl (b q d)) (v := vl (z d)) 205 hp]
  refine sumF_congr 205 (fun i _ => ?_)
  unfold setB
  split <;> rfl
theorem sum_set' {b : Nat → Nat → Cn} {z : Nat → Cn} (d : Nat) : sumF (fun q => vl (setB b 256 z q d)) 205 = sumF (fun q => vl (b q d)) 205 :=
  sumF_congr 205 (fun i hi => by rw [setB_off (by omega)])
theorem pur_set {b : Nat → Nat → Cn} {p : Nat} {z : Nat → Cn} (h : ∀ p, p ≤ 256 → Purse (b p)) (hz : Purse z) : ∀ q, q ≤ 256 → Purse (setB b p z q) := fun q hq => by
  by_cases e : q = p
  · subst e; rw [setB_at]; exact hz
  · rw [setB_off e]; exact h q hq

/-- So much goes; so much comes. -/
def takeB (b : Nat → Nat → Cn) (p : Nat) (y : Nat → Cn) : Nat → Nat → Cn := setB b p (opP restI (b p) y)
def giveB (b : Nat → Nat → Cn) (p : Nat) (y : Nat → Cn) : Nat → Nat → Cn := setB b p (opP (· + ·) (b p) y)
def Has (b : Nat → Nat → Cn) (p : Nat) (y : Nat → Cn) : Prop := ∀ d, d < 8 → vl (y d) ≤ vl (b p d)
def Fits (b : Nat → Nat → Cn) (p : Nat) (y : Nat → Cn) : Prop := ∀ d, d < 8 → vl (b p d) + vl (y d) < 115792089237316195423570985008687907853269984665640564039457584007913129639936
section
variable {b : Nat → Nat → Cn} {y : Nat → Cn}
theorem BInv.one (h : BInv b) {p d : Nat} (hp : p < 205) (hd : d < 8) : vl (b p d) ≤ vl (b 256 d) := by
  rw [← h.sum d hd]
  exact sumF_one (f := fun q => vl (b q d)) (fun i hi => (vl_lo (h.pur i (by omega)) hd).1) hp
theorem BInv.two (h : BInv b) {p q d : Nat} (hp : p < 205) (hq : q < 205) (hne : p ≠ q) (hd : d < 8) : vl (b p d) + vl (b q d) ≤ vl (b 256 d) := by
  rw [← h.sum d hd]
  exact sumF_two (f := fun q => vl (b q d)) (fun i hi => (vl_lo (h.pur i (by omega)) hd).1) hp hq hne
theorem send_fits (h : BInv b) {p q : Nat} (hp : p < 205) (hq : q < 205) (hy : Has b p y) : Fits (takeB b p y) q y := by
  intro d hd
  have h0 := vl_lo (h.pur p (by omega)) hd
  have h1 := hy d hd
  have h2 := vl_lo (h.pur 256 (by omega)) hd
  unfold takeB
  by_cases e : q = p
  · subst e
    rw [setB_at, opP_vl]
    unfold restI
    rw [if_pos h1]
    omega
  · rw [setB_off e]
    have := h.two hp hq (Ne.symm e) hd
    omega
theorem mint_fits (h : BInv b) {q : Nat} (hq : q < 205) (hy : Fits b 256 y) : Fits (giveB b 256 y) q y := by
  intro d hd
  unfold giveB
  rw [setB_off (by omega)]
  have := h.one hq hd
  have := hy d hd
  omega
theorem burn_has (h : BInv b) {p : Nat} (hp : p < 205) (hy : Has b p y) : Has (takeB b p y) 256 y := by
  intro d hd
  unfold takeB
  rw [setB_off (by omega)]
  have := h.one hp hd
  have := hy d hd
  omega
theorem take_vl {p d : Nat} (h : vl (y d) ≤ vl (b p d)) : vl (opP restI (b p) y d) = vl (b p d) - vl (y d) := by rw [opP_vl]; unfold restI; rw [if_pos h]
theorem pur_take (h : ∀ p, p ≤ 256 → Purse (b p)) (hy : Purse y) {p : Nat} (hp : p ≤ 256) : ∀ q, q ≤ 256 → Purse (takeB b p y q) := pur_set h (purse_rest (h p hp) hy)
theorem pur_give (h : ∀ p, p ≤ 256 → Purse (b p)) (hy : Purse y) {p : Nat} (hp : p ≤ 256) (hf : Fits b p y) : ∀ q, q ≤ 256 → Purse (giveB b p y q) := pur_set h (purse_sum (h p hp) hy hf)
theorem BInv.send (h : BInv b) (hP : Purse y) {p q : Nat} (hp : p < 205) (hq : q < 205) (hy : Has b p y) : BInv (giveB (takeB b p y) q y) := by
  have hf := send_fits h hp hq hy
  have h1 := pur_take h.pur hP (p := p) (by omega)
  refine ⟨pur_give h1 hP (by omega) hf, fun d hd => ?_, fun r d h1 h2 hd => ?_⟩
  · have e1 : giveB (takeB b p y) q y 256 = b 256 := by unfold giveB takeB; rw [setB_off (by omega), setB_off (by omega)]
    rw [e1]
    unfold giveB
    rw [sum_set hq, opP_vl]
    unfold takeB
    rw [sum_set hp, take_vl (hy d hd), h.sum d hd]
    show _ - vl (setB b p (opP restI (b p) y) q d) + (vl (setB b p (opP restI (b p) y) q d) + vl (y d)) = _
    omega
  · unfold giveB takeB
    rw [setB_off (by omega), setB_off (by omega)]
    exact h.out r d h1 h2 hd
theorem BInv.mint (h : BInv b) (hP : Purse y) {q : Nat} (hq : q < 205) (hy : Fits b 256 y) : BInv (giveB (giveB b 256 y) q y) := by
  have hf := mint_fits h hq hy
  have h1 := pur_give h.pur hP (p := 256) (by omega) hy
  refine ⟨pur_give h1 hP (by omega) hf, fun d hd => ?_, fun r d h1 h2 hd => ?_⟩
  · have e1 : giveB (giveB b 256 y) q y 256 = opP (· + ·) (b 256) y := by unfold giveB; rw [setB_off (by omega), setB_at]
    rw [e1, opP_vl]
    conv => lhs; unfold giveB
    rw [sum_set hq, opP_vl]
    rw [sum_set', h.sum d hd, setB_off (show q ≠ 256 by omega)]
    show _ - vl (b q d) + (vl (b q d) + vl (y d)) = _
    omega
  · unfold giveB
    rw [setB_off (by omega), setB_off (by omega)]
    exact h.out r d h1 h2 hd
theorem BInv.burn (h : BInv b) (hP : Purse y) {p : Nat} (hp : p < 205) (hy : Has b p y) : BInv (takeB (takeB b p y) 256 y) := by
  have hf := burn_has h hp hy
  have h1 := pur_take h.pur hP (p := p) (by omega)
  refine ⟨pur_take h1 hP (by omega), fun d hd => ?_, fun r d h1 h2 hd => ?_⟩
  · have hf' := hf d hd
    have e1 : takeB b p y 256 = b 256 := by unfold takeB; rw [setB_off (by omega)]
    have e2 : takeB (takeB b p y) 256 y 256 = opP restI (takeB b p y 256) y := setB_at _ _ _
    rw [e2, take_vl hf', e1]
    conv => lhs; unfold takeB
    rw [sum_set']
    rw [sum_set hp, take_vl (hy d hd), h.sum d hd]
    omega
  · unfold takeB
    rw [setB_off (by omega), setB_off (by omega)]
    exact h.out r d h1 h2 hd
end
end Go.Proofs.Ytgphdioolcfmmaa

/- bank: Is, Balance, Coins, Supply; Send, Mint, Burn. -/
namespace Go.Proofs.Ytgphdioolcfmmaa
open Go.RowKit

set_option maxHeartbeats 1000000 in
theorem isA_any (a : Nat) (ha : a ≤ 255) (w : World) : Calls Try.prog 25 #[.int .u8 a] w fun e w' => e = .returned (.bool (decide (a < 205))) ∧ w' = w := by
  by_cases h1 : a < 200
  · have h1' : (a : Int) < 200 := by omega
    rw [decide_eq_true (show a < 205 by omega)]
    go_enter Try.func25, Try.ntmps25
    go_wp2
    go_ret
    exact ⟨rfl, rfl⟩
  · have h1' : ¬ (a : Int) < 200 := by omega
    have h2' : (200 : Int) ≤ (a : Int) := by omega
    by_cases h3 : a < 205
    · have h3' : (a : Int) ≤ 204 := by omega
      rw [decide_eq_true h3]
      go_enter Try.func25, Try.ntmps25
      go_wp2
      go_ret
      exact ⟨rfl, rfl⟩
    · have h3' : ¬ (a : Int) ≤ 204 := by omega
      rw [decide_eq_false h3]
      go_enter Try.func25, Try.ntmps25
      go_wp2
      go_ret
      exact ⟨rfl, rfl⟩
set_option maxHeartbeats 1000000 in
theorem isR9_any (a : Nat) (ha : a ≤ 255) (w : World) : Calls Try.prog 26 #[.int .u8 a] w fun e w' => e = .returned (.bool (decide (a < 205))) ∧ w' = w := by
  by_cases h1 : a < 200
  · have h1' : (a : Int) < 200 := by omega
    rw [decide_eq_true (show a < 205 by omega)]
    go_enter Try.func26, Try.ntmps26
    go_wp2
    go_ret
    exact ⟨rfl, rfl⟩
  · have h1' : ¬ (a : Int) < 200 := by omega
    have h2' : (200 : Int) ≤ (a : Int) := by omega
    by_cases h3 : a < 205
    · have h3' : (a : Int) ≤ 204 := by omega
      rw [decide_eq_true h3]
      go_enter Try.func26, Try.ntmps26
      go_wp2
      go_ret
      exact ⟨rfl, rfl⟩
    · have h3' : ¬ (a : Int) ≤ 204 := by omega
      rw [decide_eq_false h3]
      go_enter Try.func26, Try.ntmps26
      go_wp2
      go_ret
      exact ⟨rfl, rfl⟩
section
variable {W : World} {s base : Nat} {A : Nat → Prop} {L : List (List Int × List Int)} {ds : List (List (List Int × List Int))} {n : Nat} {b : Nat → Nat → Cn}
set_option maxHeartbeats 4000000 in
theorem change_no {k : Nat} (hk : k = 42 ∨ k = 41) {c : Int} (hc : c = 2 ∨ c = 3) {t : ByteArray} {p : Nat} {v : Value} (h : StD W s base A L ds n) (hB : BkL L b) (hn : n ≤ 900) (hp : p ≤ 256) (ht : StrIs t (plc p))
    (hcall : ∀ X va, IsCoins X va (lst (b p) 8) → Below W.heap.size W X → Calls Try.prog k #[va, v] X fun e w' => e = .returned (.tuple #[.slice none 0 0, .int .i64 c]) ∧ Below X.heap.size X w') :
    Calls Try.prog 40 #[.pointer (some ⟨s, 0, none⟩), .string t, .func (.func k) #[] #[], v] W fun e w' => e = .returned (.int .i64 c) ∧ Below W.heap.size W w' := by
  have hK := kept_any h hB (by omega) hp ht
  have hcall : Hid _ := hcall
  rcases hk with rfl | rfl <;> rcases hc with rfl | rfl
  all_goals go_enter Try.func40, Try.ntmps40
  all_goals go_wp2_with (first
      | (go_at_call 35; refine hK.mono ?_; clear hK; rintro e w1 ⟨v0, rfl, hv0, hb1⟩)
      | (go_at_call 42; refine (hcall.out _ _ hv0 hb1).mono ?_; rintro e w2 ⟨rfl, hb2⟩)
      | (go_at_call 41; refine (hcall.out _ _ hv0 hb1).mono ?_; rintro e w2 ⟨rfl, hb2⟩))
  all_goals go_ret
  all_goals exact ⟨rfl, bt hb1 hb2⟩
/-- So much more is at a place. -/
theorem give_ok {t : ByteArray} {p : Nat} {y : Nat → Cn} {v : Value} (h : StD W s base A L ds n) (hB : BkL L b) (hn : n ≤ 900) (hp : p ≤ 256) (ht : StrIs t (plc p)) (hy : Purse y) (hv : IsCoins W v (lst y 8)) (hvo : Out A v (lst y 8)) (hf : Fits b p y) :
    Calls Try.prog 40 #[.pointer (some ⟨s, 0, none⟩), .string t, .func (.func 42) #[] #[], v] W fun e w' => e = .returned (.int .i64 0) ∧ ∃ A' L', StD w' s base A' L' ds (n + 8) ∧ BkL L' (giveB b p y) ∧ Fr W w' A A' :=
  change_ok (.inl rfl) h hB hn hp ht hy (purse_sum (hB.pur p hp) hy hf) (fun d hd h0 => opP_keep (hB.pur p hp) hd add0 h0) hv hvo (fun X _ _ h1 h2 => addC_row (hB.pur p hp) hy hf X h1 h2)
theorem take_ok {t : ByteArray} {p : Nat} {y : Nat → Cn} {v : Value} (h : StD W s base A L ds n) (hB : BkL L b) (hn : n ≤ 900) (hp : p ≤ 256) (ht : StrIs t (plc p)) (hy : Purse y) (hv : IsCoins W v (lst y 8)) (hvo : Out A v (lst y 8)) (hf : Has b p y) :
    Calls Try.prog 40 #[.pointer (some ⟨s, 0, none⟩), .string t, .func (.func 41) #[] #[], v] W fun e w' => e = .returned (.int .i64 0) ∧ ∃ A' L', StD w' s base A' L' ds (n + 8) ∧ BkL L' (takeB b p y) ∧ Fr W w' A A' :=
  change_ok (.inr rfl) h hB hn hp ht hy (purse_rest (hB.pur p hp) hy) (fun d hd h0 => opP_keep (hB.pur p hp) hd rest0 h0) hv hvo (fun X _ _ h1 h2 => subC_row (hB.pur p hp) hy hf X h1 h2)
theorem give_no {t : ByteArray} {p : Nat} {y : Nat → Cn} {v : Value} (h : StD W s base A L ds n) (hB : BkL L b) (hn : n ≤ 900) (hp : p ≤ 256) (ht : StrIs t (plc p)) (hy : Purse y) (hv : IsCoins W v (lst y 8)) (hf : ¬ Fits b p y) :
    Calls Try.prog 40 #[.pointer (some ⟨s, 0, none⟩), .string t, .func (.func 42) #[] #[], v] W fun e w' => e = .returned (.int .i64 2) ∧ Below W.heap.size W w' := by
  have hf' : ∃ d, d < 8 ∧ 115792089237316195423570985008687907853269984665640564039457584007913129639936 ≤ vl (b p d) + vl (y d) := Classical.byContradiction fun hc => hf fun d hd => Classical.byContradiction fun h2 => hc ⟨d, hd, by omega⟩
  exact change_no (.inl rfl) (.inl rfl) h hB hn hp ht (fun X va h1 h2 => addC_no (hB.pur p hp) hy hf' X h1 (hv.below h2))
theorem take_no {t : ByteArray} {p : Nat} {y : Nat → Cn} {v : Value} (h : StD W s base A L ds n) (hB : BkL L b) (hn : n ≤ 900) (hp : p ≤ 256) (ht : StrIs t (plc p)) (hy : Purse y) (hv : IsCoins W v (lst y 8)) (hf : ¬ Has b p y) :
    Calls Try.prog 40 #[.pointer (some ⟨s, 0, none⟩), .string t, .func (.func 41) #[] #[], v] W fun e w' => e = .returned (.int .i64 3) ∧ Below W.heap.size W w' := by
  have hf' : ∃ d, d < 8 ∧ vl (b p d) < vl (y d) := Classical.byContradiction fun hc => hf fun d hd => Classical.byContradiction fun h2 => hc ⟨d, hd, by omega⟩
  exact change_no (.inr rfl) (.inr rfl) h hB hn hp ht (fun X va h1 h2 => subC_no (hB.pur p hp) hy hf' X h1 (hv.below h2))
set_option maxHeartbeats 1000000 in
theorem coinsB_any (h : StD W s base A L ds n) (hB : BkL L b) (hn : n ≤ 1000) {a : Nat} (ha : a ≤ 255) :
    Calls Try.prog 21 #[.pointer (some ⟨s, 0, none⟩), .int .u8 a] W fun e w' => ∃ v, e = .returned v ∧ IsCoins w' v (lst (b a) 8) ∧ Below W.heap.size W w' := by
  go_enter Try.func21, Try.ntmps21
  go_wp2_with (first
    | (go_at_call 38; refine (of_any a ha _).mono ?_; rintro e w1 ⟨t, rfl, ht, hb1⟩)
    | (go_at_call 35; refine (kept_any (h.below hb1) hB hn (p := a) (by omega) ht).mono ?_; rintro e w2 ⟨v, rfl, hv, hb2⟩))
  go_ret
  exact ⟨v, rfl, hv, bt hb1 hb2⟩
set_option maxHeartbeats 1000000 in
theorem supply_any (h : StD W s base A L ds n) (hB : BkL L b) (hn : n ≤ 1000) :
    Calls Try.prog 17 #[.pointer (some ⟨s, 0, none⟩)] W fun e w' => ∃ v, e = .returned v ∧ IsCoins w' v (lst (b 256) 8) ∧ Below W.heap.size W w' := by
  go_enter Try.func17, Try.ntmps17
  go_wp2_with (go_at_call 35; refine (kept_any h hB hn (p := 256) (by omega) strIs_all).mono ?_; rintro e w2 ⟨v, rfl, hv, hb2⟩)
  go_ret
  exact ⟨v, rfl, hv, hb2⟩
set_option maxHeartbeats 1000000 in
theorem balance_any (h : StD W s base A L ds n) (hB : BkL L b) (hn : n ≤ 1000) {a d : Nat} (ha : a ≤ 255) (hd : d ≤ 255) :
    Calls Try.prog 18 #[.pointer (some ⟨s, 0, none⟩), .int .u8 a, .int .u8 d] W fun e w' => e = .returned (.agg #[.int .u64 (amt (lst (b a) 8) d).a, .int .u64 (amt (lst (b a) 8) d).b, .int .u64 (amt (lst (b a) 8) d).c, .int .u64 (amt (lst (b a) 8) d).e]) ∧ Below W.heap.size W w' := by
  have hpad := pads
  have hA : Hid (∀ (X : World) (u : Value), Below W.heap.size W X → Src X u (ky a d) → Calls Try.prog 36 #[.pointer (some ⟨s, 0, none⟩), u] X fun e w' => e = .returned (.agg #[.int .u64 (amt (lst (b a) 8) d).a, .int .u64 (amt (lst (b a) 8) d).b, .int .u64 (amt (lst (b a) 8) d).c, .int .u64 (amt (lst (b a) 8) d).e]) ∧ Below X.heap.size X w') := fun X u hX hu => amt_any (h.below hX) hB hn (by omega) hd hu
  generalize amt (lst (b a) 8) d = x at *
  have hpl : (plc a).length < 1000 := by have := plc_len a; omega
  go_enter Try.func18, Try.ntmps18
  go_wp2_with (first
    | (go_at_call 38; refine (of_any a ha _).mono ?_; rintro e w1 ⟨t, rfl, ht, hb1⟩)
    | (go_at_call 37; refine (key_any ht (byte_plc a) hpl d _).mono ?_; rintro e w2 ⟨g, cap, rfl, hs2, -, -, hb2⟩; have hB2 := bt hb1 hb2)
    | (go_at_call 36; refine (hA.out _ _ (bt (by (repeat (first | (with_reducible exact Below.refl _ _) | (with_reducible assumption) | (with_reducible apply bd) | (with_reducible apply ba) | (with_reducible refine bp ?_ (by first | omega | (simp [pad_size]; done) | (simp [pad_size]; omega)) _ _) | (with_reducible refine bs ?_ (by first | omega | (simp [pad_size]; done) | (simp [pad_size]; omega)) _) | (with_reducible refine bt ?_ (by assumption))))) hB2) hs2).mono ?_; rintro e w3 ⟨rfl, hb3⟩; clear hs2; obtain ⟨m2, g2, d2, hm2, rfl⟩ := pad_of (bt hB2 hb3); clear hb3 hB2 hb1 hb2; (try simp at hm2); have st := sz1 (n := W.heap.size) (m := m2) hm2))
  refine bodyPost_ret (v := .agg #[.int .u64 x.a, .int .u64 x.b, .int .u64 x.c, .int .u64 x.e]) (by simp only [results, Try.results18]; go_simp) rfl ⟨rfl, ?_⟩
  (repeat (first | (with_reducible exact Below.refl _ _) | (with_reducible assumption) | (with_reducible apply bd) | (with_reducible apply ba) | (with_reducible refine bp ?_ (by first | omega | (simp [pad_size]; done) | (simp [pad_size]; omega)) _ _) | (with_reducible refine bs ?_ (by first | omega | (simp [pad_size]; done) | (simp [pad_size]; omega)) _) | (with_reducible refine bt ?_ (by assumption))))
set_option maxHeartbeats 1000000 in
theorem may_any {a : Nat} (ha : a ≤ 255) {v : Value} {l : List Cn} (hv : IsCoins W v l) (hwf : ∀ x ∈ l, CnWf x) :
    Calls Try.prog 39 #[.pointer (some ⟨s, 0, none⟩), .int .u8 a, v] W fun e w' => e = .returned (.bool (decide (a < 205) && rightFrom 0 l)) ∧ Below W.heap.size W w' := by
  have hI := fun X => isA_any a ha X
  have hR := right_any W hv hwf
  cases hd : decide (a < 205)
  · rw [hd] at hI
    clear hR
    go_enter Try.func39, Try.ntmps39
    go_wp2_with (go_at_call 25; refine (hI _).mono ?_; rintro e w1 ⟨rfl, hw⟩; obtain rfl := hw.symm)
    go_ret
    exact ⟨rfl, Below.refl _ _⟩
  · rw [hd] at hI
    cases hr : rightFrom 0 l
    · rw [hr] at hR
      go_enter Try.func39, Try.ntmps39
      go_wp2_with (first
        | (go_at_call 25; refine (hI _).mono ?_; rintro e w1 ⟨rfl, hw⟩; obtain rfl := hw.symm)
        | (go_at_call 55; refine hR.mono ?_; rintro e w1 ⟨rfl, hb1⟩))
      go_ret
      exact ⟨rfl, hb1⟩
    · rw [hr] at hR
      go_enter Try.func39, Try.ntmps39
      go_wp2_with (first
        | (go_at_call 25; refine (hI _).mono ?_; rintro e w1 ⟨rfl, hw⟩; obtain rfl := hw.symm)
        | (go_at_call 55; refine hR.mono ?_; rintro e w1 ⟨rfl, hb1⟩))
      go_ret
      exact ⟨rfl, hb1⟩
end
end Go.Proofs.Ytgphdioolcfmmaa

/- bank: Send, Mint, Burn: what each answers and makes of it. -/
namespace Go.Proofs.Ytgphdioolcfmmaa
open Go.RowKit

section
variable {W : World} {s base : Nat} {A : Nat → Prop} {L : List (List Int × List Int)} {ds : List (List (List Int × List Int))} {n : Nat} {b : Nat → Nat → Cn}
/-- Coins in which is nothing change nothing. -/
theorem noneP {y : Nat → Cn} (hy : Purse y) (h : lst y 8 = []) : ∀ d, d < 8 → vl (y d) = 0 := by
  intro d hd
  refine Classical.byContradiction fun hc => ?_
  have h1 : y d ∈ (dsL y 8).map y := List.mem_map.2 ⟨d, dsL_mem.2 ⟨hd, hc⟩, rfl⟩
  rw [← lst_dsL hy 8 (Nat.le_refl _), h] at h1
  simp at h1
set_option maxHeartbeats 4000000 in
theorem send_bad {f t : Nat} (hf : f ≤ 255) (ht : t ≤ 255) {v : Value} {l : List Cn} (hv : IsCoins W v l) (hwf : ∀ x ∈ l, CnWf x) (hbad : ¬ (f < 205 ∧ rightFrom 0 l = true ∧ t < 205)) :
    Calls Try.prog 24 #[.pointer (some ⟨s, 0, none⟩), .int .u8 f, .int .u8 t, v] W fun e w' => e = .returned (.int .i64 1) ∧ Below W.heap.size W w' := by
  have hM := may_any (s := s) hf hv hwf
  have hI := fun X => isA_any t ht X
  by_cases hm : f < 205 ∧ rightFrom 0 l = true
  · have ht' : ¬ t < 205 := fun h => hbad ⟨hm.1, hm.2, h⟩
    rw [decide_eq_true hm.1, hm.2] at hM
    rw [decide_eq_false ht'] at hI
    clear hbad hm ht'
    go_enter Try.func24, Try.ntmps24
    go_wp2_with (first
      | (go_at_call 39; refine hM.mono ?_; rintro e w1 ⟨rfl, hb1⟩)
      | (go_at_call 25; refine (hI _).mono ?_; rintro e w2 ⟨rfl, hw⟩; obtain rfl := hw.symm))
    go_ret
    exact ⟨rfl, hb1⟩
  · have hm' : (decide (f < 205) && rightFrom 0 l) = false := by
      cases hr : rightFrom 0 l
      · simp
      · have : ¬ f < 205 := fun h => hm ⟨h, hr⟩
        simp [this]
    rw [hm'] at hM
    clear hbad hm hm'
    go_enter Try.func24, Try.ntmps24
    go_wp2_with (go_at_call 39; refine hM.mono ?_; rintro e w1 ⟨rfl, hb1⟩)
    go_ret
    exact ⟨rfl, hb1⟩
set_option maxHeartbeats 4000000 in
theorem send_no (h : StD W s base A L ds n) (hB : BkL L b) (hn : n ≤ 800) {f t : Nat} (hf : f < 205) (ht : t < 205) {v : Value} {l : List Cn} (hv : IsCoins W v l) (hwf : ∀ x ∈ l, CnWf x) (hr : rightFrom 0 l = true) (hno : ¬ Has b f (fun d => amt l d)) :
    Calls Try.prog 24 #[.pointer (some ⟨s, 0, none⟩), .int .u8 f, .int .u8 t, v] W fun e w' => e = .returned (.int .i64 3) ∧ Below W.heap.size W w' := by
  have hM := may_any (s := s) (a := f) (by omega) hv hwf
  have hI := fun X => isA_any t (by omega) X
  rw [decide_eq_true hf, hr] at hM
  rw [decide_eq_true ht] at hI
  go_enter Try.func24, Try.ntmps24
  go_wp2_with (first
    | (go_at_call 39; refine hM.mono ?_; clear hM; rintro e w1 ⟨rfl, hb1⟩)
    | (go_at_call 25; refine (hI _).mono ?_; clear hI; rintro e w2 ⟨rfl, hw⟩; obtain rfl := hw.symm)
    | (go_at_call 38; refine (of_any f (by omega) _).mono ?_; rintro e w3 ⟨tt, rfl, htt, hb3⟩; have hB3 := bt hb1 hb3)
    | (go_at_call 40; refine (take_no (h.below hB3) hB (by omega) (by omega) htt (purse_amt hwf) (by rw [right_lst hr]; exact hv.below hB3) hno).mono ?_; rintro e w4 ⟨rfl, hb4⟩))
  go_ret
  exact ⟨rfl, bt hB3 hb4⟩
set_option maxHeartbeats 4000000 in
theorem send_ok (h : StD W s base A L ds n) (hB : BkL L b) (hI : BInv b) (hn : n ≤ 800) {f t : Nat} (hf : f < 205) (ht : t < 205) {v : Value} {l : List Cn} (hv : IsCoins W v l) (hvo : Out A v l) (hwf : ∀ x ∈ l, CnWf x) (hr : rightFrom 0 l = true) (hy : Has b f (fun d => amt l d)) :
    Calls Try.prog 24 #[.pointer (some ⟨s, 0, none⟩), .int .u8 f, .int .u8 t, v] W fun e w' => e = .returned (.int .i64 0) ∧ ∃ A' L', StD w' s base A' L' ds (n + 16) ∧ BkL L' (giveB (takeB b f (fun d => amt l d)) t (fun d => amt l d)) ∧ Fr W w' A A' := by
  have hM := may_any (s := s) (a := f) (by omega) hv hwf
  have hIs := fun X => isA_any t (by omega) X
  have hP := purse_amt hwf
  have hfit := send_fits hI hf ht hy
  have hl := right_lst hr
  rw [decide_eq_true hf, hr] at hM
  rw [decide_eq_true ht] at hIs
  generalize (fun d : Nat => amt l d) = y at *
  subst hl
  go_enter Try.func24, Try.ntmps24
  go_wp2_with (first
    | (go_at_call 39; refine hM.mono ?_; clear hM; rintro e w1 ⟨rfl, hb1⟩)
    | (go_at_call 25; refine (hIs _).mono ?_; clear hIs; rintro e w2 ⟨rfl, hw⟩; obtain rfl := hw.symm)
    | (go_at_call 38; refine (of_any f (by omega) _).mono ?_; rintro e w3 ⟨t3, rfl, ht3, hb3⟩; have hB3 := bt hb1 hb3; clear hb1 hb3)
    | (go_at_call 40; refine (take_ok (h.below hB3) hB (by omega) (by omega) ht3 hP (hv.below hB3) hvo hy).mono ?_; rintro e w4 ⟨rfl, A4, L4, h4, hB4, f4⟩; have fW := (Fr.below hB3).trans f4; clear hB3; have hv4 := hv.fr fW hvo; have ho4 := hv.out fW hvo)
    | (go_at_call 38; refine (of_any t (by omega) _).mono ?_; rintro e w5 ⟨t5, rfl, ht5, hb5⟩)
    | (go_at_call 40; refine (give_ok (h4.below hb5) hB4 (by omega) (by omega) ht5 hP (hv4.below hb5) ho4 hfit).mono ?_; rintro e w6 ⟨rfl, A6, L6, h6, hB6, f6⟩))
  go_ret
  exact ⟨rfl, A6, L6, h6, hB6, fW.trans ((Fr.below hb5).trans f6)⟩
set_option maxHeartbeats 4000000 in
theorem mint_bad {t : Nat} (ht : t ≤ 255) {v : Value} {l : List Cn} (hv : IsCoins W v l) (hwf : ∀ x ∈ l, CnWf x) (hbad : ¬ (t < 205 ∧ rightFrom 0 l = true)) :
    Calls Try.prog 27 #[.pointer (some ⟨s, 0, none⟩), .int .u8 t, v] W fun e w' => e = .returned (.int .i64 1) ∧ Below W.heap.size W w' := by
  have hM := may_any (s := s) ht hv hwf
  have hm' : (decide (t < 205) && rightFrom 0 l) = false := by
    cases hr : rightFrom 0 l
    · simp
    · have : ¬ t < 205 := fun h => hbad ⟨h, hr⟩
      simp [this]
  rw [hm'] at hM
  clear hbad hm'
  go_enter Try.func27, Try.ntmps27
  go_wp2_with (go_at_call 39; refine hM.mono ?_; rintro e w1 ⟨rfl, hb1⟩)
  go_ret
  exact ⟨rfl, hb1⟩
set_option maxHeartbeats 4000000 in
theorem burn_bad {t : Nat} (ht : t ≤ 255) {v : Value} {l : List Cn} (hv : IsCoins W v l) (hwf : ∀ x ∈ l, CnWf x) (hbad : ¬ (t < 205 ∧ rightFrom 0 l = true)) :
    Calls Try.prog 28 #[.pointer (some ⟨s, 0, none⟩), .int .u8 t, v] W fun e w' => e = .returned (.int .i64 1) ∧ Below W.heap.size W w' := by
  have hM := may_any (s := s) ht hv hwf
  have hm' : (decide (t < 205) && rightFrom 0 l) = false := by
    cases hr : rightFrom 0 l
    · simp
    · have : ¬ t < 205 := fun h => hbad ⟨h, hr⟩
      simp [this]
  rw [hm'] at hM
  clear hbad hm'
  go_enter Try.func28, Try.ntmps28
  go_wp2_with (go_at_call 39; refine hM.mono ?_; rintro e w1 ⟨rfl, hb1⟩)
  go_ret
  exact ⟨rfl, hb1⟩
set_option maxHeartbeats 4000000 in
theorem mint_no (h : StD W s base A L ds n) (hB : BkL L b) (hn : n ≤ 800) {t : Nat} (ht : t < 205) {v : Value} {l : List Cn} (hv : IsCoins W v l) (hwf : ∀ x ∈ l, CnWf x) (hr : rightFrom 0 l = true) (hno : ¬ Fits b 256 (fun d => amt l d)) :
    Calls Try.prog 27 #[.pointer (some ⟨s, 0, none⟩), .int .u8 t, v] W fun e w' => e = .returned (.int .i64 2) ∧ Below W.heap.size W w' := by
  have hM := may_any (s := s) (a := t) (by omega) hv hwf
  rw [decide_eq_true ht, hr] at hM
  go_enter Try.func27, Try.ntmps27
  go_wp2_with (first
    | (go_at_call 39; refine hM.mono ?_; clear hM; rintro e w1 ⟨rfl, hb1⟩)
    | (go_at_call 40; refine (give_no (h.below hb1) hB (by omega) (p := 256) (by omega) strIs_all (purse_amt hwf) (by rw [right_lst hr]; exact hv.below hb1) hno).mono ?_; rintro e w4 ⟨rfl, hb4⟩))
  go_ret
  exact ⟨rfl, bt hb1 hb4⟩
set_option maxHeartbeats 4000000 in
theorem mint_ok (h : StD W s base A L ds n) (hB : BkL L b) (hI : BInv b) (hn : n ≤ 800) {t : Nat} (ht : t < 205) {v : Value} {l : List Cn} (hv : IsCoins W v l) (hvo : Out A v l) (hwf : ∀ x ∈ l, CnWf x) (hr : rightFrom 0 l = true) (hy : Fits b 256 (fun d => amt l d)) :
    Calls Try.prog 27 #[.pointer (some ⟨s, 0, none⟩), .int .u8 t, v] W fun e w' => e = .returned (.int .i64 0) ∧ ∃ A' L', StD w' s base A' L' ds (n + 16) ∧ BkL L' (giveB (giveB b 256 (fun d => amt l d)) t (fun d => amt l d)) ∧ Fr W w' A A' := by
  have hM := may_any (s := s) (a := t) (by omega) hv hwf
  have hP := purse_amt hwf
  have hfit := mint_fits hI ht hy
  have hl := right_lst hr
  rw [decide_eq_true ht, hr] at hM
  generalize (fun d : Nat => amt l d) = y at *
  subst hl
  go_enter Try.func27, Try.ntmps27
  go_wp2_with (first
    | (go_at_call 39; refine hM.mono ?_; clear hM; rintro e w1 ⟨rfl, hB3⟩)
    | (go_at_call 40; refine (give_ok (h.below hB3) hB (by omega) (p := 256) (by omega) strIs_all hP (hv.below hB3) hvo hy).mono ?_; rintro e w4 ⟨rfl, A4, L4, h4, hB4, f4⟩; have fW := (Fr.below hB3).trans f4; clear hB3; have hv4 := hv.fr fW hvo; have ho4 := hv.out fW hvo)
    | (go_at_call 38; refine (of_any t (by omega) _).mono ?_; rintro e w5 ⟨t5, rfl, ht5, hb5⟩)
    | (go_at_call 40; refine (give_ok (h4.below hb5) hB4 (by omega) (by omega) ht5 hP (hv4.below hb5) ho4 hfit).mono ?_; rintro e w6 ⟨rfl, A6, L6, h6, hB6, f6⟩))
  go_ret
  exact ⟨rfl, A6, L6, h6, hB6, fW.trans ((Fr.below hb5).trans f6)⟩
set_option maxHeartbeats 4000000 in
theorem burn_no (h : StD W s base A L ds n) (hB : BkL L b) (hn : n ≤ 800) {t : Nat} (ht : t < 205) {v : Value} {l : List Cn} (hv : IsCoins W v l) (hwf : ∀ x ∈ l, CnWf x) (hr : rightFrom 0 l = true) (hno : ¬ Has b t (fun d => amt l d)) :
    Calls Try.prog 28 #[.pointer (some ⟨s, 0, none⟩), .int .u8 t, v] W fun e w' => e = .returned (.int .i64 3) ∧ Below W.heap.size W w' := by
  have hM := may_any (s := s) (a := t) (by omega) hv hwf
  rw [decide_eq_true ht, hr] at hM
  go_enter Try.func28, Try.ntmps28
  go_wp2_with (first
    | (go_at_call 39; refine hM.mono ?_; clear hM; rintro e w1 ⟨rfl, hb1⟩)
    | (go_at_call 38; refine (of_any t (by omega) _).mono ?_; rintro e w3 ⟨tt, rfl, htt, hb3⟩; have hB3 := bt hb1 hb3)
    | (go_at_call 40; refine (take_no (h.below hB3) hB (by omega) (by omega) htt (purse_amt hwf) (by rw [right_lst hr]; exact hv.below hB3) hno).mono ?_; rintro e w4 ⟨rfl, hb4⟩))
  go_ret
  exact ⟨rfl, bt hB3 hb4⟩
set_option maxHeartbeats 4000000 in
theorem burn_ok (h : StD W s base A L ds n) (hB : BkL L b) (hI : BInv b) (hn : n ≤ 800) {t : Nat} (ht : t < 205) {v : Value} {l : List Cn} (hv : IsCoins W v l) (hvo : Out A v l) (hwf : ∀ x ∈ l, CnWf x) (hr : rightFrom 0 l = true) (hy : Has b t (fun d => amt l d)) :
    Calls Try.prog 28 #[.pointer (some ⟨s, 0, none⟩), .int .u8 t, v] W fun e w' => e = .returned (.int .i64 0) ∧ ∃ A' L', StD w' s base A' L' ds (n + 16) ∧ BkL L' (takeB (takeB b t (fun d => amt l d)) 256 (fun d => amt l d)) ∧ Fr W w' A A' := by
  have hM := may_any (s := s) (a := t) (by omega) hv hwf
  have hP := purse_amt hwf
  have hfit := burn_has hI ht hy
  have hl := right_lst hr
  rw [decide_eq_true ht, hr] at hM
  generalize (fun d : Nat => amt l d) = y at *
  subst hl
  go_enter Try.func28, Try.ntmps28
  go_wp2_with (first
    | (go_at_call 39; refine hM.mono ?_; clear hM; rintro e w1 ⟨rfl, hb1⟩)
    | (go_at_call 38; refine (of_any t (by omega) _).mono ?_; rintro e w3 ⟨t3, rfl, ht3, hb3⟩; have hB3 := bt hb1 hb3; clear hb1 hb3)
    | (go_at_call 40; refine (take_ok (h.below hB3) hB (by omega) (by omega) ht3 hP (hv.below hB3) hvo hy).mono ?_; rintro e w4 ⟨rfl, A4, L4, h4, hB4, f4⟩; have fW := (Fr.below hB3).trans f4; clear hB3; have hv4 := hv.fr fW hvo; have ho4 := hv.out fW hvo)
    | (go_at_call 40; refine (take_ok h4 hB4 (by omega) (p := 256) (by omega) strIs_all hP hv4 ho4 hfit).mono ?_; rintro e w6 ⟨rfl, A6, L6, h6, hB6, f6⟩))
  go_ret
  exact ⟨rfl, A6, L6, h6, hB6, fW.trans f6⟩
end
end Go.Proofs.Ytgphdioolcfmmaa

/- The reference's bank: who has something, in order; a state in memory. -/
namespace Go.Proofs.Ytgphdioolcfmmaa
open Go.RowKit

/-- The addresses from one on that have something. -/
def asF (b : Nat → Nat → Cn) : Nat → Nat → List Nat
  | 0, _ => []
  | k + 1, p => (if lst (b p) 8 = [] then [] else [p]) ++ asF b k (p + 1)
theorem asF_mem {b : Nat → Nat → Cn} {q : Nat} : ∀ k p, q ∈ asF b k p ↔ p ≤ q ∧ q < p + k ∧ lst (b q) 8 ≠ []
  | 0, p => by simp [asF]; omega
  | k + 1, p => by
    simp only [asF, List.mem_append]
    rw [asF_mem k (p + 1)]
    by_cases e : q = p
    · subst e
      by_cases h : lst (b q) 8 = []
      · simp [h]
      · simp [h]
    · have : q ∉ (if lst (b p) 8 = [] then [] else [p]) := by split <;> simp [e]
      simp only [this, false_or]
      constructor
      · rintro ⟨h1, h2, h3⟩; exact ⟨by omega, by omega, h3⟩
      · rintro ⟨h1, h2, h3⟩; exact ⟨by omega, by omega, h3⟩
theorem asF_congr {b c : Nat → Nat → Cn} : ∀ k p, (∀ q, p ≤ q → q < p + k → (lst (b q) 8 = [] ↔ lst (c q) 8 = [])) → asF b k p = asF c k p
  | 0, _, _ => rfl
  | k + 1, p, h => by
    simp only [asF]
    rw [asF_congr k (p + 1) (fun q h1 h2 => h q (by omega) (by omega))]
    have := h p (by omega) (by omega)
    by_cases e : lst (b p) 8 = []
    · rw [if_pos e, if_pos (this.1 e)]
    · rw [if_neg e, if_neg (fun h => e (this.2 h))]
theorem asF_len (b : Nat → Nat → Cn) : ∀ k p, (asF b k p).length ≤ k
  | 0, _ => by simp [asF]
  | k + 1, p => by
    have := asF_len b k (p + 1)
    simp only [asF, List.length_append]
    split <;> simp <;> omega
theorem asF_snoc (b : Nat → Nat → Cn) : ∀ k p, asF b (k + 1) p = asF b k p ++ (if lst (b (p + k)) 8 = [] then [] else [p + k])
  | 0, p => by simp [asF]
  | k + 1, p => by
    have e := asF_snoc b k (p + 1)
    have e2 : p + 1 + k = p + (k + 1) := by omega
    rw [e2] at e
    conv => lhs; rw [asF, e]
    conv => rhs; rw [asF]
    rw [List.append_assoc]
/-- Where an address comes in. -/
def goA (a : Nat) : Bool → List Nat → List Nat
  | d, [] => if d then [] else [a]
  | d, c :: r => (if d = false ∧ a < c then [a] else []) ++ (if c = a then [] else [c]) ++ goA a (d || decide (a < c)) r
theorem goA_past {b : Nat → Nat → Cn} {a : Nat} : ∀ k p, a < p → goA a true (asF b k p) = asF b k p ∧ goA a false (asF b k p) = a :: asF b k p
  | 0, _, _ => ⟨rfl, rfl⟩
  | k + 1, p, h => by
    obtain ⟨h1, h2⟩ := goA_past (b := b) (a := a) k (p + 1) (by omega)
    simp only [asF]
    by_cases e : lst (b p) 8 = []
    · simp only [if_pos e, List.nil_append]; exact ⟨h1, h2⟩
    · have e2 : ¬ p = a := by omega
      simp only [if_neg e, List.cons_append, List.nil_append, goA]
      simp [e2, h, h1]
theorem goA_in {b c : Nat → Nat → Cn} {a : Nat} {d : Bool} (hd : d = true ↔ lst (c a) 8 = []) (hc : ∀ q, q ≠ a → c q = b q) : ∀ k p, p ≤ a → a < p + k → goA a d (asF b k p) = asF c k p
  | 0, p, h1, h2 => by omega
  | k + 1, p, h1, h2 => by
    simp only [asF]
    by_cases e : p = a
    · subst e
      obtain ⟨q1, q2⟩ := goA_past (b := b) (a := p) k (p + 1) (by omega)
      have q3 : asF b k (p + 1) = asF c k (p + 1) := asF_congr k (p + 1) (fun q h1 h2 => by rw [hc q (by omega)])
      have q4 : goA p d (asF b k (p + 1)) = (if lst (c p) 8 = [] then [] else [p]) ++ asF c k (p + 1) := by
        cases d
        · have : ¬ lst (c p) 8 = [] := fun h => by have := hd.2 h; cases this
          rw [q2, if_neg this, q3]; rfl
        · rw [q1, if_pos (hd.1 rfl), q3]; rfl
      by_cases e : lst (b p) 8 = []
      · rw [if_pos e, List.nil_append]; exact q4
      · rw [if_neg e]
        simp only [List.cons_append, List.nil_append, goA]
        simp [q4]
    · have ih := goA_in hd hc k (p + 1) (by omega) (by omega)
      rw [hc p e]
      by_cases e2 : lst (b p) 8 = []
      · simp only [if_pos e2, List.nil_append]; exact ih
      · have h3 : ¬ a < p := by omega
        simp only [if_neg e2, List.cons_append, List.nil_append, goA]
        simp [e, h3, ih]
/-- The list with what an address has now. -/
def putGo (a : Nat) (l : Value) : Bool → List (Nat × Value) → List (Nat × Value)
  | d, [] => if d then [] else [(a, l)]
  | d, x :: r => (if d = false ∧ a < x.1 then [(a, l)] else []) ++ (if x.1 = a then [] else [x]) ++ putGo a l (d || decide (a < x.1)) r
theorem putGo_fst (a : Nat) (l : Value) : ∀ (M : List (Nat × Value)) (d : Bool), (putGo a l d M).map (·.1) = goA a d (M.map (·.1))
  | [], d => by cases d <;> rfl
  | x :: r, d => by
    simp only [putGo, goA, List.map_cons, List.map_append, putGo_fst a l r]
    congr 1
    congr 1
    · split <;> rfl
    · split <;> rfl
theorem putGo_mem {a : Nat} {l : Value} {x : Nat × Value} : ∀ (M : List (Nat × Value)) (d : Bool), x ∈ putGo a l d M → (x = (a, l)) ∨ (x ∈ M ∧ x.1 ≠ a)
  | [], d, h => by
    cases d
    · simp [putGo] at h; exact .inl h
    · simp [putGo] at h
  | y :: r, d, h => by
    simp only [putGo, List.mem_append] at h
    rcases h with (h | h) | h
    · split at h
      · simp at h; exact .inl h
      · simp at h
    · split at h
      · simp at h
      · rename_i hn
        simp at h; subst h; exact .inr ⟨by simp, hn⟩
    · rcases putGo_mem r _ h with h | ⟨h1, h2⟩
      · exact .inl h
      · exact .inr ⟨by simp [h1], h2⟩
theorem putGo_len {a : Nat} {l : Value} : ∀ (M : List (Nat × Value)) (d : Bool), (putGo a l d M).length ≤ 2 * M.length + 1
  | [], d => by cases d <;> simp [putGo]
  | y :: r, d => by
    have := putGo_len (a := a) (l := l) r (d || decide (a < y.1))
    simp only [putGo, List.length_append, List.length_cons]
    have h1 : (if d = false ∧ a < y.1 then [(a, l)] else []).length ≤ 1 := by split <;> simp
    have h2 : (if y.1 = a then [] else [y]).length ≤ 1 := by split <;> simp
    omega

def cellsB (M : List (Nat × Value)) : List Value := M.flatMap fun x => [.int .u8 (x.1 : Int), x.2]
theorem cellsB_app (a b : List (Nat × Value)) : cellsB (a ++ b) = cellsB a ++ cellsB b := by simp [cellsB]
theorem cellsB_len (M : List (Nat × Value)) : (cellsB M).length = M.length * 2 := by
  induction M with
  | nil => rfl
  | cons x M ih => simp [cellsB] at ih ⊢; omega
theorem cellsB_at (M : List (Nat × Value)) (i : Nat) {x : Nat × Value} (h : M[i]? = some x) : (cellsB M)[i * 2]? = some (.int .u8 (x.1 : Int)) ∧ (cellsB M)[i * 2 + 1]? = some x.2 := by
  induction M generalizing i with
  | nil => simp at h
  | cons y M ih =>
    cases i with
    | zero => simp at h; subst h; exact ⟨rfl, rfl⟩
    | succ i =>
      simp at h
      obtain ⟨h1, h2⟩ := ih i h
      have e1 : (i + 1) * 2 = i * 2 + 1 + 1 := by omega
      rw [e1]
      exact ⟨h1, h2⟩
theorem bal_info : (Try.prog.info? 46).map (fun i => (i.zero, i.size, i.bytes)) = some (some (.agg #[.int .u8 0, .slice none 0 0]), 2, 32) := by kernel_rfl
/-- The document's state, as far as the bank's go. -/
structure Stt (W : World) (m base : Nat) (B : Nat → Prop) (vs vb : Value) (M : List (Nat × Value)) (b : Nat → Nat → Cn) : Prop where
  blk : W.heap[m]? = some (.cells #[.int .u64 0, vs, vb, .slice none 0 0, .slice none 0 0, .slice none 0 0, .slice none 0 0, .slice none 0 0] 37 (0, 0))
  bm : B m
  sup : IsCoins W vs (lst (b 256) 8)
  bs : ∀ g, vs.ownBlock = some g → B g ∧ g ≠ m
  row : W.ownsRow base 46 2 vb M.length (cellsB M)
  bb : ∀ g, vb.ownBlock = some g → B g ∧ g ≠ m
  all : ∀ x ∈ M, IsCoins W x.2 (lst (b x.1) 8) ∧ ∀ g, x.2.ownBlock = some g → B g ∧ g ≠ m
  adr : M.map (·.1) = asF b 205 0
  foot : ∀ k, B k → base ≤ k ∧ k < W.heap.size
theorem IsCoins.keep {W W' : World} {v : Value} {l : List Cn} (h : IsCoins W v l) (e : ∀ g, v.ownBlock = some g → W'.heap[g]? = W.heap[g]?) (hs : W.heap.size ≤ W'.heap.size) : IsCoins W' v l := by
  rcases h with h | ⟨blk, off, cap, hv, hne, hlen, hlt, hall⟩
  · exact .inl h
  · have hb := e blk (by rw [hv]; rfl)
    refine .inr ⟨blk, off, cap, hv, hne, hlen, Nat.lt_of_lt_of_le hlt hs, fun i x hi => ?_⟩
    obtain ⟨h0, h1, h2, h3, h4⟩ := hall i x hi
    exact ⟨(World.cell?_of_block (a := ⟨blk, _, none⟩) hb).trans h0, (World.cell?_of_block (a := ⟨blk, _, none⟩) hb).trans h1, (World.cell?_of_block (a := ⟨blk, _, none⟩) hb).trans h2, (World.cell?_of_block (a := ⟨blk, _, none⟩) hb).trans h3, (World.cell?_of_block (a := ⟨blk, _, none⟩) hb).trans h4⟩
section
variable {W : World} {m base : Nat} {B : Nat → Prop} {vs vb : Value} {M : List (Nat × Value)} {b : Nat → Nat → Cn}
theorem Stt.kept {W' : World} (h : Stt W m base B vs vb M b) (e : ∀ k, B k → W'.heap[k]? = W.heap[k]?) (hs : W.heap.size ≤ W'.heap.size) : Stt W' m base B vs vb M b := by
  refine ⟨(e m h.bm).trans h.blk, h.bm, h.sup.keep (fun g hg => e g (h.bs g hg).1) hs, h.bs, ?_, h.bb, fun x hx => ⟨(h.all x hx).1.keep (fun g hg => e g ((h.all x hx).2 g hg).1) hs, (h.all x hx).2⟩, h.adr, fun k hk => ⟨(h.foot k hk).1, Nat.lt_of_lt_of_le (h.foot k hk).2 hs⟩⟩
  have hr := h.row
  refine ⟨hr.1, ?_⟩
  rcases hr.2 with h2 | ⟨g, cap, cur, hv, hg, hb, r⟩
  · exact .inl h2
  · exact .inr ⟨g, cap, cur, hv, hg, (e g (h.bb g (by rw [hv]; rfl)).1).trans hb, r⟩
theorem Stt.below {W' : World} (h : Stt W m base B vs vb M b) (hb : Below W.heap.size W W') : Stt W' m base B vs vb M b := h.kept (fun k hk => hb.block k (h.foot k hk).2) hb.size
theorem Stt.len (h : Stt W m base B vs vb M b) : M.length ≤ 205 := by
  have := asF_len b 205 0
  rw [← h.adr, List.length_map] at this
  exact this
/-- More blocks are the state's. -/
theorem Stt.ext (h : Stt W m base B vs vb M b) {C : Nat → Prop} (h1 : ∀ k, B k → C k) (h2 : ∀ k, C k → base ≤ k ∧ k < W.heap.size) : Stt W m base C vs vb M b :=
  ⟨h.blk, h1 m h.bm, h.sup, fun g hg => ⟨h1 g (h.bs g hg).1, (h.bs g hg).2⟩, h.row, fun g hg => ⟨h1 g (h.bb g hg).1, (h.bb g hg).2⟩, fun x hx => ⟨(h.all x hx).1, fun g hg => ⟨h1 g ((h.all x hx).2 g hg).1, ((h.all x hx).2 g hg).2⟩⟩, h.adr, h2⟩
theorem Stt.congr {c : Nat → Nat → Cn} (h : Stt W m base B vs vb M b) (e : ∀ p, p ≤ 256 → c p = b p) : Stt W m base B vs vb M c := by
  refine ⟨h.blk, h.bm, by rw [e 256 (by omega)]; exact h.sup, h.bs, h.row, h.bb, fun x hx => ?_, ?_, h.foot⟩
  · have hx1 : x.1 ∈ asF b 205 0 := by rw [← h.adr]; exact List.mem_map.2 ⟨x, hx, rfl⟩
    have := (asF_mem 205 0).1 hx1
    rw [e x.1 (by omega)]
    exact h.all x hx
  · rw [h.adr]
    exact asF_congr 205 0 (fun q _ h2 => by rw [e q (by omega)])
theorem Stt.at (h : Stt W m base B vs vb M b) {i : Nat} (hi : i < M.length) : ∃ g cap, vb = .slice (some ⟨g, 0, none⟩) M.length cap ∧ g < W.heap.size ∧ W.cell? ⟨g, i * 2, none⟩ = some (.int .u8 (M[i].1 : Int)) ∧ W.cell? ⟨g, i * 2 + 1, none⟩ = some M[i].2 := by
  obtain ⟨a, c, ev⟩ := row_slice h.row
  subst ev
  rcases h.row.2 with ⟨e, h0⟩ | ⟨g, cap, cur, e, hb, hg, r⟩
  · omega
  · simp at e
    obtain ⟨rfl, rfl⟩ := e
    obtain ⟨q1, q2⟩ := cellsB_at M i (List.getElem?_eq_getElem hi)
    refine ⟨g, c, rfl, (Array.getElem?_eq_some_iff.1 hg).1, ?_, ?_⟩
    · rw [World.ownsRow.cellAt h.row (i * 2) (by omega)]; exact q1
    · rw [World.ownsRow.cellAt h.row (i * 2 + 1) (by omega)]; exact q2
end
end Go.Proofs.Ytgphdioolcfmmaa
