
/- Several texts, one behind the other: B7, B8, BK1, BK2, C18, G1, G2, G3, G4, G5, G7, G8. -/
import Derived.Test.YtafcianpajheiaaPQ1
import Derived.Test.YtafcianpajheiaaOS
import Derived.Test.YtafcianpajheiaaC16
import Derived.Laws.IdiomStrings
import Derived.Laws.AppendOwn
import Derived.Test.YtafcianpajheiaaC8
import Derived.Test.YtafcianpajheiaaU
import Derived.Deep.RegionHeld2
import Derived.BigQuiet
import Derived.Deep.QuietTactic
import Derived.Laws.AppendOwnNone
import Derived.Laws.Cover3
/- num.Read and the reference's Read: the walks. -/
set_option linter.unusedSimpArgs false
set_option linter.unusedVariables false
set_option maxRecDepth 20000
namespace Go.Proofs.Ytafcianpajheiaa
open Go.RowKit

end Go.Proofs.Ytafcianpajheiaa

/- num.Read and the reference's Read, whole; Bytes as they are used. -/
namespace Go.Proofs.Ytafcianpajheiaa
open Go.RowKit

set_option maxHeartbeats 2000000 in
theorem read_nil (a : Option Addr) (cap : Nat) (w : World) :
    Calls Try.prog 64 #[.slice a 0 cap] w fun e w' => e = .returned (.tuple #[.agg #[.int .u64 0, .int .u64 0, .int .u64 0, .int .u64 0], .int .i64 0]) ∧ Below w.heap.size w w' := by
  go_enter Try.func64, Try.ntmps64
  go_wp2
  apply wp_loop_rounds 1
  simp only [Code.rounds]
  go_wp2
  refine bodyPost_ret (v := .tuple #[.agg #[.int .u64 0, .int .u64 0, .int .u64 0, .int .u64 0], .int .i64 0]) (by simp only [results, Try.results64]; go_simp) rfl ⟨rfl, by (repeat (first | (with_reducible exact Below.refl _ _) | (with_reducible assumption) | (with_reducible apply bd) | (with_reducible apply ba) | (with_reducible refine bp ?_ (by first | omega | (simp [pad_size]; done) | (simp [pad_size]; omega)) _ _) | (with_reducible refine bs ?_ (by first | omega | (simp [pad_size]; done) | (simp [pad_size]; omega)) _) | (with_reducible refine bt ?_ (by assumption))))⟩
set_option maxHeartbeats 2000000 in
theorem read_long (a : Option Addr) (n cap : Nat) (hn : 32 < n ∧ n ≤ 1073741824) (w : World) :
    Calls Try.prog 64 #[.slice a n cap] w fun e w' => e = .returned (.tuple #[.agg #[.int .u64 0, .int .u64 0, .int .u64 0, .int .u64 0], .int .i64 4]) ∧ Below w.heap.size w w' := by
  have h : (32 : Int) < (n : Int) := by omega
  go_enter Try.func64, Try.ntmps64
  go_wp2
  refine bodyPost_ret (v := .tuple #[.agg #[.int .u64 0, .int .u64 0, .int .u64 0, .int .u64 0], .int .i64 4]) (by simp only [results, Try.results64]; go_simp) rfl ⟨rfl, by (repeat (first | (with_reducible exact Below.refl _ _) | (with_reducible assumption) | (with_reducible apply bd) | (with_reducible apply ba) | (with_reducible refine bp ?_ (by first | omega | (simp [pad_size]; done) | (simp [pad_size]; omega)) _ _) | (with_reducible refine bs ?_ (by first | omega | (simp [pad_size]; done) | (simp [pad_size]; omega)) _) | (with_reducible refine bt ?_ (by assumption))))⟩
set_option maxHeartbeats 2000000 in
theorem read_head (blk off n cap : Nat) (hn : 0 < n ∧ n ≤ 32) (w : World) (hg : blk < w.heap.size) (c0 : w.cell? ⟨blk, off, none⟩ = some (.int .u8 0)) :
    Calls Try.prog 64 #[.slice (some ⟨blk, off, none⟩) n cap] w fun e w' => e = .returned (.tuple #[.agg #[.int .u64 0, .int .u64 0, .int .u64 0, .int .u64 0], .int .i64 4]) ∧ Below w.heap.size w w' := by
  have h : ¬ (32 : Int) < (n : Int) := by omega
  have hnp : (0 : Int) < (n : Int) := by omega
  go_enter Try.func64, Try.ntmps64
  go_wp2
  refine bodyPost_ret (v := .tuple #[.agg #[.int .u64 0, .int .u64 0, .int .u64 0, .int .u64 0], .int .i64 4]) (by simp only [results, Try.results64]; go_simp) rfl ⟨rfl, by (repeat (first | (with_reducible exact Below.refl _ _) | (with_reducible assumption) | (with_reducible apply bd) | (with_reducible apply ba) | (with_reducible refine bp ?_ (by first | omega | (simp [pad_size]; done) | (simp [pad_size]; omega)) _ _) | (with_reducible refine bs ?_ (by first | omega | (simp [pad_size]; done) | (simp [pad_size]; omega)) _) | (with_reducible refine bt ?_ (by assumption))))⟩
/-- The parts of what is laid so. -/
theorem bytes_parts {W : World} {v : Value} {p : List Int} (h : IsBytes W v p) : (p = [] ∧ ∃ a cap, v = .slice a 0 cap) ∨ ∃ blk off cap b, v = .slice (some ⟨blk, off, none⟩) p.length cap ∧ p[0]? = some b ∧ 0 < p.length ∧ p.length ≤ 1073741824 ∧ blk < W.heap.size ∧ ∀ i x, p[i]? = some x → W.cell? ⟨blk, off + i, none⟩ = some (.int .u8 x) := by
  by_cases hp : p = []
  · obtain ⟨a, cap, e⟩ := h.slice
    rw [hp] at e
    exact .inl ⟨hp, a, cap, e⟩
  · rcases h with h | ⟨blk, off, cap, rfl, h1, h2, h3⟩
    · exact absurd h.1 hp
    · have hl : 0 < p.length := List.length_pos_iff.2 hp
      exact .inr ⟨blk, off, cap, p[0], rfl, List.getElem?_eq_getElem hl, hl, h1, h2, h3⟩
theorem good_head {p : List Int} {b : Int} (h : Good p) (h0 : p[0]? = some b) : 0 < b := h.2 b (by rw [List.head?_eq_getElem?]; exact h0)
theorem read_good {v : Value} {p : List Int} {z0 z1 z2 z3 : Int} (hg : Good p) (hl : p.length ≤ 32) (hz : Lim z0 z1 z2 z3) (hv : val z0 z1 z2 z3 = rd p) (w : World) (h : IsBytes w v p) :
    Calls Try.prog 64 #[v] w fun e w' => e = .returned (.tuple #[.agg #[.int .u64 z0, .int .u64 z1, .int .u64 z2, .int .u64 z3], .int .i64 0]) ∧ Below w.heap.size w w' := by
  rcases bytes_parts h with ⟨rfl, a, cap, rfl⟩ | ⟨blk, off, cap, b, rfl, h0, h1, h2, h3, h4⟩
  · obtain ⟨rfl, rfl, rfl, rfl⟩ := (val_zero hz).1 hv
    exact read_nil a cap w
  · exact read_some p p.length blk off cap rfl ⟨h1, hl⟩ hg.1 z0 z1 z2 z3 b hz hv w h3 h4 h0 (good_head hg h0)
theorem read_bad {v : Value} {p : List Int} (hb : 32 < p.length ∨ p[0]? = some 0) (w : World) (h : IsBytes w v p) :
    Calls Try.prog 64 #[v] w fun e w' => e = .returned (.tuple #[.agg #[.int .u64 0, .int .u64 0, .int .u64 0, .int .u64 0], .int .i64 4]) ∧ Below w.heap.size w w' := by
  rcases bytes_parts h with ⟨rfl, a, cap, rfl⟩ | ⟨blk, off, cap, b, rfl, h0, h1, h2, h3, h4⟩
  · simp at hb
  · by_cases hl : 32 < p.length
    · exact read_long _ _ _ ⟨hl, h2⟩ w
    · have e : p[0]? = some 0 := hb.resolve_left hl
      exact read_head blk off p.length cap (by omega) w h3 (by simpa using h4 0 0 e)
theorem bytes_two (x0 x1 x2 x3 : Int) (hx : Lim x0 x1 x2 x3) (w : World) :
    Calls Try.prog 55 #[.agg #[.int .u64 x0, .int .u64 x1, .int .u64 x2, .int .u64 x3]] w fun e w' => ∃ v : Value, e = .returned v ∧ IsBytes w' v (byL (val x0 x1 x2 x3) 32) ∧ ((∃ a cap, v = .slice a 0 cap) ∨ ∃ g off cap n b, v = .slice (some ⟨g, off, none⟩) n cap ∧ (0 < n ∧ n ≤ 32) ∧ g < w'.heap.size ∧ w'.cell? ⟨g, off, none⟩ = some (.int .u8 b) ∧ 0 < b) ∧ Below w.heap.size w w' := by
  refine (bytes_can x0 x1 x2 x3 hx w).mono ?_
  rintro e w' ⟨v, rfl, h, hb⟩
  refine ⟨v, rfl, h, ?_, hb⟩
  have hl := byL_len (val x0 x1 x2 x3) 32
  rcases bytes_parts h with ⟨-, a, cap, rfl⟩ | ⟨blk, off, cap, b, rfl, h0, h1, h2, h3, h4⟩
  · exact .inl ⟨a, cap, rfl⟩
  · exact .inr ⟨blk, off, cap, _, b, rfl, ⟨h1, hl⟩, h3, by simpa using h4 0 b h0, good_head (byL_good _ _) h0⟩
end Go.Proofs.Ytafcianpajheiaa

/- bank: which key holds what, what a place has: plain facts. -/
namespace Go.Proofs.Ytafcianpajheiaa
open Go.RowKit

theorem mem_put {L : List (List Int × List Int)} {k v : List Int} {x : List Int × List Int} : x ∈ putS L k v ↔ x = (k, v) ∨ (x.1 ≠ k ∧ x ∈ L) := by
  unfold putS
  rw [List.mem_append, List.mem_cons, List.mem_filter, List.mem_filter]
  have h0 : cmpB x.1 k = 0 ↔ x.1 = k := ⟨cmp_eq0 _ _, fun h => by rw [h, cmp_self]⟩
  constructor
  · rintro (⟨h1, h2⟩ | h | ⟨h1, h2⟩)
    · simp at h2; exact .inr ⟨fun e => by have := h0.2 e; omega, h1⟩
    · exact .inl h
    · simp at h2; exact .inr ⟨fun e => by have := h0.2 e; omega, h1⟩
  · rintro (h | ⟨h1, h2⟩)
    · exact .inr (.inl h)
    · rcases Int.lt_trichotomy (cmpB x.1 k) 0 with hc | hc | hc
      · exact .inl ⟨h2, by simpa using hc⟩
      · exact absurd (h0.1 hc) h1
      · exact .inr (.inr ⟨h2, by simpa using hc⟩)
theorem mem_drop {L : List (List Int × List Int)} {k : List Int} {x : List Int × List Int} : x ∈ dropS L k ↔ x.1 ≠ k ∧ x ∈ L := by
  unfold dropS
  rw [List.mem_append, List.mem_filter, List.mem_filter]
  have h0 : cmpB x.1 k = 0 ↔ x.1 = k := ⟨cmp_eq0 _ _, fun h => by rw [h, cmp_self]⟩
  constructor
  · rintro (⟨h1, h2⟩ | ⟨h1, h2⟩)
    · simp at h2; exact ⟨fun e => by have := h0.2 e; omega, h1⟩
    · simp at h2; exact ⟨fun e => by have := h0.2 e; omega, h1⟩
  · rintro ⟨h1, h2⟩
    rcases Int.lt_trichotomy (cmpB x.1 k) 0 with hc | hc | hc
    · exact .inl ⟨h2, by simpa using hc⟩
    · exact absurd (h0.1 hc) h1
    · exact .inr ⟨h2, by simpa using hc⟩
theorem get_of {L : List (List Int × List Int)} (hs : SrtC L) {k v : List Int} (h : (k, v) ∈ L) : getS L k = some v := by
  obtain ⟨a, c, ha, hc, ⟨e1, e2⟩ | ⟨u, e1, e2⟩⟩ := split_srt hs k
  · exfalso
    rw [e2] at h
    rcases List.mem_append.1 h with h | h
    · have := ha _ h; simp only [cmp_self] at this; omega
    · have := hc _ h; simp only [cmp_self] at this; omega
  · rw [e2] at h
    rcases List.mem_append.1 h with h | h
    · have := ha _ h; simp only [cmp_self] at this; omega
    · rcases List.mem_cons.1 h with h | h
      · rw [e1]; injection h with h1 h2; rw [h2]
      · have := hc _ h; simp only [cmp_self] at this; omega
theorem get_mem {L : List (List Int × List Int)} {k v : List Int} (h : getS L k = some v) : (k, v) ∈ L := by
  unfold getS at h
  obtain ⟨x, hx, rfl⟩ := Option.map_eq_some_iff.1 h
  have h1 := List.find?_some hx
  have h2 := List.mem_of_find?_eq_some hx
  have e : x.1 = k := cmp_eq0 _ _ (by simpa using h1)
  rw [← e]
  exact h2
theorem srt_ext : ∀ (l m : List (List Int)), l.Pairwise (fun x y => cmpB x y < 0) → m.Pairwise (fun x y => cmpB x y < 0) → (∀ x, x ∈ l ↔ x ∈ m) → l = m
  | [], [], _, _, _ => rfl
  | [], b :: m, _, _, h => absurd ((h b).2 (by simp)) (by simp)
  | a :: l, [], _, _, h => absurd ((h a).1 (by simp)) (by simp)
  | a :: l, b :: m, hl, hm, h => by
    obtain ⟨h1, h2⟩ := List.pairwise_cons.1 hl
    obtain ⟨h3, h4⟩ := List.pairwise_cons.1 hm
    have hab : a = b := by
      rcases List.mem_cons.1 ((h a).1 (by simp)) with e | e
      · exact e
      · rcases List.mem_cons.1 ((h b).2 (by simp)) with e' | e'
        · exact e'.symm
        · have q1 := h3 a e
          have q2 := h1 b e'
          have q3 := cmp_flip a b
          omega
    subst hab
    rw [srt_ext l m h2 h4 fun x => ?_]
    constructor
    · intro hx
      rcases List.mem_cons.1 ((h x).1 (by simp [hx])) with e | e
      · subst e; have := h1 x hx; rw [cmp_self] at this; omega
      · exact e
    · intro hx
      rcases List.mem_cons.1 ((h x).2 (by simp [hx])) with e | e
      · subst e; have := h3 x hx; rw [cmp_self] at this; omega
      · exact e
theorem cmp_pre : ∀ (a x y : List Int), cmpB (a ++ x) (a ++ y) = cmpB x y
  | [], _, _ => rfl
  | c :: a, x, y => by simp [cmpB, cmp_pre a x y]

def hasB : List Int := [98, 97, 110, 107, 46, 104, 97, 115, 46]
def allK : List Int := [98, 97, 110, 107, 46, 97, 108, 108, 46]
/-- A place's bytes: an address's, by its number; the supply's (256). -/
def plc (p : Nat) : List Int := if p < 256 then hasB ++ [(p : Int)] else allK
def ky (p d : Nat) : List Int := plc p ++ [(d : Int)]
theorem plc_len (p : Nat) : (plc p).length = 9 ∨ (plc p).length = 10 := by unfold plc hasB allK; split <;> simp
theorem ky_len (p d : Nat) : (ky p d).length = (plc p).length + 1 := by simp [ky]
theorem byte_app {a b : List Int} (ha : Byte a) (hb : Byte b) : Byte (a ++ b) := fun x hx => by
  rcases List.mem_append.1 hx with h | h
  · exact ha x h
  · exact hb x h
theorem byte_one {x : Int} (h : 0 ≤ x ∧ x ≤ 255) : Byte [x] := fun y hy => by rw [List.mem_singleton] at hy; subst hy; exact h
theorem byte_has : Byte hasB := by unfold Byte hasB; decide
theorem byte_allK : Byte allK := by unfold Byte allK; decide
theorem byte_plc (p : Nat) : Byte (plc p) := by
  unfold plc; split
  · exact byte_app byte_has (byte_one (by omega))
  · exact byte_allK
theorem byte_ky (p : Nat) {d : Nat} (hd : d ≤ 255) : Byte (ky p d) := byte_app (byte_plc p) (byte_one (by omega))
theorem begs_ky {p q : Nat} (d : Nat) (hp : p ≤ 256) (hq : q ≤ 256) : begs (ky p d) (plc q) = decide (p = q) := by
  unfold begs ky plc
  by_cases h1 : p < 256 <;> by_cases h2 : q < 256
  · simp only [if_pos h1, if_pos h2, hasB]
    by_cases e : p = q
    · subst e; simp
    · have e' : ¬ (p : Int) = (q : Int) := by omega
      simp [e, e']
  · have e : ¬ p = q := by omega
    simp [if_pos h1, if_neg h2, hasB, allK, e]
  · have e : ¬ p = q := by omega
    simp [if_neg h1, if_pos h2, hasB, allK, e]
  · have e : p = q := by omega
    subst e
    simp [if_neg h1, allK]
theorem ky_inj {p q d e : Nat} (hp : p ≤ 256) (hq : q ≤ 256) : ky p d = ky q e ↔ p = q ∧ d = e := by
  constructor
  · intro h
    have h1 := begs_ky d hp hp
    have h2 := begs_ky e hq hp
    rw [h, h2] at h1
    simp at h1
    subst h1
    refine ⟨rfl, ?_⟩
    have h3 := List.append_cancel_left (show plc q ++ [(d : Int)] = plc q ++ [(e : Int)] from h)
    simp at h3
    omega
  · rintro ⟨rfl, rfl⟩; rfl
theorem ky_lt (p : Nat) {d e : Nat} (h : d < e) : cmpB (ky p d) (ky p e) < 0 := by
  unfold ky
  rw [cmp_pre]
  have : (d : Int) < (e : Int) := by omega
  simp [cmpB, this]
/-- The places of a purse at which there is something. -/
def dsL (z : Nat → Cn) (k : Nat) : List Nat := (List.range k).filter (fun d => decide (vl (z d) ≠ 0))
theorem dsL_succ (z : Nat → Cn) (k : Nat) : dsL z (k + 1) = dsL z k ++ (if vl (z k) = 0 then [] else [k]) := by
  unfold dsL
  rw [List.range_succ, List.filter_append]
  congr 1
  by_cases h : vl (z k) = 0 <;> simp [h]
theorem dsL_mem {z : Nat → Cn} {k d : Nat} : d ∈ dsL z k ↔ d < k ∧ vl (z d) ≠ 0 := by simp [dsL]
theorem eq4_vl {x : Cn} (h : LimC x) : eq4 x.a x.b x.c x.e 0 0 0 0 = decide (vl x = 0) := by
  have h0 := val_zero h
  by_cases e : vl x = 0
  · rw [decide_eq_true e]; exact eq4_true.2 (h0.1 e)
  · rw [decide_eq_false e]
    cases hq : eq4 x.a x.b x.c x.e 0 0 0 0
    · rfl
    · exact absurd (h0.2 (eq4_true.1 hq)) e
theorem oneL_vl {x : Cn} (h : LimC x) : oneL x = if vl x = 0 then [] else [x] := by
  unfold oneL
  rw [eq4_vl h]
  by_cases e : vl x = 0 <;> simp [e]
theorem lst_dsL {z : Nat → Cn} (hz : Purse z) : ∀ k, k ≤ 8 → lst z k = (dsL z k).map z
  | 0, _ => rfl
  | k + 1, hk => by
    simp only [lst]
    rw [lst_dsL hz k (by omega), dsL_succ, oneL_vl (hz k (by omega)).1, List.map_append]
    congr 1
    by_cases e : vl (z k) = 0 <;> simp [e]
theorem dsL_srt (z : Nat → Cn) (k p : Nat) : ((dsL z k).map (ky p)).Pairwise (fun x y => cmpB x y < 0) := by
  rw [List.pairwise_map]
  refine (List.Pairwise.sublist List.filter_sublist ?_ : (dsL z k).Pairwise _)
  exact List.pairwise_lt_range.imp (fun h => ky_lt p h)

/-- What a store holds where each place has a purse. -/
structure BkL (L : List (List Int × List Int)) (b : Nat → Nat → Cn) : Prop where
  srt : SrtC L
  pur : ∀ p, p ≤ 256 → Purse (b p)
  mem : ∀ x, x ∈ L ↔ ∃ p d, p ≤ 256 ∧ d < 8 ∧ vl (b p d) ≠ 0 ∧ x = (ky p d, byL (vl (b p d)) 32)
theorem BkL.new : BkL [] (fun _ => zeroP) := ⟨List.Pairwise.nil, fun _ _ => purse_zero, fun x => ⟨fun h => by simp at h, fun ⟨p, d, _, _, h, _⟩ => absurd (vl_zero d) h⟩⟩
theorem BkL.congr {L : List (List Int × List Int)} {b c : Nat → Nat → Cn} (h : BkL L b) (e : ∀ p d, p ≤ 256 → d < 8 → b p d = c p d) : BkL L c := by
  refine ⟨h.srt, fun p hp d hd => by rw [← e p d hp hd]; exact h.pur p hp d hd, fun x => (h.mem x).trans ?_⟩
  constructor
  · rintro ⟨p, d, h1, h2, h3⟩; exact ⟨p, d, h1, h2, by rw [← e p d h1 h2]; exact h3⟩
  · rintro ⟨p, d, h1, h2, h3⟩; exact ⟨p, d, h1, h2, by rw [e p d h1 h2]; exact h3⟩
theorem BkL.keys {L : List (List Int × List Int)} {b : Nat → Nat → Cn} (h : BkL L b) {p : Nat} (hp : p ≤ 256) : keysS L (plc p) = (dsL (b p) 8).map (ky p) := by
  refine srt_ext _ _ (keysS_srt h.srt _) (dsL_srt _ _ _) fun x => ?_
  unfold keysS
  rw [List.mem_map, List.mem_map]
  constructor
  · rintro ⟨y, hy, rfl⟩
    obtain ⟨h1, h2⟩ := List.mem_filter.1 hy
    obtain ⟨q, d, hq, hd, hv, rfl⟩ := (h.mem y).1 h1
    simp only at h2 ⊢
    rw [begs_ky d hq hp] at h2
    obtain rfl : q = p := by simpa using h2
    exact ⟨d, dsL_mem.2 ⟨hd, hv⟩, rfl⟩
  · rintro ⟨d, hd, rfl⟩
    obtain ⟨h1, h2⟩ := dsL_mem.1 hd
    refine ⟨(ky p d, byL (vl (b p d)) 32), List.mem_filter.2 ⟨(h.mem _).2 ⟨p, d, hp, h1, h2, rfl⟩, ?_⟩, rfl⟩
    simp only
    rw [begs_ky d hp hp]
    simp
theorem BkL.get_yes {L : List (List Int × List Int)} {b : Nat → Nat → Cn} (h : BkL L b) {p d : Nat} (hp : p ≤ 256) (hd : d < 8) (hv : vl (b p d) ≠ 0) : getS L (ky p d) = some (byL (vl (b p d)) 32) :=
  get_of h.srt ((h.mem _).2 ⟨p, d, hp, hd, hv, rfl⟩)
theorem BkL.get_no {L : List (List Int × List Int)} {b : Nat → Nat → Cn} (h : BkL L b) {p d : Nat} (hp : p ≤ 256) (hv : d < 8 → vl (b p d) = 0) : getS L (ky p d) = none := by
  cases hg : getS L (ky p d) with
  | none => rfl
  | some v =>
    obtain ⟨q, e, hq, he, hne, hx⟩ := (h.mem _).1 (get_mem hg)
    injection hx with h1 h2
    obtain ⟨rfl, rfl⟩ := (ky_inj hp hq).1 h1
    exact absurd (hv he) hne
def upB (b : Nat → Nat → Cn) (p d : Nat) (x : Cn) : Nat → Nat → Cn := fun q e => if q = p ∧ e = d then x else b q e
theorem upB_at (b : Nat → Nat → Cn) (p d : Nat) (x : Cn) : upB b p d x p d = x := if_pos ⟨rfl, rfl⟩
theorem upB_off {b : Nat → Nat → Cn} {p d : Nat} {x : Cn} {q e : Nat} (h : ¬ (q = p ∧ e = d)) : upB b p d x q e = b q e := if_neg h
theorem BkL.up {L : List (List Int × List Int)} {b : Nat → Nat → Cn} (h : BkL L b) {p d : Nat} (hp : p ≤ 256) (hd : d < 8) {x : Cn} (hx : LimC x) (hxd : x.d = d) : BkL (if vl x = 0 then dropS L (ky p d) else putS L (ky p d) (byL (vl x) 32)) (upB b p d x) := by
  have hpur : ∀ q, q ≤ 256 → Purse (upB b p d x q) := fun q hq e he => by
    by_cases hc : q = p ∧ e = d
    · obtain ⟨rfl, rfl⟩ := hc; rw [upB_at]; exact ⟨hx, hxd⟩
    · rw [upB_off hc]; exact h.pur q hq e he
  by_cases h0 : vl x = 0
  · rw [if_pos h0]
    refine ⟨srt_dropS h.srt _, hpur, fun y => ?_⟩
    rw [mem_drop, h.mem]
    constructor
    · rintro ⟨h1, q, e, hq, he, hv, rfl⟩
      have hc : ¬ (q = p ∧ e = d) := fun hc => h1 ((ky_inj hq hp).2 hc)
      exact ⟨q, e, hq, he, by rw [upB_off hc]; exact hv, by rw [upB_off hc]⟩
    · rintro ⟨q, e, hq, he, hv, rfl⟩
      have hc : ¬ (q = p ∧ e = d) := fun hc => by obtain ⟨rfl, rfl⟩ := hc; rw [upB_at] at hv; exact hv h0
      rw [upB_off hc] at hv ⊢
      exact ⟨fun e2 => hc ((ky_inj hq hp).1 e2), q, e, hq, he, hv, rfl⟩
  · rw [if_neg h0]
    refine ⟨srt_putS h.srt _ _, hpur, fun y => ?_⟩
    rw [mem_put, h.mem]
    constructor
    · rintro (rfl | ⟨h1, q, e, hq, he, hv, rfl⟩)
      · exact ⟨p, d, hp, hd, by rw [upB_at]; exact h0, by rw [upB_at]⟩
      · have hc : ¬ (q = p ∧ e = d) := fun hc => h1 ((ky_inj hq hp).2 hc)
        exact ⟨q, e, hq, he, by rw [upB_off hc]; exact hv, by rw [upB_off hc]⟩
    · rintro ⟨q, e, hq, he, hv, rfl⟩
      by_cases hc : q = p ∧ e = d
      · obtain ⟨rfl, rfl⟩ := hc
        rw [upB_at]
        exact .inl rfl
      · rw [upB_off hc] at hv ⊢
        exact .inr ⟨fun e2 => hc ((ky_inj hq hp).1 e2), q, e, hq, he, hv, rfl⟩
end Go.Proofs.Ytafcianpajheiaa

/- bank: places, keys, the number at a key. -/
namespace Go.Proofs.Ytafcianpajheiaa
open Go.RowKit

/-- One cell behind the bytes of a row that a conversion of a string made (it bears a mark behind its last cell). -/
theorem run_append_mark {P : Program} (w : World) (t ty e : TypeId) (i : TypeInfo) (ht : P.underlying t = some (.slice e)) (hi : P.info? e = some i) (hz : i.zero = some (.int .u8 0)) (hsz : i.size = 1) (hby : i.bytes = 1)
    (g n cap : Nat) (cur : Array Value) (hg : w.heap[g]? = some (.cells cur e (cur.size, cur.size + 1))) (hcs : cur.size = cap) (hn : n ≤ cap) (hm : n < 100000) (y : Nat) (u : Value) (ha : w.cell? ⟨y, 0, none⟩ = some u) (h1 : u.oneCell' = true) :
    ∃ g' cap' w', (Builtin.append_ #[t, t] ty #[.slice (some ⟨g, 0, none⟩) n cap, .slice (some ⟨y, 0, none⟩) 1 1]).run P w = .ok (.slice (some ⟨g', 0, none⟩) (n + 1) cap') w' ∧ (g' = g ∨ g' = w.heap.size) ∧ g' < w'.heap.size ∧ (∀ j v, (cur.toList.take n ++ [u])[j]? = some v → w'.cell? ⟨g', j, none⟩ = some v) ∧ w.grownBy w' (some g) := by
  have hgl : g < w.heap.size := (Array.getElem?_eq_some_iff.1 hg).1
  have hnews : ∀ j v, ([u] : List Value)[j]? = some v → w.cell? ((⟨y, 0, none⟩ : Addr).add j) = some v := fun j v hj => by
    match j, hj with
    | 0, hj => simp at hj; subst hj; rw [add_cell]; exact ha
    | j + 1, hj => simp at hj
  have htl : (cur.toList.take n).length = n := by rw [List.length_take, Array.length_toList]; omega
  by_cases hroom : n + 1 ≤ cap
  · have hf := run_firstCells_some (P := P) w i.size 1 ⟨y, 0, none⟩ 1 1 [u] (by rw [hsz]; rfl) hnews
    have hnc : n < cur.size := by omega
    have hcell : w.cell? ⟨g, n, none⟩ = some cur[n] := by simp [World.cell?, hg, hnc]
    have hfro : w.frozen? ⟨g, n, none⟩ = false := by simp [World.frozen?, hg]; omega
    have hst : (storeCells ⟨g, n, none⟩ [u] 0).run P w = .ok () (w.setRow g (cur.setIfInBounds n u)) := by
      have e0 : (⟨g, n, none⟩ : Addr).add 0 = ⟨g, n, none⟩ := add_cell 0
      simp only [storeCells, Sem.run_bind, e0]
      rw [run_store P w _ u _ h1, hcell]
      simp [hfro, setCell_eq_setRow w g n cur e _ u hg]
    refine ⟨g, cap, w.setRow g (cur.setIfInBounds n u), ?_, .inl rfl, by simpa [World.setRow] using hgl, fun j v hj => ?_, ⟨rfl, rfl, rfl, by simp [World.setRow], fun k _ hk => setRow_other w g k _ (fun e => hk (by simp [e]))⟩⟩
    · simp only [hsz] at hf
      simp [Builtin.append_, run_underlying ht, sizeOf, typeInfo, hi, hsz, Builtin.lenOf, hroom, hf, Addr.add_lit, hst]
    · rw [cell_of_row _ g j _ e _ (setRow_heap w g cur _ e _ hg), Array.getElem?_setIfInBounds]
      by_cases hj2 : j < n
      · rw [if_neg (by omega)]
        rw [List.getElem?_append_left (by omega), List.getElem?_take_of_lt hj2] at hj
        simpa using hj
      · rw [List.getElem?_append_right (by omega), htl] at hj
        have : j = n := by
          have := (List.getElem?_eq_some_iff.1 hj).1
          simp at this; omega
        subst this
        simp at hj
        subst hj
        rw [if_pos rfl, if_pos hnc]
  · have hold : ∀ j v, (cur.toList.take n)[j]? = some v → w.cell? ((⟨g, 0, none⟩ : Addr).add j) = some v := fun j v hj => by
      have hadd : (⟨g, 0, none⟩ : Addr).add j = ⟨g, j, none⟩ := by unfold Addr.add; split <;> simp_all
      rw [hadd, cell_of_row w g j cur e _ hg]
      rw [List.getElem?_take] at hj
      split at hj
      · simpa using hj
      · cases hj
    have hr := run_append_grow (P := P) w t ty e i _ ht hi hz ⟨g, 0, none⟩ n cap (cur.toList.take n) (by rw [htl, hsz]; omega) hold ⟨y, 0, none⟩ 1 1 [u] (by rw [hsz]; rfl) hnews (by omega) (by omega) (growslice_fits (by omega) (by rw [hby]; omega))
    refine ⟨_, _, _, hr, .inr rfl, by simp, fun j v hj => ?_, ⟨rfl, rfl, rfl, by simp, fun k hk _ => heap_alloc_old w.drew _ hk⟩⟩
    rw [cell_of_row _ w.heap.size j _ e _ (heap_alloc_new w.drew _)]
    rw [Array.getElem?_append_left (by
      have := (List.getElem?_eq_some_iff.1 hj).1
      simpa using this)]
    simpa using hj
theorem wpList_append_mark {P : Program} {w : World} {ops : Array Oper} {rest : List Oper} {o : Oper} {a : Act} {Q : Exit → Act → World → Prop} (hgd : o.guard = none) (s x : Operand) (t : TypeId)
    (ho : o.op = .call { callee := .builtin .append, args := #[s, x], argTypes := #[t, t] })
    (e : TypeId) (i : TypeInfo) (ht : P.underlying t = some (.slice e)) (hi : P.info? e = some i) (hz : i.zero = some (.int .u8 0)) (hsz : i.size = 1) (hby : i.bytes = 1)
    (g n cap : Nat) (cur : Array Value) (hs : a.eval s = .slice (some ⟨g, 0, none⟩) n cap) (hg : w.heap[g]? = some (.cells cur e (cur.size, cur.size + 1))) (hcs : cur.size = cap) (hn : n ≤ cap) (hm : n < 100000) (y : Nat) (u : Value) (hx : a.eval x = .slice (some ⟨y, 0, none⟩) 1 1) (ha : w.cell? ⟨y, 0, none⟩ = some u) (h1 : u.oneCell' = true)
    (h : ∀ g' cap' w', (g' = g ∨ g' = w.heap.size) → g' < w'.heap.size → (∀ j v, (cur.toList.take n ++ [u])[j]? = some v → w'.cell? ⟨g', j, none⟩ = some v) → w.grownBy w' (some g) → wpList P ops Q rest (a.put o.dst (.slice (some ⟨g', 0, none⟩) (n + 1) cap')) w') : wpList P ops Q (o :: rest) a w :=
  wpList_plain hgd fun _ hK => by
    obtain ⟨g', cap', w', hr, h2, h3, h4, h5⟩ := run_append_mark (P := P) w t o.type e i ht hi hz hsz hby g n cap cur hg hcs hn hm y u ha h1
    unfold Oper.wp execOp
    simp only [ho, resolve, invoke, builtin, Sem.run_bind, Sem.run_pure, Result.andThen_ok, List.map_toArray, List.map_cons, List.map_nil, hs, hx, hr]
    exact hK _ _ (h g' cap' w' h2 h3 h4 h5)

/-- A string's bytes. -/
def StrIs (s : ByteArray) (p : List Int) : Prop := s.data.toList = Lib.bytesOf p
theorem StrIs.size {s : ByteArray} {p : List Int} (h : StrIs s p) : s.size = p.length := by
  have : s.data.toList.length = p.length := by rw [h]; simp [Lib.bytesOf]
  rw [Array.length_toList] at this
  exact this
theorem strIs_all : StrIs ⟨#[98, 97, 110, 107, 46, 97, 108, 108, 46]⟩ (plc 256) := by
  unfold StrIs plc allK; rw [if_neg (by omega)]; decide
/-- The bytes of a string as a slice. -/
theorem cv_str {s : ByteArray} {p : List Int} (h : StrIs s p) (hp : Byte p) (w : World) : ∃ cap cur, (convert 9 77 (.string s)).run Try.prog w = .ok (.slice (some ⟨w.heap.size, 0, none⟩) p.length cap) (w.drew.alloc (.cells cur 5 (cur.size, cur.size + 1))) ∧ cur.size = cap ∧ p.length ≤ cap ∧ cur.toList.take p.length = encB p := by
  have h1 := run_bytes_of_string (P := Try.prog) w 9 77 5 s Try.underlying9 Try.underlying77 Try.underlying5
  have hs := h.size
  have hge := grownCap_ge w s.size 0 5
  have hsz : s.data.size = s.size := rfl
  refine ⟨grownCap w s.size 0 5, bytesRow s (grownCap w s.size 0 5), by rw [h1, hs], ?_, by omega, ?_⟩
  · unfold bytesRow
    simp only [Array.size_append, Array.size_map, Array.size_replicate, hsz]
    omega
  · unfold bytesRow
    rw [Array.toList_append, List.take_append_of_le_length (by simp [hsz]; omega), List.take_of_length_le (by simp [hsz]; omega)]
    rw [Array.toList_map, h]
    unfold Lib.bytesOf encB
    rw [List.map_map]
    refine List.map_congr_left fun x hx => ?_
    have := hp x hx
    simp only [Function.comp, UInt8.toNat_ofNat']
    congr 1
    omega
theorem isb_src {W : World} {v : Value} {p : List Int} (h : IsBytes W v p) (hp : p ≠ []) : Src W v p := by
  rcases h with ⟨rfl, -⟩ | ⟨blk, off, cap, e, -, -, hc⟩
  · exact absurd rfl hp
  · exact .inr ⟨_, _, e, fun i x hi => by rw [add_cell]; exact hc i x hi⟩
theorem ky_ne (p d : Nat) : ky p d ≠ [] := by unfold ky; simp
section
variable {W : World} {s base : Nat} {A : Nat → Prop} {L : List (List Int × List Int)} {ds : List (List (List Int × List Int))} {n : Nat} {b : Nat → Nat → Cn}
end
end Go.Proofs.Ytafcianpajheiaa

/- Right coins as a purse: plain facts. -/
namespace Go.Proofs.Ytafcianpajheiaa
open Go.RowKit

/-- The list of a purse from one place on. -/
def lf (z : Nat → Cn) : Nat → Nat → List Cn
  | 0, _ => []
  | k + 1, m => oneL (z m) ++ lf z k (m + 1)
theorem lf_lst (z : Nat → Cn) : ∀ k m, lst z (m + k) = lst z m ++ lf z k m
  | 0, m => by simp [lf]
  | k + 1, m => by
    have e : m + (k + 1) = (m + 1) + k := by omega
    rw [e, lf_lst z k (m + 1)]
    simp [lst, lf]
theorem lf_congr {z y : Nat → Cn} : ∀ k m, (∀ d, m ≤ d → z d = y d) → lf z k m = lf y k m
  | 0, _, _ => rfl
  | k + 1, m, h => by
    simp only [lf]
    rw [h m (Nat.le_refl _), lf_congr k (m + 1) (fun d hd => h d (by omega))]
theorem amt_cons_ne {x : Cn} {l : List Cn} {d : Int} (h : x.d ≠ d) : amt (x :: l) d = amt l d := by
  unfold amt
  rw [List.find?_cons_of_neg (by simpa using h)]
theorem amt_cons_eq {x : Cn} {l : List Cn} : amt (x :: l) x.d = x := by
  unfold amt
  rw [List.find?_cons_of_pos (by simp)]
  rfl
theorem right_cons {m : Int} {x : Cn} {l : List Cn} (h : rightFrom m (x :: l) = true) : m ≤ x.d ∧ x.d < 8 ∧ eq4 x.a x.b x.c x.e 0 0 0 0 = false ∧ rightFrom (x.d + 1) l = true := by
  unfold rightFrom at h
  split at h
  · cases h
  · split at h
    · cases h
    · split at h
      · cases h
      · rename_i h1 h2 h3
        exact ⟨by omega, by omega, by simpa using h3, h⟩
theorem right_up : ∀ {m k : Int} {l : List Cn}, rightFrom m l = true → (∀ x, l.head? = some x → k ≤ x.d) → rightFrom k l = true
  | _, _, [], _, _ => rfl
  | m, k, x :: l, h, hk => by
    obtain ⟨h1, h2, h3, h4⟩ := right_cons h
    have := hk x rfl
    unfold rightFrom
    rw [if_neg (by omega), if_neg (by omega), h3]
    simpa using h4
theorem amt_low : ∀ {m : Int} {l : List Cn} {d : Int}, rightFrom m l = true → d < m → amt l d = ⟨d, 0, 0, 0, 0⟩
  | _, [], _, _, _ => rfl
  | m, x :: l, d, h, hd => by
    obtain ⟨h1, h2, h3, h4⟩ := right_cons h
    rw [amt_cons_ne (by omega)]
    exact amt_low h4 (by omega)
theorem lf_amt : ∀ (k m : Nat) (l : List Cn), rightFrom (m : Int) l = true → m + k = 8 → lf (fun d => amt l d) k m = l
  | 0, m, [], _, _ => rfl
  | 0, m, x :: l, h, hm => by
    obtain ⟨h1, h2, -, -⟩ := right_cons h
    omega
  | k + 1, m, [], _, hm => by
    simp only [lf]
    have ih := lf_amt k (m + 1) [] rfl (by omega)
    rw [ih]
    simp [amt, oneL, eq4]
  | k + 1, m, x :: l, h, hm => by
    obtain ⟨h1, h2, h3, h4⟩ := right_cons h
    simp only [lf]
    by_cases e : x.d = (m : Int)
    · have e2 : amt (x :: l) (m : Int) = x := by rw [← e]; exact amt_cons_eq
      rw [e2, lf_congr (y := fun d => amt l d) k (m + 1) (fun d hd => amt_cons_ne (by omega))]
      have h4' : rightFrom ((m + 1 : Nat) : Int) l = true := by
        have e3 : ((m + 1 : Nat) : Int) = x.d + 1 := by omega
        rw [e3]; exact h4
      rw [lf_amt k (m + 1) l h4' (by omega)]
      unfold oneL
      rw [h3]
      rfl
    · have e2 : amt (x :: l) (m : Int) = ⟨(m : Int), 0, 0, 0, 0⟩ := by
        rw [amt_cons_ne e]
        exact amt_low h4 (by omega)
      have h5 : rightFrom ((m + 1 : Nat) : Int) (x :: l) = true := right_up h (fun y hy => by injection hy with hy; subst hy; omega)
      rw [e2, lf_amt k (m + 1) (x :: l) h5 (by omega)]
      simp [oneL, eq4]
/-- Coins that may be are the list of a purse. -/
theorem right_lst {l : List Cn} (h : rightFrom 0 l = true) : lst (fun d => amt l d) 8 = l := by
  have := lf_lst (fun d => amt l d) 8 0
  rw [Nat.zero_add] at this
  rw [this, lf_amt 8 0 l h rfl]
  rfl
theorem amt_d (l : List Cn) (d : Int) : (amt l d).d = d := by
  unfold amt
  cases hf : l.find? (fun x => x.d == d) with
  | none => rfl
  | some x => simpa using List.find?_some hf
theorem purse_amt {l : List Cn} (hwf : ∀ x ∈ l, CnWf x) : Purse (fun d => amt l d) := fun d _ => ⟨lim_amt (fun x hx => (hwf x hx).2) d, amt_d l d⟩

end Go.Proofs.Ytafcianpajheiaa


/- codec's reader: what it has, and its first calls. -/
namespace Go.Proofs.Ytafcianpajheiaa
open Go.RowKit

/-- A reader in block b, of bytes in block D: those that are left, or none (it has a fault). -/
def RdAt (W : World) (b : Nat) (D : Option Nat) : Option (List Int) → Prop
  | none => W.heap[b]? = some (.cells #[.slice none 0 0, .bool true] 114 (0, 0))
  | some p => ∃ v, W.heap[b]? = some (.cells #[v, .bool false] 114 (0, 0)) ∧ Byt W D v p
theorem RdAt.blk {W : World} {b : Nat} {D : Option Nat} {s : Option (List Int)} (h : RdAt W b D s) : ∃ v, W.heap[b]? = some (.cells #[v, .bool s.isNone] 114 (0, 0)) := by
  cases s with
  | none => exact ⟨_, h⟩
  | some p => obtain ⟨v, h, _⟩ := h; exact ⟨v, h⟩
theorem RdAt.lt {W : World} {b : Nat} {D : Option Nat} {s : Option (List Int)} (h : RdAt W b D s) : b < W.heap.size := by
  obtain ⟨v, h⟩ := h.blk; exact (Array.getElem?_eq_some_iff.1 h).1
theorem RdAt.kept {W W' : World} {b : Nat} {D : Option Nat} {s : Option (List Int)} {r : Option Nat} (h : RdAt W b D s) (hg : W.grownBy W' r) (h1 : some b ≠ r) (h2 : D = none ∨ D ≠ r) : RdAt W' b D s := by
  have hl := h.lt
  cases s with
  | none => exact (hg.block b hl h1).trans h
  | some p => obtain ⟨v, h, k⟩ := h; exact ⟨v, (hg.block b hl h1).trans h, k.kept hg h2⟩

set_option maxHeartbeats 1000000 in
theorem rBad_any {W : World} {b : Nat} {D : Option Nat} {s : Option (List Int)} (h : RdAt W b D s) :
    Calls Try.prog 62 #[.pointer (some ⟨b, 0, none⟩)] W fun e w' => e = .returned (.bool s.isNone) ∧ w' = W := by
  obtain ⟨v, h⟩ := h.blk
  obtain ⟨c, f⟩ := cells_of_block h
  go_enter Try.func62, Try.ntmps62
  go_wp2
  go_ret
  exact ⟨rfl, rfl⟩
def leftS : Option (List Int) → Int
  | none => 0
  | some p => p.length
set_option maxHeartbeats 1000000 in
theorem rLeft_any {W : World} {b : Nat} {D : Option Nat} {s : Option (List Int)} (h : RdAt W b D s) :
    Calls Try.prog 63 #[.pointer (some ⟨b, 0, none⟩)] W fun e w' => e = .returned (.int .i64 (leftS s)) ∧ w' = W := by
  cases s with
  | none =>
    go_enter Try.func63, Try.ntmps63
    go_wp2_with (go_at_call 62; refine (rBad_any h).mono ?_; rintro e w' ⟨rfl, rfl⟩)
    go_ret
    exact ⟨rfl, rfl⟩
  | some p =>
    have h' := h
    obtain ⟨v, h, a, cap, rfl, -⟩ := h
    obtain ⟨c, f⟩ := cells_of_block h
    go_enter Try.func63, Try.ntmps63
    go_wp2_with (go_at_call 62; refine (rBad_any h').mono ?_; rintro e w' ⟨rfl, rfl⟩)
    go_ret
    exact ⟨rfl, rfl⟩
def endS : Option (List Int) → Bool
  | some [] => true
  | _ => false
set_option maxHeartbeats 1000000 in
theorem rEnd_any {W : World} {b : Nat} {D : Option Nat} {s : Option (List Int)} (h : RdAt W b D s) :
    Calls Try.prog 43 #[.pointer (some ⟨b, 0, none⟩)] W fun e w' => e = .returned (.bool (endS s)) ∧ w' = W := by
  obtain ⟨bb, hbb⟩ : ∃ bb, s.isNone = bb := ⟨_, rfl⟩
  obtain ⟨n, hn⟩ : ∃ n, leftS s = n := ⟨_, rfl⟩
  have h1 := rBad_any h
  have h2 := rLeft_any h
  rw [hbb] at h1
  rw [hn] at h2
  have hv : endS s = (!bb && (n == 0)) := by
    subst hbb hn
    match s with
    | none => rfl
    | some [] => rfl
    | some (x :: p) => exact (show false = (!false && ((((x :: p).length : Nat) : Int) == 0)) by rw [Bool.not_false, Bool.true_and]; symm; rw [beq_eq_false_iff_ne, List.length_cons]; omega)
  rw [hv]
  clear hv hbb hn
  cases bb
  all_goals
    go_enter Try.func43, Try.ntmps43
    go_wp2_with (first | (go_at_call 62; refine h1.mono ?_; rintro e w' ⟨rfl, rfl⟩) | (go_at_call 63; refine h2.mono ?_; rintro e w' ⟨rfl, rfl⟩))
    go_ret
    exact ⟨by simp, rfl⟩
set_option maxHeartbeats 1000000 in
theorem rFail_any {W : World} {b : Nat} {D : Option Nat} {s : Option (List Int)} (h : RdAt W b D s) :
    Calls Try.prog 66 #[.pointer (some ⟨b, 0, none⟩)] W fun e w' => e = .returned (.tuple #[]) ∧ RdAt w' b D none ∧ W.grownBy w' (some b) := by
  obtain ⟨v, h⟩ := h.blk
  obtain ⟨c, f⟩ := cells_of_block h
  go_enter Try.func66, Try.ntmps66
  go_wp2
  refine bodyPost_end (v := .tuple #[]) (by simp [results, Try.results66]) rfl ⟨rfl, ?_, grown_se (grown_se (grown_ref _ _) _ _) _ _⟩
  show _ = _
  rw [block_set _ (block_set _ h)]; rfl
end Go.Proofs.Ytafcianpajheiaa

/- codec's reader: bytes and numbers. -/
namespace Go.Proofs.Ytafcianpajheiaa
open Go.RowKit

def takeS (s : Option (List Int)) (n : Nat) : List Int × Option (List Int) := match s with
  | none => ([], none)
  | some p => if n ≤ p.length then (p.take n, some (p.drop n)) else ([], none)
theorem byt_nil (W : World) (D : Option Nat) : Byt W D (.slice none 0 0) [] := ⟨none, 0, rfl, Nat.le_refl _, by simp, by simp, .inl rfl⟩

theorem Byt.take {W : World} {D : Option Nat} {n cap : Nat} {a : Option Addr} {p : List Int} (h : Byt W D (.slice a p.length cap) p) (hn : n ≤ p.length) : Byt W D (.slice a n n) (p.take n) := by
  obtain ⟨a', cap', e, h1, h2, h3, h4⟩ := h
  simp at e
  obtain ⟨rfl, rfl⟩ := e
  have hl : (p.take n).length = n := by simp; omega
  refine ⟨a, n, by rw [hl], by rw [hl]; exact Nat.le_refl _, by rw [hl]; omega, fun x hx => h3 x (List.mem_of_mem_take hx), ?_⟩
  rcases h4 with rfl | ⟨d, off, hd, rfl, h5, h6⟩
  · left; simp
  · refine .inr ⟨d, off, hd, rfl, h5, fun i x hi => h6 i x ?_⟩
    have : i < n := by have := (List.getElem?_eq_some_iff.1 hi).1; omega
    rwa [List.getElem?_take_of_lt this] at hi
theorem Byt.drop {W : World} {D : Option Nat} {n cap : Nat} {a : Option Addr} {p : List Int} (h : Byt W D (.slice a p.length cap) p) (hn : n ≤ p.length) : Byt W D (.slice (Option.map (fun x => x.add n) a) (p.length - n) (cap - n)) (p.drop n) := by
  obtain ⟨a', cap', e, h1, h2, h3, h4⟩ := h
  simp at e
  obtain ⟨rfl, rfl⟩ := e
  refine ⟨_, _, by rw [List.length_drop], by simp; omega, by simp; omega, fun x hx => h3 x (List.mem_of_mem_drop hx), ?_⟩
  rcases h4 with rfl | ⟨d, off, hd, rfl, h5, h6⟩
  · left; simp
  · refine .inr ⟨d, off + n, hd, ?_, h5, fun i x hi => ?_⟩
    · simp only [Option.map_some, Option.some.injEq]
      unfold Addr.add; split
      · subst_vars; rfl
      · rfl
    · rw [List.getElem?_drop] at hi
      rw [← h6 _ x hi]; congr 2; omega
theorem Byt.drop0 {W : World} {D : Option Nat} {n : Nat} {a : Option Addr} {p : List Int} (h : Byt W D (.slice a p.length n) p) (hn : n ≤ p.length) : Byt W D (.slice a (p.length - n) 0) (p.drop n) := by
  obtain ⟨a', cap', e, h1, h2, h3, h4⟩ := h
  simp at e
  obtain ⟨rfl, rfl⟩ := e
  have e : p.drop n = [] := by rw [List.drop_eq_nil_iff]; exact h1
  rw [e, show p.length - n = 0 by omega]
  exact ⟨a, 0, rfl, Nat.le_refl _, by simp, by simp, .inl rfl⟩
theorem grown_set0 (W : World) (b : Nat) (v : Value) : W.grownBy (W.setCell ⟨b, 0, none⟩ v) (some b) := grown_se (grown_ref _ _) _ _

set_option maxHeartbeats 2000000 in
theorem rTake_any {W : World} {b : Nat} {D : Option Nat} {s : Option (List Int)} (n : Nat) (hn : n ≤ 1048576) (hD : D ≠ some b) (h : RdAt W b D s) :
    Calls Try.prog 65 #[.pointer (some ⟨b, 0, none⟩), .int .i64 (n : Int)] W fun e w' => ∃ u, e = .returned u ∧ Byt w' D u (takeS s n).1 ∧ RdAt w' b D (takeS s n).2 ∧ W.grownBy w' (some b) := by
  cases s with
  | none =>
    go_enter Try.func65, Try.ntmps65
    go_wp2_with (go_at_call 62; refine (rBad_any h).mono ?_; rintro e w' ⟨rfl, rfl⟩)
    go_ret
    exact ⟨_, rfl, byt_nil _ _, h, grown_ref _ _⟩
  | some p =>
    have h' := h
    obtain ⟨v, h, a, cap, rfl, h1, h2, h3, h4⟩ := h
    obtain ⟨c, f⟩ := cells_of_block h
    by_cases hl : n ≤ p.length
    · have hl1 : ¬ (p.length : Int) < (n : Int) := by omega
      have hl2 : (n : Int) ≤ (p.length : Int) := by omega
      have hl3 : (n : Int) ≤ (cap : Int) := by omega
      have hB : Byt W D (.slice a p.length cap) p := ⟨a, cap, rfl, h1, h2, h3, h4⟩
      rw [takeS, if_pos hl]
      by_cases hcn : cap = n
      · subst hcn
        have hg := grown_set0 W b (.slice a (p.length - cap) 0)
        have hfin : Byt (W.setCell ⟨b, 0, none⟩ (.slice a (p.length - cap) 0)) D (.slice a cap cap) (p.take cap) ∧ RdAt (W.setCell ⟨b, 0, none⟩ (.slice a (p.length - cap) 0)) b D (some (p.drop cap)) :=
          ⟨(hB.take hl).kept hg (.inr hD), _, by rw [block_set _ h]; rfl, (hB.drop0 hl).kept hg (.inr hD)⟩
        rw [show p.length - cap = 0 by omega] at hfin hg
        clear h4 hB
        go_enter Try.func65, Try.ntmps65
        go_wp2_with (go_at_call 62; refine (rBad_any h').mono ?_; rintro e w' ⟨rfl, rfl⟩)
        go_ret
        exact ⟨_, rfl, hfin.1, hfin.2, hg⟩
      · have hg := grown_set0 W b (.slice (Option.map (fun x => x.add n) a) (p.length - n) (cap - n))
        have hfin : Byt (W.setCell ⟨b, 0, none⟩ (.slice (Option.map (fun x => x.add n) a) (p.length - n) (cap - n))) D (.slice a n n) (p.take n) ∧ RdAt (W.setCell ⟨b, 0, none⟩ (.slice (Option.map (fun x => x.add n) a) (p.length - n) (cap - n))) b D (some (p.drop n)) :=
          ⟨(hB.take hl).kept hg (.inr hD), _, by rw [block_set _ h]; rfl, (hB.drop hl).kept hg (.inr hD)⟩
        clear h4 hB
        go_enter Try.func65, Try.ntmps65
        go_wp2_with (go_at_call 62; refine (rBad_any h').mono ?_; rintro e w' ⟨rfl, rfl⟩)
        go_ret
        exact ⟨_, rfl, hfin.1, hfin.2, hg⟩
    · have hl1 : (p.length : Int) < (n : Int) := by omega
      go_enter Try.func65, Try.ntmps65
      go_wp2_with (first | (go_at_call 62; refine (rBad_any h').mono ?_; rintro e w' ⟨rfl, rfl⟩) | (go_at_call 66; refine (rFail_any h').mono ?_; rintro e w1 ⟨rfl, hr, hg⟩))
      go_ret
      rw [takeS, if_neg hl]
      exact ⟨_, rfl, byt_nil _ _, hr, hg⟩

theorem takeS_len (s : Option (List Int)) (n : Nat) : (takeS s n).1.length ≤ n := by
  unfold takeS; split
  · simp
  · split
    · simp; omega
    · simp
theorem p256_le {a b : Nat} (h : a ≤ b) : (256 : Int) ^ a ≤ 256 ^ b := by
  obtain ⟨d, rfl⟩ := Nat.exists_eq_add_of_le h
  rw [Int.pow_add]
  have h1 : (0 : Int) < 256 ^ a := Int.pow_pos (by decide)
  have h2 : (0 : Int) < 256 ^ d := Int.pow_pos (by decide)
  have := Int.mul_le_mul_of_nonneg_left (show (1 : Int) ≤ 256 ^ d by omega) (Int.le_of_lt h1)
  omega
theorem rd_lim8 {q : List Int} (hl : q.length ≤ 8) (hb : ∀ x ∈ q, 0 ≤ x ∧ x ≤ 255) : 0 ≤ rd q ∧ rd q < 18446744073709551616 := by
  have h := rd_nonneg q.length q rfl hb
  have h2 := p256_le hl
  have h3 : (256 : Int) ^ 8 = 18446744073709551616 := by decide
  exact ⟨h.1, by omega⟩

set_option maxHeartbeats 4000000 in
theorem rNumber_any {W : World} {b : Nat} {D : Option Nat} {s : Option (List Int)} (n : Nat) (hn : n ≤ 8) (hD : D ≠ some b) (h : RdAt W b D s) :
    Calls Try.prog 78 #[.pointer (some ⟨b, 0, none⟩), .int .i64 (n : Int)] W fun e w' => e = .returned (.int .u64 (rd (takeS s n).1)) ∧ RdAt w' b D (takeS s n).2 ∧ W.grownBy w' (some b) := by
  have hl := takeS_len s n
  have hT := rTake_any n (by omega) hD h
  generalize (takeS s n).1 = q at *
  generalize (takeS s n).2 = s' at *
  go_enter Try.func78, Try.ntmps78
  go_wp2_with (go_at_call 65; refine hT.mono ?_; rintro e w1 ⟨u, rfl, hB, hr, hg⟩; obtain ⟨a, cap, rfl, h1, h2, h3, h4⟩ := hB)
  have hq8 : (q.length : Int) ≤ 8 := by omega
  go_loop [5, 12] (fun v i => ∃ k : Nat, k ≤ q.length ∧ i = .int .i64 k ∧ v = .int .u64 (rd (q.take k))) (fun _ i => q.length - (intOf i).toNat)
  case atStart => exact ⟨0, by omega, rfl, rfl⟩
  case round =>
    obtain ⟨k, hk, rfl, rfl⟩ := hrel
    by_cases hlt : k < q.length
    · obtain ⟨d, off, hd', rfl, h5, h6⟩ := h4.resolve_left (fun e => by subst e; simp at hlt)
      have hc := h6 k q[k] (by simp [hlt])
      have hx := h3 q[k] (List.getElem_mem hlt)
      have hR := rd_nonneg (q.take k).length (q.take k) rfl (fun x hx => h3 x (List.mem_of_mem_take hx))
      have hR2 : rd (q.take k) < 72057594037927936 := by
        have h2 := p256_le (a := (q.take k).length) (b := 7) (by simp; omega)
        have h3 : (256 : Int) ^ 7 = 72057594037927936 := by decide
        omega
      have hnx : rd (q.take (k + 1)) = rd (q.take k) * 256 + q[k] := by rw [List.take_succ_eq_append_getElem hlt, rd_snoc]
      have hlt' : (k : Int) < (q.length : Int) := by omega
      have hR1 := hR.1
      clear hR h6 h3 h4
      generalize rd (q.take k) = R at *
      generalize hxx : q[k] = x at *
      have hor : bits .or .u64 (R * 256) x = R * 256 + x := by
        have := or_byte (a := R * 256) (b := x) (s := 0) (by omega) (by omega) (by show R * 256 % 256 = 0; omega) hx
        simpa using this
      have hw : IntKind.u64.wrap (R * 256) = R * 256 := by rw [IntKind.wrap_u64]; omega
      have hw2 : IntKind.u64.wrap (R * 256 + x) = R * 256 + x := by rw [IntKind.wrap_u64]; omega
      go_wp2
      all_goals go_round
      case rel => exact ⟨k + 1, by omega, by go_num, by rw [hnx]⟩
      case measure => (simp [intOf]; omega)
    · have e : k = q.length := by omega
      subst e
      go_wp2
      go_ret
      exact ⟨rfl, hr, hg⟩

def Rng (s : Option (List Int)) : Prop := ∀ p, s = some p → ∀ x ∈ p, 0 ≤ x ∧ x ≤ 255
theorem RdAt.rng {W : World} {b : Nat} {D : Option Nat} {s : Option (List Int)} (h : RdAt W b D s) : Rng s := by
  rintro p rfl x hx
  obtain ⟨v, -, a, cap, -, -, -, h3, -⟩ := h
  exact h3 x hx
theorem takeS_rng {s : Option (List Int)} (h : Rng s) (n : Nat) : ∀ x ∈ (takeS s n).1, 0 ≤ x ∧ x ≤ 255 := by
  unfold takeS; split
  · simp
  · rename_i p; split
    · exact fun x hx => h p rfl x (List.mem_of_mem_take hx)
    · simp
theorem takeS_lim {s : Option (List Int)} (h : Rng s) (n : Nat) : 0 ≤ rd (takeS s n).1 ∧ rd (takeS s n).1 < 256 ^ n := by
  have h1 := rd_nonneg _ _ rfl (takeS_rng h n)
  have h2 := p256_le (takeS_len s n)
  exact ⟨h1.1, by omega⟩
def byteS (s : Option (List Int)) : Int × Option (List Int) := (rd (takeS s 1).1, (takeS s 1).2)
theorem byteS_lim {s : Option (List Int)} (h : Rng s) : 0 ≤ (byteS s).1 ∧ (byteS s).1 ≤ 255 := by
  have := takeS_lim h 1
  have e : (256 : Int) ^ 1 = 256 := by decide
  exact ⟨this.1, by show rd _ ≤ 255; omega⟩
set_option maxHeartbeats 1000000 in
theorem rByte_any {W : World} {b : Nat} {D : Option Nat} {s : Option (List Int)} (hD : D ≠ some b) (h : RdAt W b D s) :
    Calls Try.prog 59 #[.pointer (some ⟨b, 0, none⟩)] W fun e w' => e = .returned (.int .u8 (byteS s).1) ∧ RdAt w' b D (byteS s).2 ∧ W.grownBy w' (some b) := by
  have hl := byteS_lim h.rng
  have hT : Calls Try.prog 78 #[.pointer (some ⟨b, 0, none⟩), .int .i64 1] W fun e w' => e = .returned (.int .u64 (byteS s).1) ∧ RdAt w' b D (byteS s).2 ∧ W.grownBy w' (some b) := rNumber_any 1 (by omega) hD h
  generalize (byteS s).1 = x at *
  generalize (byteS s).2 = s' at *
  have hw : IntKind.u8.wrap x = x := by rw [IntKind.wrap_u8]; omega
  go_enter Try.func59, Try.ntmps59
  go_wp2_with (go_at_call 78; refine hT.mono ?_; rintro e w1 ⟨rfl, hr, hg⟩)
  go_ret
  exact ⟨rfl, hr, hg⟩
def numS (s : Option (List Int)) (n : Nat) : Int × Option (List Int) := (rd (takeS s n).1, (takeS s n).2)
set_option maxHeartbeats 1000000 in
theorem rShort_any {W : World} {b : Nat} {D : Option Nat} {s : Option (List Int)} (hD : D ≠ some b) (h : RdAt W b D s) :
    Calls Try.prog 60 #[.pointer (some ⟨b, 0, none⟩)] W fun e w' => e = .returned (.int .u16 (numS s 2).1) ∧ RdAt w' b D (numS s 2).2 ∧ W.grownBy w' (some b) := by
  have hl : 0 ≤ (numS s 2).1 ∧ (numS s 2).1 < 256 ^ 2 := takeS_lim h.rng 2
  rw [show (256 : Int) ^ 2 = 65536 by decide] at hl
  have hT : Calls Try.prog 78 #[.pointer (some ⟨b, 0, none⟩), .int .i64 2] W fun e w' => e = .returned (.int .u64 (numS s 2).1) ∧ RdAt w' b D (numS s 2).2 ∧ W.grownBy w' (some b) := rNumber_any 2 (by omega) hD h
  generalize (numS s 2).1 = x at *
  generalize (numS s 2).2 = s' at *
  have hw : IntKind.u16.wrap x = x := by rw [IntKind.wrap_u16]; omega
  go_enter Try.func60, Try.ntmps60
  go_wp2_with (go_at_call 78; refine hT.mono ?_; rintro e w1 ⟨rfl, hr, hg⟩)
  go_ret
  exact ⟨rfl, hr, hg⟩
def flagS (s : Option (List Int)) : Bool × Option (List Int) := if 1 < (byteS s).1 then (false, none) else ((byteS s).1 == 1, (byteS s).2)
set_option maxHeartbeats 1000000 in
theorem rFlag_any {W : World} {b : Nat} {D : Option Nat} {s : Option (List Int)} (hD : D ≠ some b) (h : RdAt W b D s) :
    Calls Try.prog 61 #[.pointer (some ⟨b, 0, none⟩)] W fun e w' => e = .returned (.bool (flagS s).1) ∧ RdAt w' b D (flagS s).2 ∧ W.grownBy w' (some b) := by
  have hl := byteS_lim h.rng
  have hT := rByte_any hD h
  unfold flagS
  generalize (byteS s).1 = x at *
  generalize (byteS s).2 = s' at *
  by_cases h1 : 1 < x
  · rw [if_pos h1]
    have hx1 : (x == 1) = false := by rw [beq_eq_false_iff_ne]; omega
    go_enter Try.func61, Try.ntmps61
    go_wp2_with (first | (go_at_call 59; refine hT.mono ?_; rintro e w1 ⟨rfl, hr, hg⟩) | (go_at_call 66; refine (rFail_any hr).mono ?_; rintro e w2 ⟨rfl, hr2, hg2⟩))
    go_ret
    exact ⟨by simp, hr2, grown_tr hg hg2⟩
  · rw [if_neg h1]
    go_enter Try.func61, Try.ntmps61
    go_wp2_with (first | (go_at_call 59; refine hT.mono ?_; rintro e w1 ⟨rfl, hr, hg⟩))
    go_ret
    exact ⟨by simp, hr, hg⟩
end Go.Proofs.Ytafcianpajheiaa


/- The reference's reader: bytes and numbers. -/
namespace Go.Proofs.Ytafcianpajheiaa
open Go.RowKit

theorem byteS_cons {p : List Int} {k : Nat} (h : k < p.length) : byteS (some (p.drop k)) = (p[k], some (p.drop (k + 1))) := by
  have e : p.drop k = p[k] :: p.drop (k + 1) := List.drop_eq_getElem_cons h
  unfold byteS takeS
  simp only [List.length_drop]
  rw [if_pos (by omega)]
  have e1 : (p.drop k).take 1 = [p[k]] := by rw [e]; rfl
  have e2 : (p.drop k).drop 1 = p.drop (k + 1) := by rw [List.drop_drop]
  simp only [e1, e2]
  simp [rd]
theorem byteS_end {p : List Int} {k : Nat} (h : ¬ k < p.length) : byteS (some (p.drop k)) = (0, none) := by
  unfold byteS takeS
  simp only [List.length_drop]
  rw [if_neg (by omega)]
  rfl

theorem RdAt.dn {W : World} {b : Nat} {D : Option Nat} {s : Option (List Int)} (h : RdAt W b D s) (n : Nat) : RdAt (W.drewN n) b D s := h.kept (r := none) (grown_dn (grown_ref _ _) n) (by simp) (by cases D <;> simp)

end Go.Proofs.Ytafcianpajheiaa

/- The reference's reader: truths and long numbers. -/
namespace Go.Proofs.Ytafcianpajheiaa
open Go.RowKit

theorem byteS_none {s : Option (List Int)} (h : (byteS s).2 = none) : (byteS s).1 = 0 := by
  unfold byteS takeS at *
  match s with
  | none => rfl
  | some p =>
    simp only at *
    split at h
    · simp at h
    · rename_i hh; rw [if_neg hh]; rfl

theorem byteS_at {q : List Int} {i : Nat} (h : i < q.length) : byteS (some (q.drop i)) = (q[i], some (q.drop (i + 1))) := byteS_cons h
end Go.Proofs.Ytafcianpajheiaa

/- codec's reader: numbers of 256 bits. -/
namespace Go.Proofs.Ytafcianpajheiaa
open Go.RowKit

/-- Do bytes stand for a number, in the one way? -/
def goodB (q : List Int) : Bool := decide (q.length ≤ 32) && (q[0]? != some 0)
def nS (s : Option (List Int)) : Int × Option (List Int) :=
  if goodB (takeS (byteS s).2 (byteS s).1.toNat).1 then (rd (takeS (byteS s).2 (byteS s).1.toNat).1, (takeS (byteS s).2 (byteS s).1.toNat).2) else (0, none)
theorem goodB_t {q : List Int} (h : goodB q = true) (hr : ∀ x ∈ q, 0 ≤ x ∧ x ≤ 255) : Good q ∧ q.length ≤ 32 := by
  simp only [goodB, Bool.and_eq_true, decide_eq_true_eq, bne_iff_ne, ne_eq] at h
  refine ⟨⟨hr, fun x hx => ?_⟩, h.1⟩
  rw [List.head?_eq_getElem?] at hx
  have := hr x (List.mem_of_getElem? hx)
  have hne : x ≠ 0 := fun e => h.2 (by rw [hx, e])
  omega
theorem goodB_f {q : List Int} (h : goodB q = false) : 32 < q.length ∨ q[0]? = some 0 := by
  simp only [goodB, Bool.and_eq_false_iff, decide_eq_false_iff_not] at h
  rcases h with h | h
  · left; omega
  · right; simpa using h
theorem limbs_ofC {n : Int} (h0 : 0 ≤ n) (h1 : n < 115792089237316195423570985008687907853269984665640564039457584007913129639936) : ∃ z0 z1 z2 z3 : Int, Lim z0 z1 z2 z3 ∧ val z0 z1 z2 z3 = n :=
  ⟨n % 18446744073709551616, n / 18446744073709551616 % 18446744073709551616, n / 340282366920938463463374607431768211456 % 18446744073709551616, n / 6277101735386680763835789423207666416102355444464034512896, by unfold Lim; omega, by unfold val; omega⟩
theorem rd_limbs {q : List Int} (hr : ∀ x ∈ q, 0 ≤ x ∧ x ≤ 255) (hl : q.length ≤ 32) : ∃ z0 z1 z2 z3 : Int, Lim z0 z1 z2 z3 ∧ val z0 z1 z2 z3 = rd q := by
  have h1 := rd_nonneg q.length q rfl hr
  have h2 := p256_le hl
  have e : (256 : Int) ^ 32 = 115792089237316195423570985008687907853269984665640564039457584007913129639936 := by decide
  exact limbs_ofC h1.1 (by omega)
theorem takeS_rng2 {s : Option (List Int)} (h : Rng s) (n : Nat) : Rng (takeS s n).2 := by
  unfold takeS; split
  · intro p hp; simp at hp
  · rename_i p; split
    · intro p' hp' x hx; simp at hp'; subst hp'; exact h p rfl x (List.mem_of_mem_drop hx)
    · intro p hp; simp at hp

set_option maxRecDepth 10000 in
set_option maxHeartbeats 4000000 in
theorem rNum_any {W : World} {b : Nat} {D : Option Nat} {s : Option (List Int)} (hD : D ≠ some b) (hDl : ∀ d, D = some d → d < W.heap.size) (h : RdAt W b D s) :
    Calls Try.prog 44 #[.pointer (some ⟨b, 0, none⟩)] W fun e w' => ∃ z0 z1 z2 z3 : Int, e = .returned (.agg #[.int .u64 z0, .int .u64 z1, .int .u64 z2, .int .u64 z3]) ∧ Lim z0 z1 z2 z3 ∧ Hid (val z0 z1 z2 z3 = (nS s).1) ∧ RdAt w' b D (nS s).2 ∧ W.grownBy w' (some b) := by
  have hbl := h.lt
  have hDh : D = none ∨ D ≠ some W.heap.size := by
    cases hd : D with
    | none => exact .inl rfl
    | some d => right; intro e; have := hDl d hd; simp at e; omega
  have hR0 : RdAt (W.alloc (.cells #[.int .u64 0, .int .u64 0, .int .u64 0, .int .u64 0] 41)) b D s := h.kept (World.grownBy_alloc W _ none) (by simp) (by cases D <;> simp)
  have hT1 := rByte_any hD hR0
  have hlim := byteS_lim h.rng
  have hrg := takeS_rng2 h.rng 1
  have hrg : Rng (byteS s).2 := hrg
  obtain ⟨n, hn⟩ := Int.eq_ofNat_of_zero_le hlim.1
  unfold nS
  rw [hn] at hT1 hlim ⊢
  generalize (byteS s).2 = s1 at *
  rw [Int.toNat_natCast]
  have hq := takeS_rng hrg n
  have hT2 : ∀ (W' : World), RdAt W' b D s1 → _ := fun W' h' => rTake_any n (by omega) hD h'
  generalize (takeS s1 n).1 = q at *
  generalize (takeS s1 n).2 = s2 at *
  have hn255 : (n : Int) ≤ 255 := by omega
  have hb0 : b ≠ W.heap.size := by omega
  rcases Bool.eq_false_or_eq_true (goodB q) with hgd | hgd
  · rw [hgd, if_pos rfl]
    obtain ⟨hgood, hl32⟩ := goodB_t hgd hq
    obtain ⟨z0, z1, z2, z3, hz, hv⟩ := rd_limbs hq hl32
    have hv' : Hid _ := hv
    clear hv hgd hq hn hlim
    go_enter Try.func44, Try.ntmps44
    go_wp2_with (first
      | (go_at_call 59; refine hT1.mono ?_; rintro e w1 ⟨rfl, hr1, hg1⟩; have q1 := (hg1.block W.heap.size (by simp) (by simp; omega)).trans (al_at rfl); have l1 := hg1.size)
      | (go_at_call 65; refine (hT2 _ hr1).mono ?_; rintro e w2 ⟨u, rfl, hB2, hr2, hg2⟩; have q2 := (hg2.block W.heap.size (Array.getElem?_eq_some_iff.1 q1).1 (by simp; omega)).trans q1)
      | (go_at_call 64; refine (read_good hgood hl32 hz hv'.out _ hB2.is).mono ?_; rintro e w3 ⟨rfl, hb3⟩; have q3 := (hb3.block W.heap.size (Array.getElem?_eq_some_iff.1 q2).1).trans q2; have hr3 := hr2.kept (grown_none hb3) (by simp) (by cases D <;> simp); obtain ⟨c3, f3⟩ := cells_of_block q3; have l3 := (Array.getElem?_eq_some_iff.1 q3).1; have l3' : ¬ W.heap.size = w3.heap.size := (by omega)))
    have hG3 : W.grownBy w3 (some b) := grown_tr (grown_tr (grown_tr (World.grownBy_alloc W _ (some b)) hg1) hg2) (grown_up (grown_none hb3))
    have hk : w3.grownBy (((((w3.setCell ⟨W.heap.size, 0, none⟩ (.int .u64 z0)).setCell ⟨W.heap.size, 1, none⟩ (.int .u64 z1)).setCell ⟨W.heap.size, 2, none⟩ (.int .u64 z2)).setCell ⟨W.heap.size, 3, none⟩ (.int .u64 z3)).alloc (.cells #[.int .u64 z0, .int .u64 z1, .int .u64 z2, .int .u64 z3] 41)) (some W.heap.size) := grown_al (grown_se (grown_se (grown_se (grown_se (grown_ref _ _) _ _) _ _) _ _) _ _) _
    refine bodyPost_ret (v := .agg #[.int .u64 z0, .int .u64 z1, .int .u64 z2, .int .u64 z3]) (by simp only [results, Try.results44]; go_simp) rfl ⟨z0, z1, z2, z3, rfl, hz, hv', hr3.kept hk (by simp; omega) hDh, grown_new hG3 hk (Nat.le_refl _)⟩
  · rw [hgd]
    simp only [Bool.false_eq_true, if_false]
    have hbad := goodB_f hgd
    clear hgd hq hn hlim
    go_enter Try.func44, Try.ntmps44
    go_wp2_with (first
      | (go_at_call 59; refine hT1.mono ?_; rintro e w1 ⟨rfl, hr1, hg1⟩; have q1 := (hg1.block W.heap.size (by simp) (by simp; omega)).trans (al_at rfl); have l1 := hg1.size)
      | (go_at_call 65; refine (hT2 _ hr1).mono ?_; rintro e w2 ⟨u, rfl, hB2, hr2, hg2⟩; have q2 := (hg2.block W.heap.size (Array.getElem?_eq_some_iff.1 q1).1 (by simp; omega)).trans q1)
      | (go_at_call 64; refine (read_bad hbad _ hB2.is).mono ?_; rintro e w3 ⟨rfl, hb3⟩; have q3 := (hb3.block W.heap.size (Array.getElem?_eq_some_iff.1 q2).1).trans q2; have hr3 := hr2.kept (grown_none hb3) (by simp) (by cases D <;> simp); have l3 := (Array.getElem?_eq_some_iff.1 q3).1)
      | (go_at_call 66; refine (rFail_any (hr3.kept (World.grownBy_alloc w3 (.cells #[.int .u64 0, .int .u64 0, .int .u64 0, .int .u64 0] 41) none) (by simp) (by cases D <;> simp))).mono ?_; rintro e w4 ⟨rfl, hr4, hg4⟩; have q4 := (hg4.block W.heap.size (by simp; omega) (by simp; omega)).trans ((al_old l3).trans q3); have p4 := (hg4.block w3.heap.size (by simp) (by simp; omega)).trans (al_at rfl); obtain ⟨c4, f4⟩ := cells_of_block q4; obtain ⟨d4, e4⟩ := cells_of_block p4))
    have hG4 : W.grownBy w4 (some b) := grown_tr (grown_al (grown_tr (grown_tr (grown_tr (World.grownBy_alloc W _ (some b)) hg1) hg2) (grown_up (grown_none hb3))) _) hg4
    have hk : w4.grownBy ((((w4.setCell ⟨W.heap.size, 0, none⟩ (.int .u64 0)).setCell ⟨W.heap.size, 1, none⟩ (.int .u64 0)).setCell ⟨W.heap.size, 2, none⟩ (.int .u64 0)).setCell ⟨W.heap.size, 3, none⟩ (.int .u64 0)) (some W.heap.size) := grown_se (grown_se (grown_se (grown_se (grown_ref _ _) _ _) _ _) _ _) _ _
    refine bodyPost_ret (v := .agg #[.int .u64 0, .int .u64 0, .int .u64 0, .int .u64 0]) (by simp only [results, Try.results44]; go_simp) rfl ⟨0, 0, 0, 0, rfl, lim_zero, val0, hr4.kept hk (by simp; omega) hDh, grown_new hG4 hk (Nat.le_refl _)⟩
end Go.Proofs.Ytafcianpajheiaa


/- codec's writer. -/
namespace Go.Proofs.Ytafcianpajheiaa
open Go.RowKit

/-- A writer in block b that has laid these bytes, in a row of its own. -/
def WrAt (W : World) (b base : Nat) (v : Value) (p : List Int) : Prop := W.heap[b]? = some (.cells #[v] 87 (0, 0)) ∧ W.ownsRow base 5 1 v p.length (encB p)
/-- Nothing else that was there has turned; its row is the old one, or new. -/
structure WF (W W' : World) (b : Nat) (v v' : Value) : Prop where
  os : W'.os = W.os
  tape : W'.tape = W.tape
  output : W'.output = W.output
  size : W.heap.size ≤ W'.heap.size
  block : ∀ k, k < W.heap.size → k ≠ b → some k ≠ v.ownBlock → W'.heap[k]? = W.heap[k]?
  own : v'.ownBlock = v.ownBlock ∨ ∃ g, v'.ownBlock = some g ∧ W.heap.size ≤ g
theorem WF.trans {A B C : World} {b : Nat} {u v x : Value} (h : WF A B b u v) (k : WF B C b v x) : WF A C b u x := by
  refine ⟨k.os.trans h.os, k.tape.trans h.tape, k.output.trans h.output, Nat.le_trans h.size k.size, fun n hn h1 h2 => (k.block n (Nat.lt_of_lt_of_le hn h.size) h1 ?_).trans (h.block n hn h1 h2), ?_⟩
  · rcases h.own with e | ⟨g, e, hg⟩
    · rw [e]; exact h2
    · rw [e]; intro e'; simp at e'; omega
  · rcases k.own with e | ⟨g, e, hg⟩
    · rcases h.own with e2 | ⟨g, e2, hg⟩
      · exact .inl (e.trans e2)
      · exact .inr ⟨g, e.trans e2, hg⟩
    · exact .inr ⟨g, e, Nat.le_trans h.size hg⟩
theorem WF.pre {A B C : World} {b : Nat} {u v : Value} (h : A.grownBy B none) (k : WF B C b u v) : WF A C b u v :=
  ⟨k.os.trans h.os, k.tape.trans h.tape, k.output.trans h.output, Nat.le_trans h.size k.size, fun n hn h1 h2 => (k.block n (Nat.lt_of_lt_of_le hn h.size) h1 h2).trans (h.block n hn (by simp)), k.own.imp id (fun ⟨g, e, hg⟩ => ⟨g, e, Nat.le_trans h.size hg⟩)⟩
theorem WF.post {A B C : World} {b : Nat} {u v : Value} (h : WF A B b u v) (k : B.grownBy C none) : WF A C b u v :=
  ⟨k.os.trans h.os, k.tape.trans h.tape, k.output.trans h.output, Nat.le_trans h.size k.size, fun n hn h1 h2 => (k.block n (Nat.lt_of_lt_of_le hn h.size) (by simp)).trans (h.block n hn h1 h2), h.own⟩
theorem WF.below {w W W' : World} {b base : Nat} {v v' : Value} {p : List Int} (h : Below w.heap.size w W) (k : WF W W' b v v') (hW : WrAt W b base v p) (hb : w.heap.size ≤ b) (hbase : w.heap.size ≤ base) : Below w.heap.size w W' := by
  refine ⟨k.os.trans h.os, k.tape.trans h.tape, k.output.trans h.output, Nat.le_trans h.size k.size, fun n hn => (k.block n (Nat.lt_of_lt_of_le hn h.size) (by omega) (fun e => ?_)).trans (h.block n hn)⟩
  have := (hW.2.lt n e.symm).1; omega
theorem WF.row {A B : World} {b : Nat} {v v' u : Value} {base : Nat} {e : TypeId} {size n : Nat} {xs : List Value} (k : WF A B b v v') (h : A.ownsRow base e size u n xs) (hb : u.ownBlock ≠ some b) (hv : u.ownBlock = none ∨ u.ownBlock ≠ v.ownBlock) : B.ownsRow base e size u n xs := by
  refine ⟨h.1, ?_⟩
  rcases h.2 with h2 | ⟨g, cap, cur, rfl, h1, h2, h3⟩
  · exact .inl h2
  · refine .inr ⟨g, cap, cur, rfl, h1, (k.block g (Array.getElem?_eq_some_iff.1 h2).1 (fun e => hb (by rw [e]; rfl)) (fun e => ?_)).trans h2, h3⟩
    rcases hv with hv | hv
    · simp [Value.ownBlock] at hv
    · exact hv e
theorem WrAt.kept {W W' : World} {b base : Nat} {v : Value} {p : List Int} {r : Option Nat} (h : WrAt W b base v p) (hg : W.grownBy W' r) (h1 : some b ≠ r) (h2 : v.ownBlock = none ∨ v.ownBlock ≠ r) : WrAt W' b base v p :=
  ⟨(hg.block b (Array.getElem?_eq_some_iff.1 h.1).1 h1).trans h.1, h.2.kept hg h2⟩
theorem WrAt.lt {W : World} {b base : Nat} {v : Value} {p : List Int} (h : WrAt W b base v p) : b < W.heap.size := (Array.getElem?_eq_some_iff.1 h.1).1
set_option maxHeartbeats 2000000 in
theorem lay_any {W : World} {b base : Nat} {v u : Value} {p q : List Int} (hW : WrAt W b base v p) (hbase : base ≤ W.heap.size) (hl : p.length + q.length ≤ 1048576) (hu : Src W u q) :
    Calls Try.prog 57 #[.pointer (some ⟨b, 0, none⟩), u] W fun e w' => e = .returned (.pointer (some ⟨b, 0, none⟩)) ∧ ∃ v', WrAt w' b base v' (p ++ q) ∧ WF W w' b v v' := by
  have hW' := hW
  obtain ⟨hblk, hrow⟩ := hW
  obtain ⟨c, f⟩ := cells_of_block hblk
  have lb := (Array.getElem?_eq_some_iff.1 hblk).1
  have hnr := not_row (e := 5) hblk (by decide) hrow
  obtain ⟨i0, hi, hz0, hz1, hz2⟩ := info_parts u8_info
  obtain ⟨a0, cap0, rfl⟩ := row_slice hrow
  rcases hu with ⟨rfl, rfl⟩ | ⟨ad, cap, rfl, hc⟩
  · rw [List.append_nil]
    go_enter Try.func57, Try.ntmps57
    go_wp2_with (at_builtin; refine wpList_append_own_none rfl _ _ 77 rfl base 5 i0 1 Try.underlying77 hi _ _ _ rfl hrow rfl ?_)
    go_ret
    have e : W.setCell ⟨b, 0, none⟩ (.slice a0 p.length cap0) = W := by
      have e1 : (W.setCell ⟨b, 0, none⟩ (.slice a0 p.length cap0)).heap = W.heap := by
        apply Array.ext_getElem?
        intro k
        by_cases hk : b = k
        · subst hk; rw [block_set _ hblk, hblk]; rfl
        · exact Below.heap_setCell W ⟨b, 0, none⟩ _ k (fun e => hk e.symm)
      have e2 : W.setCell ⟨b, 0, none⟩ (.slice a0 p.length cap0) = { W with heap := (W.setCell ⟨b, 0, none⟩ (.slice a0 p.length cap0)).heap } := rfl
      rw [e2, e1]
    refine ⟨rfl, .slice a0 p.length cap0, ?_, ?_⟩
    · rw [e]; exact hW'
    · rw [e]; exact ⟨rfl, rfl, rfl, Nat.le_refl _, fun _ _ _ _ => rfl, .inl rfl⟩
  · go_enter Try.func57, Try.ntmps57
    go_wp2_with (at_builtin; refine wpList_append_own_at _ rfl _ _ 77 rfl base 5 i0 _ 1 1 Try.underlying77 hi hz0 hz1 hz2 rfl (by decide) _ _ _ rfl hrow ad q.length cap (encB q) rfl (by simp [encB]) (fun j x hj => by simp only [encB, List.getElem?_map] at hj; obtain ⟨y, hy, rfl⟩ := Option.map_eq_some_iff.1 hj; exact hc j y hy) (by simp [encB, Value.oneCell']) (by unfold maxLen; omega) (by omega) hbase ?_; intro v' w1 hown' hgrow _ hat; obtain ⟨a1, cap1, rfl⟩ := row_slice hown'; have hb1 := (hgrow.block b lb hnr).trans hblk; obtain ⟨c1, f1⟩ := cells_of_block hb1)
    go_ret
    have hnr1 := not_row (e := 5) hb1 (by decide) hown'
    have hgs : w1.grownBy (w1.setCell ⟨b, 0, none⟩ (.slice a1 (p.length + q.length) cap1)) (some b) := grown_se (grown_ref _ _) _ _
    refine ⟨rfl, .slice a1 (p.length + q.length) cap1, ⟨by rw [block_set _ hb1]; rfl, ?_⟩, ?_⟩
    · rw [List.length_append, encB_app]
      exact hown'.kept hgs (.inr (fun e => hnr1 e.symm))
    · refine ⟨hgrow.os, hgrow.tape, hgrow.output, Nat.le_trans hgrow.size hgs.size, fun k hk h1 h2 => (hgs.block k (Nat.lt_of_lt_of_le hk hgrow.size) (by simpa using h1)).trans (hgrow.block k hk h2), ?_⟩
      rcases hat with e | e
      · exact .inl e
      · exact .inr ⟨_, e, Nat.le_refl _⟩
end Go.Proofs.Ytafcianpajheiaa


/- codec: bytes, numbers, what is done, what is read. -/
namespace Go.Proofs.Ytafcianpajheiaa
open Go.RowKit

set_option maxHeartbeats 1000000 in
theorem wByte_any {W : World} {b base : Nat} {v : Value} {p : List Int} (x : Int) (hW : WrAt W b base v p) (hbase : base ≤ W.heap.size) (hl : p.length + 1 ≤ 1048576) :
    Calls Try.prog 56 #[.pointer (some ⟨b, 0, none⟩), .int .u8 x] W fun e w' => e = .returned (.pointer (some ⟨b, 0, none⟩)) ∧ ∃ v', WrAt w' b base v' (p ++ [x]) ∧ WF W w' b v v' := by
  have hg := World.grownBy_alloc W (.cells #[.int .u8 x] 5) none
  have hL := lay_any (hW.kept hg (by simp) (by cases v.ownBlock <;> simp)) (by simp; omega) (q := [x]) hl (src_new W [x] 5)
  go_enter Try.func56, Try.ntmps56
  go_wp2_with (go_at_call 57; refine hL.mono ?_; rintro e w1 ⟨rfl, v', h1, h2⟩)
  go_ret
  exact ⟨rfl, v', h1, h2.pre hg⟩

set_option maxHeartbeats 1000000 in
theorem clone_any {W : World} {u : Value} {q : List Int} (hl : q.length ≤ 1048576) (hu : Src W u q) :
    Calls Try.prog 58 #[u] W fun e w' => ∃ u', e = .returned u' ∧ w'.ownsRow W.heap.size 5 1 u' q.length (encB q) ∧ Below W.heap.size W w' := by
  obtain ⟨i0, hi, hz0, hz1, hz2⟩ := info_parts u8_info
  have hnil : ∀ X a l c, (binOp .eql 77 (.slice a l c) (.slice none 0 0)).run Try.prog X = .ok (.bool a.isNone) X := fun X a l c => by simp [binOp, run_equal_slice_nil X 77 5 a l c Try.underlying77]
  rcases hu with ⟨rfl, rfl⟩ | ⟨ad, cap, rfl, hc⟩
  · go_enter Try.func58, Try.ntmps58
    go_wp2
    go_ret
    exact ⟨_, rfl, World.ownsRow_nil _ _ _ _, Below.refl _ _⟩
  · have hm : (W.alloc (.cells #[] 5)).ownsRow W.heap.size 5 1 (.slice (some ⟨W.heap.size, 0, none⟩) 0 0) 0 [] := World.ownsRow_made W #[] 0 (Nat.le_refl _) (by unfold maxLen; omega) rfl
    go_enter Try.func58, Try.ntmps58
    go_wp2_with (at_builtin; refine wpList_append_own _ rfl _ _ 77 rfl W.heap.size 5 i0 _ 1 1 Try.underlying77 hi hz0 hz1 hz2 rfl (by decide) _ _ _ rfl hm ad q.length cap (encB q) rfl (by simp [encB]) (fun j x hj => by simp only [encB, List.getElem?_map] at hj; obtain ⟨y, hy, rfl⟩ := Option.map_eq_some_iff.1 hj; exact (World.grownBy_alloc W _ none).cell (hc j y hy) (by simp)) (by simp [encB, Value.oneCell']) (by unfold maxLen; omega) (by omega) (by simp) ?_; intro v' w1 hown' hgrow _; rw [Nat.zero_add, List.nil_append] at hown')
    go_ret
    exact ⟨_, rfl, hown', (ba (Below.refl _ _) _).grown hgrow (by simp) (fun k hk => (hm.lt k hk).1)⟩
set_option maxHeartbeats 1000000 in
theorem read_new {W : World} {u : Value} {q : List Int} (hl : q.length ≤ 1048576) (hr : ∀ x ∈ q, 0 ≤ x ∧ x ≤ 255) (hu : Src W u q) :
    Calls Try.prog 41 #[u] W fun e w' => ∃ b D, e = .returned (.pointer (some ⟨b, 0, none⟩)) ∧ RdAt w' b D (some q) ∧ W.heap.size ≤ b ∧ D ≠ some b ∧ (∀ d, D = some d → W.heap.size ≤ d ∧ d < w'.heap.size) ∧ Below W.heap.size W w' := by
  go_enter Try.func41, Try.ntmps41
  go_wp2_with (go_at_call 58; refine (clone_any hl hu).mono ?_; rintro e w1 ⟨u', rfl, ho, hb⟩; obtain ⟨a, cap, rfl⟩ := row_slice ho)
  go_ret
  have hB := byt_own ho hl hr
  have hlt := ho.lt
  refine ⟨w1.heap.size, _, rfl, ⟨_, World.alloc_heap_new w1 _, hB.kept (World.grownBy_alloc w1 _ none) (by cases a <;> simp [Value.ownBlock])⟩, hb.size, ?_, ?_, ba hb _⟩
  · intro e; have := (hlt _ e).2; omega
  · intro d hd; have := hlt d hd; simp; omega
set_option maxHeartbeats 1000000 in
theorem wDone_any {W : World} {b base : Nat} {v : Value} {p : List Int} (hW : WrAt W b base v p) (hl : p.length ≤ 1048576) :
    Calls Try.prog 38 #[.pointer (some ⟨b, 0, none⟩)] W fun e w' => ∃ u', e = .returned u' ∧ w'.ownsRow W.heap.size 5 1 u' p.length (encB p) ∧ Below W.heap.size W w' := by
  obtain ⟨hblk, hrow⟩ := hW
  obtain ⟨c, f⟩ := cells_of_block hblk
  have hs := src_own hrow
  obtain ⟨a, cap, rfl⟩ := row_slice hrow
  go_enter Try.func38, Try.ntmps38
  go_wp2_with (go_at_call 58; refine (clone_any hl hs).mono ?_; rintro e w1 ⟨u', rfl, ho, hb⟩)
  go_ret
  exact ⟨u', rfl, ho, hb⟩

theorem bytes_own (x0 x1 x2 x3 : Int) (hx : Lim x0 x1 x2 x3) (w : World) :
    Calls Try.prog 55 #[.agg #[.int .u64 x0, .int .u64 x1, .int .u64 x2, .int .u64 x3]] w fun e w' => ∃ v : Value, e = .returned v ∧ w'.ownsRow w.heap.size 5 1 v (byL (val x0 x1 x2 x3) 32).length (encB (byL (val x0 x1 x2 x3) 32)) ∧ Below w.heap.size w w' := by
  refine (bytes_any x0 x1 x2 x3 hx w).mono ?_
  rintro e w' ⟨v, rfl, hr, hb⟩
  rw [bytesB_byL hx] at hr
  exact ⟨v, rfl, hr, hb⟩
set_option maxHeartbeats 2000000 in
theorem wNum_any {W : World} {b base : Nat} {v : Value} {p : List Int} (x0 x1 x2 x3 : Int) (hx : Lim x0 x1 x2 x3) (hW : WrAt W b base v p) (hbase : base ≤ W.heap.size) (hl : p.length + 33 ≤ 1048576) :
    Calls Try.prog 36 #[.pointer (some ⟨b, 0, none⟩), .agg #[.int .u64 x0, .int .u64 x1, .int .u64 x2, .int .u64 x3]] W fun e w' => e = .returned (.pointer (some ⟨b, 0, none⟩)) ∧ ∃ v', WrAt w' b base v' (p ++ (((byL (val x0 x1 x2 x3) 32).length : Int) :: byL (val x0 x1 x2 x3) 32)) ∧ WF W w' b v v' := by
  have hlen := byL_len (val x0 x1 x2 x3) 32
  generalize hq : byL (val x0 x1 x2 x3) 32 = q at *
  have hB0 := bytes_own x0 x1 x2 x3 hx
  rw [hq] at hB0
  have hg0 := World.grownBy_alloc W (.cells #[.int .u64 x0, .int .u64 x1, .int .u64 x2, .int .u64 x3] 41) none
  have hW0 := hW.kept hg0 (by simp) (by cases v.ownBlock <;> simp)
  have hl1 : (q.length : Int) ≤ 32 := by omega
  have hw8 : IntKind.u8.wrap (q.length : Int) = (q.length : Int) := by rw [IntKind.wrap_u8]; omega
  clear hq
  go_enter Try.func36, Try.ntmps36
  go_wp2_with (first
    | (go_at_call 55; refine (hB0 _).mono ?_; rintro e w1 ⟨u, rfl, ho1, hb1⟩; have hW1 := hW0.kept (grown_none hb1) (by simp) (by cases v.ownBlock <;> simp); have hz1 := hb1.size; simp at hz1; obtain ⟨a1, c1, rfl⟩ := row_slice ho1)
    | (go_at_call 56; refine (wByte_any (q.length : Int) hW1 (by omega) (by omega)).mono ?_; rintro e w2 ⟨rfl, v2, hW2, hF2⟩)
    | (go_at_call 57; refine (lay_any hW2 (by have := hF2.size; omega) (by simp; omega) (src_own (hF2.row ho1 (by have := hW.lt; intro e; have := ho1.lt b e; simp at this; omega) (by cases e : v.ownBlock with | none => (cases (Value.slice a1 q.length c1).ownBlock <;> simp) | some g => (right; intro e2; have := hW.2.lt g e; have := ho1.lt g e2; simp at this; omega))))).mono ?_; rintro e w3 ⟨rfl, v3, hW3, hF3⟩))
  go_ret
  refine ⟨rfl, v3, ?_, WF.pre (World.grownBy.trans hg0 (grown_none hb1)) (hF2.trans hF3)⟩
  rw [List.append_assoc] at hW3
  exact hW3
end Go.Proofs.Ytafcianpajheiaa
