
/- Several texts, one behind the other: B8, O1, O2, O3, O4, O5, O6, O7. -/
import Derived.Test.YtgphdioolcfmmaaBM1
import Derived.Test.YtgphdioolcfmmaaN2
import Derived.Laws.MakeOwn
import Derived.Laws.Externs
import Derived.Lib.Bytealg
import Derived.Lib.BytesEntry
import Derived.Laws.OwnMore
import Derived.Lib.AppendZeros
import Derived.Lib.AppendZerosOnto
import Derived.Lib.Overlaps
/- num.Read and the reference's Read, whole; Bytes as they are used. -/
set_option linter.unusedSimpArgs false
set_option linter.unusedVariables false
set_option maxRecDepth 20000
namespace Go.Proofs.Ytgphdioolcfmmaa
open Go.RowKit

set_option maxHeartbeats 2000000 in
theorem read_nil (a : Option Addr) (cap : Nat) (w : World) :
    Calls Try.prog 54 #[.slice a 0 cap] w fun e w' => e = .returned (.tuple #[.agg #[.int .u64 0, .int .u64 0, .int .u64 0, .int .u64 0], .int .i64 0]) ∧ Below w.heap.size w w' := by
  go_enter Try.func54, Try.ntmps54
  go_wp2
  apply wp_loop_rounds 1
  simp only [Code.rounds]
  go_wp2
  refine bodyPost_ret (v := .tuple #[.agg #[.int .u64 0, .int .u64 0, .int .u64 0, .int .u64 0], .int .i64 0]) (by simp only [results, Try.results54]; go_simp) rfl ⟨rfl, by (repeat (first | (with_reducible exact Below.refl _ _) | (with_reducible assumption) | (with_reducible apply bd) | (with_reducible apply ba) | (with_reducible refine bp ?_ (by first | omega | (simp [pad_size]; done) | (simp [pad_size]; omega)) _ _) | (with_reducible refine bs ?_ (by first | omega | (simp [pad_size]; done) | (simp [pad_size]; omega)) _) | (with_reducible refine bt ?_ (by assumption))))⟩
set_option maxHeartbeats 2000000 in
theorem read_long (a : Option Addr) (n cap : Nat) (hn : 32 < n ∧ n ≤ 1073741824) (w : World) :
    Calls Try.prog 54 #[.slice a n cap] w fun e w' => e = .returned (.tuple #[.agg #[.int .u64 0, .int .u64 0, .int .u64 0, .int .u64 0], .int .i64 4]) ∧ Below w.heap.size w w' := by
  have h : (32 : Int) < (n : Int) := by omega
  go_enter Try.func54, Try.ntmps54
  go_wp2
  refine bodyPost_ret (v := .tuple #[.agg #[.int .u64 0, .int .u64 0, .int .u64 0, .int .u64 0], .int .i64 4]) (by simp only [results, Try.results54]; go_simp) rfl ⟨rfl, by (repeat (first | (with_reducible exact Below.refl _ _) | (with_reducible assumption) | (with_reducible apply bd) | (with_reducible apply ba) | (with_reducible refine bp ?_ (by first | omega | (simp [pad_size]; done) | (simp [pad_size]; omega)) _ _) | (with_reducible refine bs ?_ (by first | omega | (simp [pad_size]; done) | (simp [pad_size]; omega)) _) | (with_reducible refine bt ?_ (by assumption))))⟩
set_option maxHeartbeats 2000000 in
theorem read_head (blk off n cap : Nat) (hn : 0 < n ∧ n ≤ 32) (w : World) (hg : blk < w.heap.size) (c0 : w.cell? ⟨blk, off, none⟩ = some (.int .u8 0)) :
    Calls Try.prog 54 #[.slice (some ⟨blk, off, none⟩) n cap] w fun e w' => e = .returned (.tuple #[.agg #[.int .u64 0, .int .u64 0, .int .u64 0, .int .u64 0], .int .i64 4]) ∧ Below w.heap.size w w' := by
  have h : ¬ (32 : Int) < (n : Int) := by omega
  have hnp : (0 : Int) < (n : Int) := by omega
  go_enter Try.func54, Try.ntmps54
  go_wp2
  refine bodyPost_ret (v := .tuple #[.agg #[.int .u64 0, .int .u64 0, .int .u64 0, .int .u64 0], .int .i64 4]) (by simp only [results, Try.results54]; go_simp) rfl ⟨rfl, by (repeat (first | (with_reducible exact Below.refl _ _) | (with_reducible assumption) | (with_reducible apply bd) | (with_reducible apply ba) | (with_reducible refine bp ?_ (by first | omega | (simp [pad_size]; done) | (simp [pad_size]; omega)) _ _) | (with_reducible refine bs ?_ (by first | omega | (simp [pad_size]; done) | (simp [pad_size]; omega)) _) | (with_reducible refine bt ?_ (by assumption))))⟩
/-- The parts of what is laid so. -/
theorem bytes_parts {W : World} {v : Value} {p : List Int} (h : IsBytes W v p) : (p = [] ∧ ∃ a cap, v = .slice a 0 cap) ∨ ∃ blk off cap b, v = .slice (some ⟨blk, off, none⟩) p.length cap ∧ p[0]? = some b ∧ 0 < p.length ∧ p.length ≤ 1073741824 ∧ blk < W.heap.size ∧ ∀ i x, p[i]? = some x → W.cell? ⟨blk, off + i, none⟩ = some (.int .u8 x) := by
  by_cases hp : p = []
  · obtain ⟨a, cap, e⟩ := h.slice
    rw [hp] at e
    exact .inl ⟨hp, a, cap, e⟩
  · rcases h with h | ⟨blk, off, cap, rfl, h1, h2, h3⟩
    · exact absurd h.1 hp
    · have hl : 0 < p.length := List.length_pos_iff.2 hp
      exact .inr ⟨blk, off, cap, p[0], rfl, List.getElem?_eq_getElem hl, hl, h1, h2, h3⟩
theorem good_head {p : List Int} {b : Int} (h : Good p) (h0 : p[0]? = some b) : 0 < b := h.2 b (by rw [List.head?_eq_getElem?]; exact h0)
theorem read_good {v : Value} {p : List Int} {z0 z1 z2 z3 : Int} (hg : Good p) (hl : p.length ≤ 32) (hz : Lim z0 z1 z2 z3) (hv : val z0 z1 z2 z3 = rd p) (w : World) (h : IsBytes w v p) :
    Calls Try.prog 54 #[v] w fun e w' => e = .returned (.tuple #[.agg #[.int .u64 z0, .int .u64 z1, .int .u64 z2, .int .u64 z3], .int .i64 0]) ∧ Below w.heap.size w w' := by
  rcases bytes_parts h with ⟨rfl, a, cap, rfl⟩ | ⟨blk, off, cap, b, rfl, h0, h1, h2, h3, h4⟩
  · obtain ⟨rfl, rfl, rfl, rfl⟩ := (val_zero hz).1 hv
    exact read_nil a cap w
  · exact read_some p p.length blk off cap rfl ⟨h1, hl⟩ hg.1 z0 z1 z2 z3 b hz hv w h3 h4 h0 (good_head hg h0)
theorem read_bad {v : Value} {p : List Int} (hb : 32 < p.length ∨ p[0]? = some 0) (w : World) (h : IsBytes w v p) :
    Calls Try.prog 54 #[v] w fun e w' => e = .returned (.tuple #[.agg #[.int .u64 0, .int .u64 0, .int .u64 0, .int .u64 0], .int .i64 4]) ∧ Below w.heap.size w w' := by
  rcases bytes_parts h with ⟨rfl, a, cap, rfl⟩ | ⟨blk, off, cap, b, rfl, h0, h1, h2, h3, h4⟩
  · simp at hb
  · by_cases hl : 32 < p.length
    · exact read_long _ _ _ ⟨hl, h2⟩ w
    · have e : p[0]? = some 0 := hb.resolve_left hl
      exact read_head blk off p.length cap (by omega) w h3 (by simpa using h4 0 0 e)
theorem bytes_two (x0 x1 x2 x3 : Int) (hx : Lim x0 x1 x2 x3) (w : World) :
    Calls Try.prog 70 #[.agg #[.int .u64 x0, .int .u64 x1, .int .u64 x2, .int .u64 x3]] w fun e w' => ∃ v : Value, e = .returned v ∧ IsBytes w' v (byL (val x0 x1 x2 x3) 32) ∧ ((∃ a cap, v = .slice a 0 cap) ∨ ∃ g off cap n b, v = .slice (some ⟨g, off, none⟩) n cap ∧ (0 < n ∧ n ≤ 32) ∧ g < w'.heap.size ∧ w'.cell? ⟨g, off, none⟩ = some (.int .u8 b) ∧ 0 < b) ∧ Below w.heap.size w w' := by
  refine (bytes_can x0 x1 x2 x3 hx w).mono ?_
  rintro e w' ⟨v, rfl, h, hb⟩
  refine ⟨v, rfl, h, ?_, hb⟩
  have hl := byL_len (val x0 x1 x2 x3) 32
  rcases bytes_parts h with ⟨-, a, cap, rfl⟩ | ⟨blk, off, cap, b, rfl, h0, h1, h2, h3, h4⟩
  · exact .inl ⟨a, cap, rfl⟩
  · exact .inr ⟨blk, off, cap, _, b, rfl, ⟨h1, hl⟩, h3, by simpa using h4 0 b h0, good_head (byL_good _ _) h0⟩
end Go.Proofs.Ytgphdioolcfmmaa

/- store: own bytes; which of two keys stands ahead. -/
namespace Go.Proofs.Ytgphdioolcfmmaa
open Go.RowKit

theorem u8_one : (Try.prog.info? 5).map (·.size) = some 1 := by kernel_rfl
theorem Src.parts {W : World} {u : Value} {q : List Int} (h : Src W u q) : ∃ sp cap, u = .slice sp q.length cap ∧ (0 < (encB q).length → ∃ ad, sp = some ad ∧ ∀ j v, (encB q)[j]? = some v → W.cell? (ad.add j) = some v) := by
  rcases h with ⟨rfl, rfl⟩ | ⟨ad, cap, rfl, hc⟩
  · exact ⟨none, 0, rfl, by simp [encB]⟩
  · refine ⟨some ad, cap, rfl, fun _ => ⟨ad, rfl, fun j x hj => ?_⟩⟩
    simp only [encB, List.getElem?_map] at hj
    obtain ⟨y, hy, rfl⟩ := Option.map_eq_some_iff.1 hj
    exact hc j y hy
/-- Bytes of one's own, in a block of their own. -/
def Own (W : World) (g : Nat) (v : Value) (q : List Int) : Prop := v = .slice (some ⟨g, 0, none⟩) q.length q.length ∧ W.heap[g]? = some (.cells (encB q).toArray 5 (0, 0))
theorem Own.lt {W : World} {g : Nat} {v : Value} {q : List Int} (h : Own W g v q) : g < W.heap.size := (Array.getElem?_eq_some_iff.1 h.2).1
theorem Own.src {W : World} {g : Nat} {v : Value} {q : List Int} (h : Own W g v q) : Src W v q := by
  obtain ⟨rfl, hb⟩ := h
  refine .inr ⟨⟨g, 0, none⟩, _, rfl, fun i x hi => ?_⟩
  rw [add_cell, (cells_of_block hb).1]
  simp [encB, hi]
theorem Own.kept {W W' : World} {g : Nat} {v : Value} {q : List Int} (h : Own W g v q) (e : W'.heap[g]? = W.heap[g]?) : Own W' g v q := ⟨h.1, e.trans h.2⟩

set_option maxHeartbeats 1000000 in
theorem own_any {W : World} {u : Value} {q : List Int} (hl : q.length ≤ 1048576) (hu : Src W u q) :
    Calls Try.prog 67 #[u] W fun e w' => ∃ v, e = .returned v ∧ Own w' W.heap.size v q ∧ Below W.heap.size W w' := by
  obtain ⟨i0, hi, hz0, hz1, hz2⟩ := info_parts u8_info
  obtain ⟨sp, cap, rfl, hc⟩ := hu.parts
  have hmk := run_makeSlice (P := Try.prog) W 81 5 i0 _ Try.underlying81 hi hz0 .i64 .i64 (q.length : Int) (q.length : Int) (by omega) (Int.le_refl _) (by rw [hz1]; simp; omega) (by rw [hz2]; omega) (by omega)
  simp only [Int.toNat_natCast, hz1, Nat.mul_one] at hmk
  have hsz := size_madeCells (Value.int .u8 0).cells q.length
  generalize madeCells (Value.int .u8 0).cells q.length = Z at hmk hsz
  have hZ : Z.toList.length = q.length := by simpa using hsz
  have hce : ((encB q).length : Int) = (q.length : Int) := by simp [encB]
  obtain ⟨C, hC⟩ : ∃ C, C = encB q := ⟨_, rfl⟩
  rw [← hC] at hc hce
  have hCl : C.length = q.length := by omega
  have h1 : ∀ v ∈ C, v.oneCell' = true := by rw [hC]; simp [encB, Value.oneCell']
  have hC' : Hid _ := hC
  clear hC
  go_enter Try.func67, Try.ntmps67
  go_wp2_with (refine wpList_copy_splice rfl _ _ 81 81 rfl 5 Try.underlying81 u8_one _ _ _ _ _ _ rfl rfl W.heap.size 0 Z.toList 5 (by rw [Array.toArray_toList]; exact al_at rfl) C (by rw [hCl]; exact (Nat.min_self _).symm) (fun hp => ⟨rfl, by obtain ⟨ad, e, hcc⟩ := hc hp; exact ⟨ad, e, fun j v hj => (World.grownBy_alloc W _ none).cell (hcc j v hj) (by simp)⟩⟩) (by omega) h1 W.heap.size W (ba (Below.refl _ _) _) (Nat.le_refl _) ?_; intro w2 HG2 hB2)
  go_ret
  refine ⟨_, rfl, ⟨rfl, ?_⟩, hB2⟩
  rw [HG2.out, ← hC'.out]
  simp only [splice, List.take_zero, List.nil_append, Nat.zero_add]
  rw [List.drop_of_length_le (by omega), List.append_nil]

/-- Which of two keys stands ahead: -1 the first, 1 the second, 0: they are one. -/
def cmpB : List Int → List Int → Int
  | [], [] => 0
  | [], _ :: _ => -1
  | _ :: _, [] => 1
  | a :: p, b :: q => if a < b then -1 else if b < a then 1 else cmpB p q
def Byte (q : List Int) : Prop := ∀ x ∈ q, 0 ≤ x ∧ x ≤ 255
theorem cmp_bytes : ∀ (p q : List Int), Byte p → Byte q → Lib.compareBytes (Lib.bytesOf p) (Lib.bytesOf q) = cmpB p q
  | [], [], _, _ => by simp [Lib.bytesOf, Lib.compareBytes, cmpB]
  | [], b :: q, _, _ => by simp [Lib.bytesOf, Lib.compareBytes, cmpB]
  | a :: p, [], _, _ => by simp [Lib.bytesOf, Lib.compareBytes, cmpB]
  | a :: p, b :: q, hp, hq => by
    have ha := hp a (by simp)
    have hb := hq b (by simp)
    have ih := cmp_bytes p q (fun x hx => hp x (by simp [hx])) (fun x hx => hq x (by simp [hx]))
    have key : ∀ x y : Int, 0 ≤ x ∧ x ≤ 255 → 0 ≤ y ∧ y ≤ 255 → (x.toNat.toUInt8 < y.toNat.toUInt8 ↔ x < y) := by
      intro x y hx hy
      rw [UInt8.lt_iff_toNat_lt]
      simp only [Nat.toUInt8, UInt8.toNat_ofNat']
      omega
    simp only [Lib.bytesOf, List.map_cons, Lib.compareBytes, cmpB] at ih ⊢
    rw [ih]
    by_cases h1 : a < b
    · rw [if_pos ((key a b ha hb).2 h1), if_pos h1]
    · rw [if_neg (fun h => h1 ((key a b ha hb).1 h)), if_neg h1]
      by_cases h2 : b < a
      · rw [if_pos ((key b a hb ha).2 h2), if_pos h2]
      · rw [if_neg (fun h => h2 ((key b a hb ha).1 h)), if_neg h2]
theorem bytesOf_run {W : World} {u : Value} {q : List Int} (h : Src W u q) : (Extern.Bytes.bytesOf u).run Try.prog W = .ok ⟨(Lib.bytesOf q).toArray⟩ W := by
  rcases h with ⟨rfl, rfl⟩ | ⟨ad, cap, rfl, hc⟩
  · simp [Extern.Bytes.bytesOf, Lib.bytesOf]; rfl
  · have := Lib.run_loadBytesX (P := Try.prog) (w := W) q ad .empty (fun j x hj => hc j x hj)
    simp only [Extern.Bytes.bytesOf]
    rw [this]
    simp [ByteArray.empty, ByteArray.emptyWithCapacity]
    rfl
theorem compare_ex {W : World} {u v : Value} {p q : List Int} (hu : Src W u p) (hv : Src W v q) (hp : Byte p) (hq : Byte q) : (callFunc 84 #[u, v]).run Try.prog W = .ok (.value (.int .i64 (cmpB p q))) W := by
  rw [run_callFunc_extern Try.func84 (by kernel_rfl) (by kernel_rfl) (by kernel_rfl) (e := Extern.BytealgCompare.compare) (by kernel_rfl)]
  have e : (Extern.BytealgCompare.compare #[u, v]).run Try.prog W = .ok (.int .i64 (cmpB p q)) W := by
    change Sem.run Try.prog (do pure (goInt (Extern.BytealgCompare.cmp (← Extern.Bytes.bytesOf u) (← Extern.Bytes.bytesOf v)))) W = _
    simp only [Sem.run_bind, bytesOf_run hu, bytesOf_run hv, Result.andThen_ok, Sem.run_pure, Lib.cmp_eq, cmp_bytes p q hp hq]
    rfl
  rw [e]; rfl
set_option maxHeartbeats 1000000 in
theorem bcompare_any {W : World} {u v : Value} {p q : List Int} (hu : Src W u p) (hv : Src W v q) (hp : Byte p) (hq : Byte q) :
    Calls Try.prog 76 #[u, v] W fun e w' => e = .returned (.int .i64 (cmpB p q)) ∧ w' = W := by
  have hx := compare_ex hu hv hp hq
  go_enter Try.func76, Try.ntmps76
  go_wp2
  go_ret
  exact ⟨rfl, rfl⟩
end Go.Proofs.Ytgphdioolcfmmaa

/- store: what lies in a store; where a key is. -/
namespace Go.Proofs.Ytgphdioolcfmmaa
open Go.RowKit

theorem cmp_self : ∀ p : List Int, cmpB p p = 0
  | [] => rfl
  | a :: p => by simp [cmpB, cmp_self p]
theorem cmp_flip : ∀ p q : List Int, cmpB q p = - cmpB p q
  | [], [] => rfl
  | [], _ :: _ => rfl
  | _ :: _, [] => rfl
  | a :: p, b :: q => by
    have ih := cmp_flip p q
    simp only [cmpB]
    by_cases h1 : a < b
    · simp only [if_pos h1, if_neg (show ¬ b < a by omega)]; rfl
    · by_cases h2 : b < a
      · simp only [if_neg h1, if_pos h2]
      · simp only [if_neg h1, if_neg h2]; exact ih
theorem cmp_eq0 : ∀ p q : List Int, cmpB p q = 0 → p = q
  | [], [], _ => rfl
  | [], _ :: _, h => by simp [cmpB] at h
  | _ :: _, [], h => by simp [cmpB] at h
  | a :: p, b :: q, h => by
    simp only [cmpB] at h
    by_cases h1 : a < b
    · rw [if_pos h1] at h; omega
    · rw [if_neg h1] at h
      by_cases h2 : b < a
      · rw [if_pos h2] at h; omega
      · rw [if_neg h2] at h
        rw [cmp_eq0 p q h, show a = b by omega]
theorem cmp_lim : ∀ p q : List Int, -1 ≤ cmpB p q ∧ cmpB p q ≤ 1
  | [], [] => by simp [cmpB]
  | [], _ :: _ => by simp [cmpB]
  | _ :: _, [] => by simp [cmpB]
  | a :: p, b :: q => by
    have ih := cmp_lim p q
    simp only [cmpB]
    split
    · omega
    · split
      · omega
      · exact ih
theorem cmp_trans : ∀ p q r : List Int, cmpB p q < 0 → cmpB q r < 0 → cmpB p r < 0
  | [], [], r, h, _ => by simp [cmpB] at h
  | [], b :: q, [], _, h => by simp [cmpB] at h
  | [], b :: q, c :: r, _, _ => by simp [cmpB]
  | a :: p, [], r, h, _ => by simp [cmpB] at h
  | a :: p, b :: q, [], _, h => by simp [cmpB] at h
  | a :: p, b :: q, c :: r, h1, h2 => by
    simp only [cmpB] at h1 h2 ⊢
    by_cases x1 : a < b
    · by_cases y1 : b < c
      · rw [if_pos (by omega)]; omega
      · by_cases y2 : c < b
        · rw [if_neg y1, if_pos y2] at h2; omega
        · rw [if_pos (by omega)]; omega
    · by_cases x2 : b < a
      · rw [if_neg x1, if_pos x2] at h1; omega
      · rw [if_neg x1, if_neg x2] at h1
        by_cases y1 : b < c
        · rw [if_pos (by omega)]; omega
        · by_cases y2 : c < b
          · rw [if_neg y1, if_pos y2] at h2; omega
          · rw [if_neg y1, if_neg y2] at h2
            rw [if_neg (by omega), if_neg (by omega)]
            exact cmp_trans p q r h1 h2

/-- A pair: its two values as they lie, and what they are. -/
structure Rec where
  kv : Value
  vv : Value
  k : List Int
  v : List Int
/-- What was: a pair, and whether it was there. -/
structure Was where
  kv : Value
  vv : Value
  k : List Int
  v : List Int
  there : Bool
def cellsR (r : List Rec) : List Value := r.flatMap fun x => [x.kv, x.vv]
def cellsJ (j : List Was) : List Value := j.flatMap fun x => [x.kv, x.vv, .bool x.there]
def cellsI (b : List Nat) : List Value := b.map fun n : Nat => .int .i64 (n : Int)
def InA (W : World) (A : Nat → Prop) (v : Value) (q : List Int) : Prop := (∃ g, A g ∧ Own W g v q) ∧ Byte q ∧ q.length ≤ 1048576
def RecAt (W : World) (A : Nat → Prop) (x : Rec) : Prop := InA W A x.kv x.k ∧ InA W A x.vv x.v
def WasAt (W : World) (A : Nat → Prop) (x : Was) : Prop := InA W A x.kv x.k ∧ (x.there = true → InA W A x.vv x.v) ∧ (x.there = false → x.vv = .slice none 0 0)
structure StC (W : World) (s base : Nat) (A : Nat → Prop) (vp vj vb : Value) (r : List Rec) (j : List Was) (b : List Nat) : Prop where
  blk : W.heap[s]? = some (.cells #[vp, vj, vb] 70 (0, 0))
  pairs : W.ownsRow base 113 2 vp r.length (cellsR r)
  jour : W.ownsRow base 132 3 vj j.length (cellsJ j)
  begun : W.ownsRow base 3 1 vb b.length (cellsI b)
  recs : ∀ x ∈ r, RecAt W A x
  was : ∀ x ∈ j, WasAt W A x
  foot : ∀ k, A k → base ≤ k ∧ k < W.heap.size
  a0 : A s
  ap : ∀ g, vp.ownBlock = some g → A g
  aj : ∀ g, vj.ownBlock = some g → A g
  ab : ∀ g, vb.ownBlock = some g → A g
  le : base ≤ W.heap.size
/-- Sorted, and few. -/
def Srt (r : List Rec) : Prop := r.Pairwise fun x y => cmpB x.k y.k < 0
theorem InA.kept {W W' : World} {A : Nat → Prop} {v : Value} {q : List Int} (h : InA W A v q) (e : ∀ k, A k → W'.heap[k]? = W.heap[k]?) : InA W' A v q := by
  obtain ⟨⟨g, h1, h2⟩, h3⟩ := h
  exact ⟨⟨g, h1, h2.kept (e g h1)⟩, h3⟩
theorem InA.mono {W : World} {A B : Nat → Prop} {v : Value} {q : List Int} (h : InA W A v q) (e : ∀ k, A k → B k) : InA W B v q := by
  obtain ⟨⟨g, h1, h2⟩, h3⟩ := h
  exact ⟨⟨g, e g h1, h2⟩, h3⟩
theorem InA.src {W : World} {A : Nat → Prop} {v : Value} {q : List Int} (h : InA W A v q) : Src W v q := by
  obtain ⟨⟨g, h1, h2⟩, h3⟩ := h
  exact h2.src
theorem RecAt.kept {W W' : World} {A : Nat → Prop} {x : Rec} (h : RecAt W A x) (e : ∀ k, A k → W'.heap[k]? = W.heap[k]?) : RecAt W' A x := ⟨h.1.kept e, h.2.kept e⟩
theorem WasAt.kept {W W' : World} {A : Nat → Prop} {x : Was} (h : WasAt W A x) (e : ∀ k, A k → W'.heap[k]? = W.heap[k]?) : WasAt W' A x := ⟨h.1.kept e, fun t => (h.2.1 t).kept e, h.2.2⟩
theorem row_keep {W W' : World} {base : Nat} {e : TypeId} {size n : Nat} {v : Value} {xs : List Value} (h : W.ownsRow base e size v n xs) (k : ∀ g, v.ownBlock = some g → W'.heap[g]? = W.heap[g]?) : W'.ownsRow base e size v n xs := by
  refine ⟨h.1, ?_⟩
  rcases h.2 with h2 | ⟨g, cap, cur, rfl, h1, h2, h3⟩
  · exact .inl h2
  · exact .inr ⟨g, cap, cur, rfl, h1, (k g rfl).trans h2, h3⟩
theorem StC.kept {W W' : World} {s base : Nat} {A : Nat → Prop} {vp vj vb : Value} {r : List Rec} {j : List Was} {b : List Nat} (h : StC W s base A vp vj vb r j b) (e : ∀ k, A k → W'.heap[k]? = W.heap[k]?) (hs : W.heap.size ≤ W'.heap.size) : StC W' s base A vp vj vb r j b where
  blk := (e s h.a0).trans h.blk
  pairs := row_keep h.pairs (fun g hg => e g (h.ap g hg))
  jour := row_keep h.jour (fun g hg => e g (h.aj g hg))
  begun := row_keep h.begun (fun g hg => e g (h.ab g hg))
  recs := fun x hx => (h.recs x hx).kept e
  was := fun x hx => (h.was x hx).kept e
  foot := fun k hk => ⟨(h.foot k hk).1, Nat.lt_of_lt_of_le (h.foot k hk).2 hs⟩
  a0 := h.a0
  ap := h.ap
  aj := h.aj
  ab := h.ab
  le := Nat.le_trans h.le hs
theorem StC.below {W W' : World} {s base : Nat} {A : Nat → Prop} {vp vj vb : Value} {r : List Rec} {j : List Was} {b : List Nat} (h : StC W s base A vp vj vb r j b) (hb : Below W.heap.size W W') : StC W' s base A vp vj vb r j b :=
  h.kept (fun k hk => hb.block k (h.foot k hk).2) hb.size
theorem cellsR_len (r : List Rec) : (cellsR r).length = r.length * 2 := by
  induction r with
  | nil => rfl
  | cons x r ih => rw [cellsR, List.flatMap_cons, List.length_append, ← cellsR, ih, List.length_cons]; simp; omega
theorem cellsR_at : ∀ (r : List Rec) (k : Nat) (x : Rec), r[k]? = some x → (cellsR r)[k * 2]? = some x.kv ∧ (cellsR r)[k * 2 + 1]? = some x.vv
  | [], k, x, h => by simp at h
  | y :: r, 0, x, h => by
    simp at h; subst h
    exact ⟨rfl, rfl⟩
  | y :: r, k + 1, x, h => by
    have ih := cellsR_at r k x (by simpa using h)
    rw [show (k + 1) * 2 = k * 2 + 1 + 1 by omega]
    exact ih
/-- A pair's two cells. -/
theorem pair_at {W : World} {base : Nat} {vp : Value} {r : List Rec} {k : Nat} {x : Rec} (h : W.ownsRow base 113 2 vp r.length (cellsR r)) (hk : r[k]? = some x) : ∃ g cap, vp = .slice (some ⟨g, 0, none⟩) r.length cap ∧ g < W.heap.size ∧ base ≤ g ∧ W.cell? ⟨g, k * 2, none⟩ = some x.kv ∧ W.cell? ⟨g, k * 2 + 1, none⟩ = some x.vv ∧ W.frozen? ⟨g, k * 2 + 1, none⟩ = false := by
  have hkl := (List.getElem?_eq_some_iff.1 hk).1
  rcases h.2 with ⟨rfl, h0⟩ | ⟨g, cap, cur, rfl, h1, h2, h3⟩
  · omega
  · obtain ⟨e1, e2⟩ := cellsR_at r k x hk
    have c1 := h.cells (g := g) rfl _ _ e1
    have c2 := h.cells (g := g) rfl _ _ e2
    rw [add_cell, Nat.zero_add] at c1 c2
    exact ⟨g, cap, rfl, (Array.getElem?_eq_some_iff.1 h2).1, h1, c1, c2, (cells_of_block h2).2 _⟩

set_option maxHeartbeats 1000000 in
theorem find1_any {W : World} {kv vv u : Value} {p q : List Int} (hk : Src W kv p) (hu : Src W u q) (hp : Byte p) (hq : Byte q) :
    Calls Try.prog 75 #[.agg #[kv, vv], u] W fun e w' => e = .returned (.int .i64 (cmpB p q)) ∧ Below W.heap.size W w' := by
  obtain ⟨sp, cap, rfl, -⟩ := hk.parts
  have hg := World.grownBy_alloc W (.cells #[.slice sp p.length cap, vv] 113) none
  have hC := bcompare_any (hk.kept hg) (hu.kept hg) hp hq
  go_enter Try.func75, Try.ntmps75
  go_wp2_with (go_at_call 76; refine hC.mono ?_; rintro e w1 ⟨rfl, rfl⟩)
  go_ret
  exact ⟨rfl, ba (Below.refl _ _) _⟩

/-- A key's place: all ahead are less, none behind is; and whether it is there. -/
structure FindS (r : List Rec) (key : List Int) (i : Nat) (f : Bool) : Prop where
  le : i ≤ r.length
  lo : ∀ k x, k < i → r[k]? = some x → cmpB x.k key < 0
  hi : ∀ k x, i ≤ k → r[k]? = some x → 0 ≤ cmpB x.k key
  is : f = true ↔ ∃ x, r[i]? = some x ∧ x.k = key
theorem srt_at {r : List Rec} (h : Srt r) {i k : Nat} {x y : Rec} (hi : r[i]? = some x) (hk : r[k]? = some y) (hik : i < k) : cmpB x.k y.k < 0 := by
  obtain ⟨h1, rfl⟩ := List.getElem?_eq_some_iff.1 hi
  obtain ⟨h2, rfl⟩ := List.getElem?_eq_some_iff.1 hk
  exact List.pairwise_iff_getElem.1 h i k h1 h2 hik
set_option maxRecDepth 10000 in
set_option maxHeartbeats 4000000 in
theorem search_any {W : World} {base : Nat} {A : Nat → Prop} {vp u : Value} {r : List Rec} {key : List Int} (hr : W.ownsRow base 113 2 vp r.length (cellsR r)) (hrec : ∀ x ∈ r, RecAt W A x) (hs : Srt r) (hn : r.length ≤ 1048576) (hu : Src W u key) (hk : Byte key) :
    Calls Try.prog 74 #[vp, u, .func (.func 75) #[] #[]] W fun e w' => ∃ (i : Nat) (f : Bool), e = .returned (.tuple #[.int .i64 (i : Int), .bool f]) ∧ FindS r key i f ∧ Below W.heap.size W w' := by
  obtain ⟨av, cv, rfl⟩ := row_slice hr
  obtain ⟨sp, ucap, rfl, -⟩ := hu.parts
  have hn' : (r.length : Int) ≤ 1048576 := by omega
  go_enter Try.func74, Try.ntmps74
  go_wp2
  go_loopw [9, 10] (fun iv jv X => ∃ (i j : Nat), i ≤ j ∧ j ≤ r.length ∧ iv = .int .i64 (i : Int) ∧ jv = .int .i64 (j : Int) ∧ Hid (∀ k x, k < i → r[k]? = some x → cmpB x.k key < 0) ∧ Hid (∀ k x, j ≤ k → r[k]? = some x → 0 ≤ cmpB x.k key) ∧ Below W.heap.size W X) (fun iv jv _ => (intOf jv).toNat - (intOf iv).toNat)
  case atStart => exact ⟨0, r.length, by omega, by omega, rfl, rfl, fun k x hk => by omega, fun k x hk hx => by have := (List.getElem?_eq_some_iff.1 hx).1; omega, Below.refl _ _⟩
  case round =>
    obtain ⟨i, j, hij, hj, rfl, rfl, hlo, hhi, hB⟩ := hrel
    by_cases hlt : i < j
    · obtain ⟨m, hm⟩ : ∃ m : Nat, (m : Int) = ((i : Int) + (j : Int)) / 2 := ⟨(i + j) / 2, by omega⟩
      have hml : m < r.length := by omega
      obtain ⟨g, cap, ev, hg, -, c0, c1, -⟩ := pair_at hr (List.getElem?_eq_getElem hml)
      simp at ev
      obtain ⟨rfl, rfl⟩ := ev
      have d0 := (hB.cell (p := ⟨g, m * 2, none⟩) hg).trans c0
      have d1 := (hB.cell (p := ⟨g, m * 2 + 1, none⟩) hg).trans c1
      have hrx := hrec r[m] (List.getElem_mem hml)
      have hC := find1_any (W := wr) (vv := r[m].vv) (hrx.1.src.kept (grown_none hB)) (hu.kept (grown_none hB)) hrx.1.2.1 hk
      clear hrx
      have hlim := cmp_lim r[m].k key
      have hget : r[m]? = some r[m] := List.getElem?_eq_getElem hml
      have hLo : Hid (cmpB r[m].k key < 0 → ∀ k x, k < m + 1 → r[k]? = some x → cmpB x.k key < 0) := by
        intro h0 k x hk hx
        by_cases e : k = m
        · subst e; rw [hget] at hx; simp at hx; subst hx; exact h0
        · exact cmp_trans _ _ _ (srt_at hs hx hget (by omega)) h0
      have hHi : Hid (0 ≤ cmpB r[m].k key → ∀ k x, m ≤ k → r[k]? = some x → 0 ≤ cmpB x.k key) := by
        intro h0 k x hk hx
        by_cases e : k = m
        · subst e; rw [hget] at hx; simp at hx; subst hx; exact h0
        · have h1 := srt_at hs hget hx (by omega)
          rcases Int.lt_or_le (cmpB x.k key) 0 with h2 | h2
          · have := cmp_trans _ _ _ h1 h2; omega
          · exact h2
      clear hget
      generalize hcc : cmpB r[m].k key = c at *
      generalize r[m].kv = kv at *
      generalize r[m].vv = vv at *
      have hlt' : (i : Int) < (j : Int) := by omega
      have hm' : ((i : Int) + (j : Int)) / 2 = (m : Int) := hm.symm
      have hmi : i ≤ m ∧ m < j := by omega
      clear hm
      have hml' : (m : Int) < (r.length : Int) := by omega
      have hjj : (j : Int) ≤ 1048576 := by omega
      by_cases hc : c < 0
      · go_wp2_with (go_at_call 75; refine hC.mono ?_; rintro e w1 ⟨rfl, hb1⟩)
        all_goals go_roundw
        case rel => exact ⟨m + 1, j, by omega, hj, by go_num, rfl, hLo.out hc, hhi, bt hB hb1⟩
        case measure => (simp [intOf]; omega)
      · go_wp2_with (go_at_call 75; refine hC.mono ?_; rintro e w1 ⟨rfl, hb1⟩)
        all_goals go_roundw
        case rel => exact ⟨i, m, by omega, by omega, rfl, rfl, hlo, hHi.out (by omega), bt hB hb1⟩
        case measure => (simp [intOf]; omega)
    · obtain rfl : i = j := by omega
      by_cases hin : i < r.length
      · obtain ⟨g, cap, ev, hg, -, c0, c1, -⟩ := pair_at hr (List.getElem?_eq_getElem hin)
        simp at ev
        obtain ⟨rfl, rfl⟩ := ev
        have d0 := (hB.cell (p := ⟨g, i * 2, none⟩) hg).trans c0
        have d1 := (hB.cell (p := ⟨g, i * 2 + 1, none⟩) hg).trans c1
        have hx := hrec r[i] (List.getElem_mem hin)
        have hC := find1_any (W := wr) (vv := r[i].vv) (hx.1.src.kept (grown_none hB)) (hu.kept (grown_none hB)) hx.1.2.1 hk
        have hget : r[i]? = some r[i] := List.getElem?_eq_getElem hin
        have hfin : Hid (FindS r key i (cmpB r[i].k key == 0)) := by
          refine ⟨hj, hlo, hhi, ?_⟩
          rw [beq_iff_eq]
          constructor
          · intro h; exact ⟨r[i], hget, cmp_eq0 _ _ h⟩
          · rintro ⟨x, hx, hxk⟩
            rw [hget] at hx; simp at hx; subst hx
            rw [hxk]; exact cmp_self _
        clear hget
        generalize hcc : cmpB r[i].k key = c at *
        generalize r[i].kv = kv at *
        generalize r[i].vv = vv at *
        have hin' : (i : Int) < (r.length : Int) := by omega
        go_wp2_with (go_at_call 75; refine hC.mono ?_; rintro e w1 ⟨rfl, hb1⟩)
        go_ret2
        exact ⟨i, _, rfl, hfin.out, bt hB hb1⟩
      · obtain rfl : i = r.length := by omega
        go_wp2
        go_ret2
        refine ⟨r.length, false, rfl, ⟨by omega, hlo, hhi, ?_⟩, hB⟩
        simp
end Go.Proofs.Ytgphdioolcfmmaa

/- slices.Insert and slices.Delete at a store's pairs. -/
namespace Go.Proofs.Ytgphdioolcfmmaa
open Go.RowKit

theorem run_copy_k {P : Program} (w : World) (k : Nat) (dT sT ty elem : TypeId) (g o dLen dCap : Nat) (a : Addr) (sLen sCap : Nat) (cur : List Value) (t : TypeId) (cs : List Value)
    (hu : P.underlying dT = some (.slice elem)) (hs : (P.info? elem).map (·.size) = some k)
    (hg : w.heap[g]? = some (.cells cur.toArray t (0, 0))) (hn : cs.length = Nat.min sLen dLen * k)
    (hsrc : ∀ j v, cs[j]? = some v → w.cell? (a.add j) = some v) (hfit : o + cs.length ≤ cur.length) (h1 : ∀ v ∈ cs, v.oneCell' = true) :
    ∃ v' w', (Builtin.copy_ #[dT, sT] ty #[.slice (some ⟨g, o, none⟩) dLen dCap, .slice (some a) sLen sCap]).run P w = .ok v' w' ∧ w'.heap[g]? = some (.cells (splice cur o cs).toArray t (0, 0)) ∧ w.grownBy w' (some g) := by
  have hl := run_loadCells_list (P := P) w a cs hsrc
  have hst := run_storeCells_at P g o t cs 0 cur.toArray w hg (by simpa using hfit) h1
  refine ⟨goInt (Nat.min sLen dLen), w.setRow g (splice cur o cs).toArray, ?_, setRow_heap w g _ _ t _ hg, ⟨rfl, rfl, rfl, by simp [World.setRow], fun n _ hne => setRow_other w g n _ (fun e => hne (by rw [e]))⟩⟩
  cases hq : P.info? elem with
  | none => simp [hq] at hs
  | some i =>
    have hi : i.size = k := by simpa [hq] using hs
    have hst' : (storeCells ⟨g, o, none⟩ cs).run P w = .ok () (w.setRow g (splice cur o cs).toArray) := by
      simpa [splice, List.append_assoc] using hst
    simp [Builtin.copy_, run_underlying hu, Builtin.lenOf, Builtin.firstCells, sizeOf, typeInfo, hq, hi, ← hn, hl, hst']
/-- copy as one operation: of elements of k cells, into a block that is known whole. -/
theorem wp_copy_k {P : Program} (w : World) (k : Nat) {o : Oper} {a : Act} {K : Act → World → Prop} {Q : Exit → Act → World → Prop} (d s : Operand) (dT sT : TypeId)
    (ho : o.op = .call { callee := .builtin .copy, args := #[d, s], argTypes := #[dT, sT] }) (elem : TypeId) (hu : P.underlying dT = some (.slice elem)) (hs : (P.info? elem).map (·.size) = some k)
    (g off dLen dCap : Nat) (ad : Addr) (sLen sCap : Nat) (hd : a.eval d = .slice (some ⟨g, off, none⟩) dLen dCap) (hx : a.eval s = .slice (some ad) sLen sCap)
    (cur : List Value) (t : TypeId) (cs : List Value) (hg : w.heap[g]? = some (.cells cur.toArray t (0, 0))) (hn : cs.length = Nat.min sLen dLen * k)
    (hsrc : ∀ j v, cs[j]? = some v → w.cell? (ad.add j) = some v) (hfit : off + cs.length ≤ cur.length) (h1 : ∀ v ∈ cs, v.oneCell' = true)
    (h : ∀ v' w', Hid (w'.heap[g]? = some (.cells (splice cur off cs).toArray t (0, 0))) → w.grownBy w' (some g) → K (a.put o.dst v') w') : o.wp P a w K Q := by
  obtain ⟨v', w', hr, h2, h3⟩ := run_copy_k (P := P) w k dT sT o.type elem g off dLen dCap ad sLen sCap cur t cs hu hs hg hn hsrc hfit h1
  unfold Oper.wp execOp
  simp only [ho, resolve, invoke, builtin, Sem.run_bind, Sem.run_pure, Result.andThen_ok, List.map_toArray, List.map_cons, List.map_nil, hd, hx, hr]
  exact h v' w' h2 h3
theorem wpList_copy_k {P : Program} (w : World) (k : Nat) {ops : Array Oper} {rest : List Oper} {o : Oper} {a : Act} {Q : Exit → Act → World → Prop} (hgd : o.guard = none) (d s : Operand) (dT sT : TypeId)
    (ho : o.op = .call { callee := .builtin .copy, args := #[d, s], argTypes := #[dT, sT] }) (elem : TypeId) (hu : P.underlying dT = some (.slice elem)) (hs : (P.info? elem).map (·.size) = some k)
    (g off dLen dCap : Nat) (ad : Addr) (sLen sCap : Nat) (hd : a.eval d = .slice (some ⟨g, off, none⟩) dLen dCap) (hx : a.eval s = .slice (some ad) sLen sCap)
    (cur : List Value) (t : TypeId) (cs : List Value) (hg : w.heap[g]? = some (.cells cur.toArray t (0, 0))) (hn : cs.length = Nat.min sLen dLen * k)
    (hsrc : ∀ j v, cs[j]? = some v → w.cell? (ad.add j) = some v) (hfit : off + cs.length ≤ cur.length) (h1 : ∀ v ∈ cs, v.oneCell' = true)
    (h : ∀ v' w', Hid (w'.heap[g]? = some (.cells (splice cur off cs).toArray t (0, 0))) → w.grownBy w' (some g) → wpList P ops Q rest (a.put o.dst v') w') : wpList P ops Q (o :: rest) a w :=
  wpList_plain hgd fun _ hK => wp_copy_k w k d s dT sT ho elem hu hs g off dLen dCap ad sLen sCap hd hx cur t cs hg hn hsrc hfit h1 (fun v' w' h2 h3 => hK _ _ (h v' w' h2 h3))

theorem pair_info : (Try.prog.info? 113).map (fun i => (i.zero, i.size, i.bytes)) = some (some (.agg #[.slice none 0 0, .slice none 0 0]), 2, 48) := by kernel_rfl
theorem pair_two : (Try.prog.info? 113).map (·.size) = some 2 := by kernel_rfl
/-- A value that takes one cell. -/
def One (v : Value) : Prop := v.oneCell' = true
theorem InA.one {W : World} {A : Nat → Prop} {v : Value} {q : List Int} (h : InA W A v q) : v.oneCell' = true := by
  obtain ⟨⟨g, -, e, -⟩, -⟩ := h; subst e; rfl
theorem cellsR_one {W : World} {A : Nat → Prop} {r : List Rec} (h : ∀ x ∈ r, RecAt W A x) : ∀ u ∈ cellsR r, u.oneCell' = true := by
  intro u hu
  obtain ⟨x, hx, hu⟩ := List.mem_flatMap.1 hu
  simp at hu
  rcases hu with rfl | rfl
  · exact (h x hx).1.one
  · exact (h x hx).2.one
theorem cellsR_app (r q : List Rec) : cellsR (r ++ q) = cellsR r ++ cellsR q := by simp [cellsR]
theorem cellsR_take (r : List Rec) (i : Nat) (hi : i ≤ r.length) : (cellsR r).take (i * 2) = cellsR (r.take i) := by
  have e : cellsR r = cellsR (r.take i) ++ cellsR (r.drop i) := by rw [← cellsR_app, List.take_append_drop]
  have hl : (cellsR (r.take i)).length = i * 2 := by rw [cellsR_len, List.length_take]; congr 1; omega
  rw [e, ← hl, List.take_left]
theorem cellsR_drop (r : List Rec) (i : Nat) (hi : i ≤ r.length) : (cellsR r).drop (i * 2) = cellsR (r.drop i) := by
  have e : cellsR r = cellsR (r.take i) ++ cellsR (r.drop i) := by rw [← cellsR_app, List.take_append_drop]
  have hl : (cellsR (r.take i)).length = i * 2 := by rw [cellsR_len, List.length_take]; congr 1; omega
  rw [e, ← hl, List.drop_left]
/-- What a turned row leaves: a row with this; it is the old one, or new. -/
structure RowTo (W W' : World) (base : Nat) (vp vp' : Value) (r : List Rec) : Prop where
  row : W'.ownsRow base 113 2 vp' r.length (cellsR r)
  grown : W.grownBy W' vp.ownBlock
  own : vp'.ownBlock = vp.ownBlock ∨ ∃ g, vp'.ownBlock = some g ∧ W.heap.size ≤ g

set_option maxHeartbeats 2000000 in
theorem insert_end {W : World} {base : Nat} {vp : Value} {r : List Rec} (x : Rec) (hr : W.ownsRow base 113 2 vp r.length (cellsR r)) (hb : base ≤ W.heap.size) (hn : r.length ≤ 1048576) (gb : Nat) (hx : W.heap[gb]? = some (.cells #[x.kv, x.vv] 113 (0, 0))) (h1 : x.kv.oneCell' = true) (h2 : x.vv.oneCell' = true) :
    Calls Try.prog 87 #[vp, .int .i64 (r.length : Int), .slice (some ⟨gb, 0, none⟩) 1 1] W fun e w' => ∃ v', e = .returned v' ∧ RowTo W w' base vp v' (r ++ [x]) := by
  obtain ⟨i0, hi, hz0, hz1, hz2⟩ := info_parts pair_info
  obtain ⟨av, cv, rfl⟩ := row_slice hr
  have hcl : r.length ≤ cv := by
    rcases hr.2 with ⟨e, e0⟩ | ⟨g, cap, cur, e, _, _, h3, _⟩
    · omega
    · simp at e; omega
  have hcl' : (r.length : Int) ≤ (cv : Int) := by omega
  rcases Decidable.em (cv = r.length) with rfl | hcv
  all_goals
    have hn' : (r.length : Int) ≤ 1048576 := by omega
    have hap : ∀ j u, ([x.kv, x.vv] : List Value)[j]? = some u → W.cell? (Addr.add ⟨gb, 0, none⟩ j) = some u := fun j u hj => by
      rw [add_cell, (cells_of_block hx).1]; simpa using hj
    go_enter Try.func87, Try.ntmps87
    go_wp2_with (at_builtin; refine wpList_append_own_at _ rfl _ _ 66 rfl base 113 i0 _ 2 48 Try.underlying66 hi hz0 hz1 hz2 rfl (by decide) _ r.length (cellsR r) rfl hr ⟨gb, 0, none⟩ 1 1 [x.kv, x.vv] rfl rfl hap (by simp [h1, h2]) (by unfold maxLen; omega) (by omega) hb ?_; intro v' w1 hown' hgrow _ hat)
    all_goals go_ret
    all_goals
      refine ⟨_, rfl, ?_, hgrow, ?_⟩
      · rw [List.length_append, cellsR_app]; exact hown'
      · rcases hat with e | e
        · exact .inl e
        · exact .inr ⟨_, e, Nat.le_refl _⟩

theorem splice_mid {α : Type} (X M R cs : List α) (h : M.length = cs.length) : splice (X ++ (M ++ R)) X.length cs = X ++ (cs ++ R) := by
  unfold splice
  rw [List.take_left, List.drop_length_add_append, ← h, List.drop_left]
theorem splice_two {α : Type} (X Y V R : List α) (hV : V.length = 2) (hR : 2 ≤ R.length) : splice (splice (X ++ (Y ++ R)) (X.length + 2) Y) X.length V = X ++ (V ++ (Y ++ R.drop 2)) := by
  have hT : ((Y ++ R).take 2).length = 2 := by rw [List.length_take, List.length_append]; omega
  have hM : (((Y ++ R).drop 2).take Y.length).length = Y.length := by rw [List.length_take, List.length_drop, List.length_append]; omega
  have e : Y ++ R = (Y ++ R).take 2 ++ (((Y ++ R).drop 2).take Y.length ++ ((Y ++ R).drop 2).drop Y.length) := by rw [List.take_append_drop, List.take_append_drop]
  have e2 : ((Y ++ R).drop 2).drop Y.length = R.drop 2 := by rw [List.drop_drop, Nat.add_comm, List.drop_length_add_append]
  rw [e2] at e
  generalize (Y ++ R).take 2 = T at *
  generalize ((Y ++ R).drop 2).take Y.length = M at *
  rw [e, ← List.append_assoc X T, show X.length + 2 = (X ++ T).length by rw [List.length_append, hT], splice_mid _ _ _ _ hM, List.append_assoc, splice_mid _ _ _ _ (by rw [hT, hV])]
theorem row_open {W : World} {base n : Nat} {vp : Value} {r : List Rec} (hr : W.ownsRow base 113 2 vp n (cellsR r)) (hn : n = r.length) (hpos : 0 < r.length) : ∃ g cap, ∃ R : List Value, vp = .slice (some ⟨g, 0, none⟩) r.length cap ∧ base ≤ g ∧ W.heap[g]? = some (.cells (cellsR r ++ R).toArray 113 (0, 0)) ∧ r.length ≤ cap ∧ cap ≤ maxLen ∧ r.length * 2 + R.length = cap * 2 := by
  subst hn
  rcases hr.2 with ⟨rfl, h0⟩ | ⟨g, cap, cur, rfl, h1, h2, h3, h4, h5, h6⟩
  · omega
  · refine ⟨g, cap, cur.toList.drop (r.length * 2), rfl, h1, ?_, h3, h4, ?_⟩
    · rw [← h6, List.take_append_drop]; simpa using h2
    · have e : cur.toList.length = cap * 2 := by simpa using h5
      rw [List.length_drop, e]
      have := Nat.mul_le_mul_right 2 h3
      omega
theorem overlaps_no {W : World} {ga gb : Nat} {ca cb : Array Value} {ta tb : TypeId} (ha : W.heap[ga]? = some (.cells ca ta (0, 0))) (hb : W.heap[gb]? = some (.cells cb tb (0, 0))) (hne : ga ≠ gb) (hcb : cb.size ≠ 0) (la cpa o lb cpb : Nat) :
    (callFunc 89 #[.slice (some ⟨ga, 0, none⟩) la cpa, .slice (some ⟨gb, o, none⟩) lb cpb]).run Try.prog W = .ok (.value (.bool false)) W := by
  obtain ⟨i0, hi, hz0, hz1, hz2⟩ := info_parts pair_info
  rw [run_callFunc_extern Try.func89 (by kernel_rfl) (by kernel_rfl) (by kernel_rfl) (e := Extern.SlicesOverlaps.overlaps #[66, 66] #[4]) (by kernel_rfl),
    Lib.run_overlaps_apart W 66 4 113 Try.underlying66 2 (fun w => by simp [sizeOf, typeInfo, hi, hz1]) ⟨ga, 0, none⟩ ⟨gb, o, none⟩ la cpa lb cpb hne ta tb ca.size cb.size (by simp [World.shape?, ha]) (by simp [World.shape?, hb]) hcb ((cells_of_block ha).2 _) ((cells_of_block ha).2 _)]
  rfl

set_option maxRecDepth 10000 in
set_option maxHeartbeats 4000000 in
theorem insert_room {W : World} {base g cap i : Nat} {r : List Rec} {R : List Value} (x : Rec) (hi : i < r.length) (hg : W.heap[g]? = some (.cells (cellsR r ++ R).toArray 113 (0, 0))) (hbg : base ≤ g) (hroom : r.length + 1 ≤ cap) (hcap : cap ≤ maxLen) (hR : r.length * 2 + R.length = cap * 2) (hn : r.length ≤ 1048576) (h1r : ∀ u ∈ cellsR r, u.oneCell' = true)
    (gb : Nat) (hx : W.heap[gb]? = some (.cells #[x.kv, x.vv] 113 (0, 0))) (hne : gb ≠ g) (h1 : x.kv.oneCell' = true) (h2 : x.vv.oneCell' = true) :
    Calls Try.prog 87 #[.slice (some ⟨g, 0, none⟩) r.length cap, .int .i64 (i : Int), .slice (some ⟨gb, 0, none⟩) 1 1] W fun e w' => ∃ v', e = .returned v' ∧ RowTo W w' base (.slice (some ⟨g, 0, none⟩) r.length cap) v' (r.take i ++ x :: r.drop i) := by
  have hov := fun la cpa o lb cpb => overlaps_no hx hg hne (by simp [cellsR_len]; omega) la cpa o lb cpb
  have hi' : (i : Int) < (r.length : Int) := by omega
  have hn' : (r.length : Int) ≤ 1048576 := by omega
  have hroom' : (r.length : Int) + 1 ≤ (cap : Int) := by omega
  have hcap' : (cap : Int) ≤ 9223372036854775807 := by unfold maxLen at hcap; omega
  have k1 : ¬ cap = i := by omega
  have k2 : ¬ cap = i + 1 := by omega
  have k3 : ¬ (r.length : Int) = (i : Int) := by omega
  have k4 : ¬ (i : Int) = (r.length : Int) := by omega
  have w1 : IntKind.i64.wrap ((i : Int) + 1) = (i : Int) + 1 := by rw [IntKind.wrap_i64]; omega
  have w2 : IntKind.i64.wrap ((r.length : Int) + 1) = (r.length : Int) + 1 := by rw [IntKind.wrap_i64]; omega
  have w3 : (0 : Int) ≤ (i : Int) + 1 := by omega
  have w4 : ((i : Int) + 1).toNat = i + 1 := by omega
  have w5 : ((r.length : Int) + 1).toNat = r.length + 1 := by omega
  have w6 : (i : Int) + 1 ≤ (r.length : Int) + 1 := by omega
  have w7 : (i : Int) ≤ (r.length : Int) + 1 := by omega
  have w8 : (i : Int) ≤ (r.length : Int) := by omega
  have w9 : i + 1 ≤ r.length + 1 := by omega
  have w10 : i ≤ r.length + 1 := by omega
  have w11 : (i : Int) ≤ (cap : Int) := by omega
  have eY : (cellsR r).drop (i * 2) = cellsR (r.drop i) := cellsR_drop r i (by omega)
  have hcr := cellsR_len r
  have hcd := cellsR_len (r.drop i)
  rw [List.length_drop] at hcd
  have hsrc : ∀ j v, (cellsR (r.drop i))[j]? = some v → W.cell? (Addr.add ⟨g, i * 2, none⟩ j) = some v := fun j v hj => by
    have hjl := (List.getElem?_eq_some_iff.1 hj).1
    rw [← eY, List.getElem?_drop] at hj
    rw [add_cell, (cells_of_block hg).1]
    simp only [List.getElem?_toArray]
    rw [List.getElem?_append_left (by omega)]
    exact hj
  go_enter Try.func87, Try.ntmps87
  go_wp2
  go_region_held2 (fun _ => True) (exact True.intro) (first
    | (rw [if_pos (by rfl)]; go_loud (refine wp_copy_k _ 2 _ _ 66 66 rfl 113 Try.underlying66 pair_two g ((i + 1) * 2) (r.length + 1 - (i + 1)) (cap - (i + 1)) ⟨g, i * 2, none⟩ (r.length + 1 - i) (cap - i) (by simp [Act.eval]) (by simp [Act.eval]) (cellsR r ++ R) 113 (cellsR (r.drop i)) hg (by rw [hcd]; show _ = (min _ _) * 2; omega) hsrc (by rw [hcd, List.length_append, hcr]; omega) (fun u hu => h1r u (by rw [← eY] at hu; exact List.mem_of_mem_drop hu)) ?_; intro v1 w1 HG1 hgr1)))
  have hx1 := (hgr1.block gb (Array.getElem?_eq_some_iff.1 hx).1 (by simp; omega)).trans hx
  have hap : ∀ j u, ([x.kv, x.vv] : List Value)[j]? = some u → w1.cell? (Addr.add ⟨gb, 0, none⟩ j) = some u := fun j u hj => by
    rw [add_cell, (cells_of_block hx1).1]; simpa using hj
  have hcl : (splice (cellsR r ++ R) ((i + 1) * 2) (cellsR (r.drop i))).length = cap * 2 := by
    rw [length_splice _ _ _ (by rw [hcd, List.length_append, hcr]; omega), List.length_append, hcr]; exact hR
  obtain ⟨C, hC⟩ : ∃ C, C = splice (cellsR r ++ R) ((i + 1) * 2) (cellsR (r.drop i)) := ⟨_, rfl⟩
  rw [← hC] at HG1 hcl
  have hC' : Hid _ := hC
  clear hC
  go_wp2_with (refine wpList_copy_k _ 2 rfl _ _ 66 66 rfl 113 Try.underlying66 pair_two g (i * 2) (r.length + 1 - i) (cap - i) ⟨gb, 0, none⟩ 1 1 (by simp [Act.eval]) rfl C 113 [x.kv, x.vv] HG1.out (by show 2 = (min _ _) * 2; omega) hap (by rw [hcl]; simp; omega) (by simp [h1, h2]) ?_; intro v2 w2 HG2 hgr2)
  go_ret
  have hz : r.take i ++ x :: r.drop i = r.take i ++ ([x] ++ r.drop i) := by simp
  have hfin : (splice C (i * 2) [x.kv, x.vv]) = cellsR (r.take i ++ x :: r.drop i) ++ R.drop 2 := by
    have e1 : cellsR r = cellsR (r.take i) ++ cellsR (r.drop i) := by rw [← cellsR_app, List.take_append_drop]
    have hl : (cellsR (r.take i)).length = i * 2 := by rw [cellsR_len, List.length_take]; congr 1; omega
    rw [hC'.out, e1, List.append_assoc, ← hl, show (i + 1) * 2 = (cellsR (r.take i)).length + 2 by omega, splice_two _ _ _ _ rfl (by omega), hz, cellsR_app, cellsR_app]
    simp [cellsR]
  have hlen : (r.take i ++ x :: r.drop i).length = r.length + 1 := by rw [List.length_append, List.length_cons, List.length_take, List.length_drop]; omega
  have hg2 := HG2.out
  rw [hfin] at hg2
  refine ⟨.slice (some ⟨g, 0, none⟩) (r.length + 1) cap, by simp, ⟨by rw [cellsR_len], .inr ⟨g, cap, _, by rw [hlen], hbg, hg2, by omega, hcap, ?_, ?_⟩⟩, grown_tr (grown_tr (grown_dr (grown_ref W (some g))) hgr1) hgr2, .inl rfl⟩
  · have h9 := cellsR_len (r.take i ++ x :: r.drop i)
    rw [hlen] at h9
    generalize cellsR (r.take i ++ x :: r.drop i) = D at *
    simp only [List.size_toArray, List.length_append, List.length_drop]
    omega
  · rw [← cellsR_len, List.toList_toArray, List.take_left]

theorem splice_fill {α : Type} (X Z1 Z2 V Y : List α) (hZ : Z1.length = V.length + Y.length) : splice (splice (X ++ (Z1 ++ Z2)) X.length V) (X.length + V.length) Y = X ++ (V ++ (Y ++ Z2)) := by
  have e : Z1 = Z1.take V.length ++ Z1.drop V.length := (List.take_append_drop _ _).symm
  have hT : (Z1.take V.length).length = V.length := by rw [List.length_take]; omega
  have hM : (Z1.drop V.length).length = Y.length := by rw [List.length_drop]; omega
  generalize Z1.take V.length = T at *
  generalize Z1.drop V.length = M at *
  subst e
  rw [List.append_assoc T, splice_mid _ _ _ _ hT, ← List.append_assoc X V, ← List.length_append, splice_mid _ _ _ _ hM, List.append_assoc]
theorem zeroCells_len (z : Array Value) (n : Nat) : (Builtin.zeroCells z n).toList.length = n * z.size := by simp [Builtin.zeroCells]
set_option maxRecDepth 10000 in
set_option maxHeartbeats 4000000 in
theorem insert_grow {W : World} {base g cap i : Nat} {r : List Rec} {R : List Value} (x : Rec) (hi : i < r.length) (hg : W.heap[g]? = some (.cells (cellsR r ++ R).toArray 113 (0, 0))) (hbase : base ≤ W.heap.size) (hroom : cap < r.length + 1) (hle : r.length ≤ cap) (hn : r.length ≤ 1048576) (h1r : ∀ u ∈ cellsR r, u.oneCell' = true)
    (gb : Nat) (hx : W.heap[gb]? = some (.cells #[x.kv, x.vv] 113 (0, 0))) (h1 : x.kv.oneCell' = true) (h2 : x.vv.oneCell' = true) :
    Calls Try.prog 87 #[.slice (some ⟨g, 0, none⟩) r.length cap, .int .i64 (i : Int), .slice (some ⟨gb, 0, none⟩) 1 1] W fun e w' => ∃ v', e = .returned v' ∧ RowTo W w' base (.slice (some ⟨g, 0, none⟩) r.length cap) v' (r.take i ++ x :: r.drop i) := by
  obtain ⟨i0, hi0, hz0, hz1, hz2⟩ := info_parts pair_info
  have hi' : (i : Int) < (r.length : Int) := by omega
  have hn' : (r.length : Int) ≤ 1048576 := by omega
  have hroom' : (cap : Int) < (r.length : Int) + 1 := by omega
  have k1 : ¬ cap = i := by omega
  have k4 : ¬ (i : Int) = (r.length : Int) := by omega
  have w1 : IntKind.i64.wrap ((i : Int) + 1) = (i : Int) + 1 := by rw [IntKind.wrap_i64]; omega
  have w2 : IntKind.i64.wrap ((r.length : Int) + 1) = (r.length : Int) + 1 := by rw [IntKind.wrap_i64]; omega
  have w3 : (0 : Int) ≤ (i : Int) + 1 := by omega
  have w4 : ((i : Int) + 1).toNat = i + 1 := by omega
  have w8 : (i : Int) ≤ (r.length : Int) := by omega
  have w10 : i ≤ r.length + 1 := by omega
  have w11 : (i : Int) ≤ (cap : Int) := by omega
  have eY : (cellsR r).drop (i * 2) = cellsR (r.drop i) := cellsR_drop r i (by omega)
  have eX : (cellsR r).take (i * 2) = cellsR (r.take i) := cellsR_take r i (by omega)
  have hcr := cellsR_len r
  have hcd := cellsR_len (r.drop i)
  rw [List.length_drop] at hcd
  have hl : (cellsR (r.take i)).length = i * 2 := by rw [cellsR_len, List.length_take]; congr 1; omega
  have hcg : ∀ j v, (cellsR r)[j]? = some v → W.cell? ⟨g, j, none⟩ = some v := fun j v hj => by
    have hjl := (List.getElem?_eq_some_iff.1 hj).1
    rw [(cells_of_block hg).1]
    simp only [List.getElem?_toArray]
    rw [List.getElem?_append_left (by omega)]
    exact hj
  have hold : (Builtin.firstCells i0.size i (.slice (some ⟨g, 0, none⟩) i cap)).run Try.prog W.drew = .ok (cellsR (r.take i)).toArray W.drew := by
    rw [hz1]
    exact run_firstCells_some W.drew 2 i ⟨g, 0, none⟩ i cap (cellsR (r.take i)) hl (fun j v hj => by
      rw [add_cell, Nat.zero_add]
      refine hcg j v ?_
      rw [← eX, List.getElem?_take] at hj
      split at hj
      · exact hj
      · cases hj)
  obtain ⟨v1, W1, G, ROW, hrz, hv1, hW1, hWg, hROW, hRl, hG, hGm⟩ : ∃ (v1 : Value) (W1 : World) (G : Nat) (Z : List Value × List Value), (∀ ty, (Builtin.append_ #[66, 3] ty #[.slice (some ⟨g, 0, none⟩) i cap, .int .i64 ((r.length : Int) + 1 - (i : Int))]).run Try.prog W = .ok v1 W1) ∧ v1 = .slice (some ⟨W.heap.size, 0, none⟩) (r.length + 1) G ∧ W1.heap[W.heap.size]? = some (.cells (cellsR (r.take i) ++ (Z.1 ++ Z.2)).toArray 113 (0, 0)) ∧ W.grownBy W1 none ∧ Z.1.length = (r.length + 1 - i) * 2 ∧ Z.2.length = (G - (r.length + 1)) * 2 ∧ r.length + 1 ≤ G ∧ G ≤ maxLen := by
    have hkk : (r.length : Int) + 1 - (i : Int) = ((r.length + 1 - i : Nat) : Int) := by omega
    have hik : i + (r.length + 1 - i) = r.length + 1 := by omega
    refine ⟨_, W.drew.alloc (.cells ((cellsR (r.take i)).toArray ++ Builtin.zeroCells (Value.agg #[.slice none 0 0, .slice none 0 0]).cells (r.length + 1 - i) ++ Builtin.zeroCells (Value.agg #[.slice none 0 0, .slice none 0 0]).cells (grownCap W (r.length + 1) cap 113 - (r.length + 1))) 113), grownCap W (r.length + 1) cap 113, ((Builtin.zeroCells (Value.agg #[.slice none 0 0, .slice none 0 0]).cells (r.length + 1 - i)).toList, (Builtin.zeroCells (Value.agg #[.slice none 0 0, .slice none 0 0]).cells (grownCap W (r.length + 1) cap 113 - (r.length + 1))).toList), fun ty => ?_, rfl, ?_, ?_, ?_, ?_, grownCap_ge W _ _ _, grownCap_le_maxLen W _ _ _ (by unfold maxLen; omega)⟩
    · have h := Lib.run_append_grow_zeros W 66 3 ty 113 i0 _ .i64 .i64 Try.underlying66 Try.underlying3 hi0 hz0 (some ⟨g, 0, none⟩) i cap (cellsR (r.take i)) hold (r.length + 1 - i) (by omega) (by rw [hz1]; omega) (by omega) (by omega) (by rw [hz2]; omega) (by rw [hz2, hik]; exact growslice_fits (by omega) (by omega))
      rw [hik] at h
      rw [hkk]
      exact h
    · rw [show (cellsR (r.take i) ++ ((Builtin.zeroCells (Value.agg #[.slice none 0 0, .slice none 0 0]).cells (r.length + 1 - i)).toList ++ (Builtin.zeroCells (Value.agg #[.slice none 0 0, .slice none 0 0]).cells (grownCap W (r.length + 1) cap 113 - (r.length + 1))).toList)).toArray = (cellsR (r.take i)).toArray ++ Builtin.zeroCells (Value.agg #[.slice none 0 0, .slice none 0 0]).cells (r.length + 1 - i) ++ Builtin.zeroCells (Value.agg #[.slice none 0 0, .slice none 0 0]).cells (grownCap W (r.length + 1) cap 113 - (r.length + 1)) by apply Array.ext'; simp]
      exact al_at (w := W.drew) rfl
    · exact grown_tr (grown_dr (grown_ref W none)) (World.grownBy_alloc W.drew _ none)
    · exact zeroCells_len _ _
    · exact zeroCells_len _ _
  obtain ⟨Z1, Z2⟩ := ROW
  simp only at hW1 hROW hRl
  subst hv1
  have hGi : ¬ G = i := by omega
  have hGi1 : ¬ G = i + 1 := by omega
  have hG' : (r.length : Int) + 1 ≤ (G : Int) := by omega
  have hGm' : (G : Int) ≤ 9223372036854775807 := by unfold maxLen at hGm; omega
  have hgl : g < W.heap.size := (Array.getElem?_eq_some_iff.1 hg).1
  have hbl : gb < W.heap.size := (Array.getElem?_eq_some_iff.1 hx).1
  have hx1 := (hWg.block gb hbl (by simp)).trans hx
  have hap : ∀ j u, ([x.kv, x.vv] : List Value)[j]? = some u → W1.cell? (Addr.add ⟨gb, 0, none⟩ j) = some u := fun j u hj => by
    rw [add_cell, (cells_of_block hx1).1]; simpa using hj
  have hsrc : ∀ j v, (cellsR (r.drop i))[j]? = some v → W.cell? (Addr.add ⟨g, i * 2, none⟩ j) = some v := fun j v hj => by
    rw [← eY, List.getElem?_drop] at hj
    rw [add_cell]; exact hcg _ v hj
  obtain ⟨C0, hC0⟩ : ∃ C, C = cellsR (r.take i) ++ (Z1 ++ Z2) := ⟨_, rfl⟩
  have hC0l : C0.length = G * 2 := by rw [hC0, List.length_append, List.length_append, hl, hROW, hRl]; omega
  rw [← hC0] at hW1
  have hC0' : Hid _ := hC0
  have hW1' : Hid _ := hW1
  clear hC0 hW1 hold
  go_enter Try.func87, Try.ntmps87
  go_wp2_with (first
    | (at_builtin; refine Lib.wpList_append_run _ rfl _ _ _ _ rfl _ _ rfl rfl _ _ (hrz _) ?_)
    | (refine wpList_copy_k _ 2 rfl _ _ 66 66 rfl 113 Try.underlying66 pair_two W.heap.size (i * 2) (r.length + 1 - i) (G - i) ⟨gb, 0, none⟩ 1 1 (by simp [Act.eval]) rfl C0 113 [x.kv, x.vv] hW1'.out (by show 2 = (min _ _) * 2; omega) hap (by rw [hC0l]; simp; omega) (by simp [h1, h2]) ?_; intro v2 w2 HG2 hgr2))
  have hcl : (splice C0 (i * 2) [x.kv, x.vv]).length = G * 2 := by
    rw [length_splice _ _ _ (by simp; omega)]; exact hC0l
  have hsrc2 : ∀ j v, (cellsR (r.drop i))[j]? = some v → w2.cell? (Addr.add ⟨g, i * 2, none⟩ j) = some v := fun j v hj => hgr2.cell (hWg.cell (hsrc j v hj) (by simp)) (by rw [add_cell]; simp; omega)
  obtain ⟨C, hC⟩ : ∃ C, C = splice C0 (i * 2) [x.kv, x.vv] := ⟨_, rfl⟩
  rw [← hC] at HG2 hcl
  have hC' : Hid _ := hC
  clear hC
  go_region_held2 (fun _ => True) (exact True.intro) (first
    | (rw [if_pos (by rfl)]; refine wp_copy_k _ 2 _ _ 66 66 rfl 113 Try.underlying66 pair_two W.heap.size ((i + 1) * 2) (r.length + 1 - (i + 1)) (G - (i + 1)) ⟨g, i * 2, none⟩ (r.length - i) (cap - i) (by simp [Act.eval]) (by simp [Act.eval]) C 113 (cellsR (r.drop i)) HG2.out (by rw [hcd]; show _ = (min _ _) * 2; omega) hsrc2 (by rw [hcd, hcl]; omega) (fun u hu => h1r u (by rw [← eY] at hu; exact List.mem_of_mem_drop hu)) ?_; intro v3 w3 HG3 hgr3))
  go_wp2
  go_ret
  have hz : r.take i ++ x :: r.drop i = r.take i ++ ([x] ++ r.drop i) := by simp
  have hfin : (splice C ((i + 1) * 2) (cellsR (r.drop i))) = cellsR (r.take i ++ x :: r.drop i) ++ Z2 := by
    rw [hC'.out, hC0'.out, ← hl, show (i + 1) * 2 = (cellsR (r.take i)).length + ([x.kv, x.vv] : List Value).length by simp; omega, splice_fill _ _ _ _ _ (by rw [hROW, hcd]; simp; omega), hz, cellsR_app, cellsR_app]
    simp [cellsR]
  have hlen : (r.take i ++ x :: r.drop i).length = r.length + 1 := by rw [List.length_append, List.length_cons, List.length_take, List.length_drop]; omega
  have hg2 := HG3.out
  rw [hfin] at hg2
  have hgA : W.grownBy w3 (some g) := grown_own (grown_own (grown_up hWg) hgr2 (by simp)) (grown_tr (grown_dr (grown_ref w2 _)) hgr3) (by simp)
  refine ⟨.slice (some ⟨W.heap.size, 0, none⟩) (r.length + 1) G, by simp, ⟨by rw [cellsR_len], .inr ⟨W.heap.size, G, _, by rw [hlen], hbase, hg2, by omega, hGm, ?_, ?_⟩⟩, hgA, .inr ⟨_, rfl, Nat.le_refl _⟩⟩
  · have h9 := cellsR_len (r.take i ++ x :: r.drop i)
    rw [hlen] at h9
    generalize cellsR (r.take i ++ x :: r.drop i) = D at *
    simp only [List.size_toArray, List.length_append]
    omega
  · rw [← cellsR_len, List.toList_toArray, List.take_left]
end Go.Proofs.Ytgphdioolcfmmaa

/- slices.Insert at any place; slices.Delete. -/
namespace Go.Proofs.Ytgphdioolcfmmaa
open Go.RowKit

theorem insert_any {W : World} {base i : Nat} {A : Nat → Prop} {vp : Value} {r : List Rec} (x : Rec) (hr : W.ownsRow base 113 2 vp r.length (cellsR r)) (hrec : ∀ x ∈ r, RecAt W A x) (hb : base ≤ W.heap.size) (hn : r.length ≤ 1048576) (hi : i ≤ r.length) (gb : Nat) (hx : W.heap[gb]? = some (.cells #[x.kv, x.vv] 113 (0, 0))) (hne : vp.ownBlock ≠ some gb) (h1 : x.kv.oneCell' = true) (h2 : x.vv.oneCell' = true) :
    Calls Try.prog 87 #[vp, .int .i64 (i : Int), .slice (some ⟨gb, 0, none⟩) 1 1] W fun e w' => ∃ v', e = .returned v' ∧ RowTo W w' base vp v' (r.take i ++ x :: r.drop i) := by
  by_cases e : i = r.length
  · subst e
    rw [List.take_length, List.drop_length]
    exact insert_end x hr hb hn gb hx h1 h2
  · obtain ⟨g, cap, R, rfl, k1, k2, k3, k4, k5⟩ := row_open hr rfl (by omega)
    by_cases hc : r.length + 1 ≤ cap
    · exact insert_room x (by omega) k2 k1 hc k4 k5 hn (cellsR_one hrec) gb hx (fun e => hne (by rw [e]; rfl)) h1 h2
    · exact insert_grow x (by omega) k2 hb (by omega) k3 hn (cellsR_one hrec) gb hx h1 h2

theorem wp_append_fits {P : Program} (w : World) {o : Oper} {a : Act} {K : Act → World → Prop} {Q : Exit → Act → World → Prop} (s x : Operand) (t : TypeId)
    (ho : o.op = .call { callee := .builtin .append, args := #[s, x], argTypes := #[t, t] }) (base : Nat) (e : TypeId) (i : TypeInfo) (size : Nat) (ht : P.underlying t = some (.slice e)) (hi : P.info? e = some i) (hsize : i.size = size)
    (g n cap : Nat) (xs : List Value) (hown : w.ownsRow base e size (.slice (some ⟨g, 0, none⟩) n cap) n xs) (hs : a.eval s = .slice (some ⟨g, 0, none⟩) n cap)
    (ad : Addr) (m c : Nat) (news : List Value) (hx : a.eval x = .slice (some ad) m c) (hl : news.length = m * size) (hnews : ∀ j u, news[j]? = some u → w.cell? (ad.add j) = some u) (h1 : ∀ u ∈ news, u.oneCell' = true) (hroom : n + m ≤ cap)
    (h : ∀ w', w'.ownsRow base e size (.slice (some ⟨g, 0, none⟩) (n + m) cap) (n + m) (xs ++ news) → w.grownBy w' (some g) → K (a.put o.dst (.slice (some ⟨g, 0, none⟩) (n + m) cap)) w') : o.wp P a w K Q := by
  obtain ⟨w', hr, h2, h3⟩ := run_append_fits (P := P) w base t o.type e i size ht hi hsize g n cap xs hown ad m c news hl hnews h1 hroom
  unfold Oper.wp execOp
  simp only [ho, resolve, invoke, builtin, Sem.run_bind, Sem.run_pure, Result.andThen_ok, List.map_toArray, List.map_cons, List.map_nil, hs, hx, hr]
  exact h w' h2 h3
theorem run_clear_one {w : World} (ty : TypeId) {g o c : Nat} {cur : List Value} (hg : w.heap[g]? = some (.cells cur.toArray 113 (0, 0))) (hfit : o + 2 ≤ cur.length) :
    ∃ w', (Builtin.clear_ #[66] ty #[.slice (some ⟨g, o, none⟩) 1 c]).run Try.prog w = .ok (.tuple #[]) w' ∧ w'.heap[g]? = some (.cells (splice cur o [.slice none 0 0, .slice none 0 0]).toArray 113 (0, 0)) ∧ w.grownBy w' (some g) := by
  obtain ⟨i0, hi, hz0, hz1, hz2⟩ := info_parts pair_info
  have hst := run_storeCells_at Try.prog g o 113 [.slice none 0 0, .slice none 0 0] 0 cur.toArray w hg (by simpa using hfit) (by simp [Value.oneCell'])
  refine ⟨w.setRow g (splice cur o [.slice none 0 0, .slice none 0 0]).toArray, ?_, setRow_heap w g _ _ _ _ hg, ⟨rfl, rfl, rfl, by simp [World.setRow], fun n _ hne => setRow_other w g n _ (fun e => hne (by rw [e]))⟩⟩
  have hst' : (storeCells ⟨g, o, none⟩ [.slice none 0 0, .slice none 0 0]).run Try.prog w = .ok () (w.setRow g (splice cur o [.slice none 0 0, .slice none 0 0]).toArray) := by
    simpa [splice, List.append_assoc] using hst
  have hzc : (Builtin.zeroCells (Value.agg #[.slice none 0 0, .slice none 0 0]).cells 1).toList = [.slice none 0 0, .slice none 0 0] := by kernel_rfl
  simp [Builtin.clear_, run_underlying Try.underlying66, zeroValue, typeInfo, hi, hz0, hzc, hst']
theorem wpList_clear_one {w : World} {ops : Array Oper} {rest : List Oper} {o : Oper} {a : Act} {Q : Exit → Act → World → Prop} (hgd : o.guard = none) (s : Operand)
    (ho : o.op = .call { callee := .builtin .clear, args := #[s], argTypes := #[66] }) (g off c : Nat) (cur : List Value) (hs : a.eval s = .slice (some ⟨g, off, none⟩) 1 c) (hg : w.heap[g]? = some (.cells cur.toArray 113 (0, 0))) (hfit : off + 2 ≤ cur.length)
    (h : ∀ w', Hid (w'.heap[g]? = some (.cells (splice cur off [.slice none 0 0, .slice none 0 0]).toArray 113 (0, 0))) → w.grownBy w' (some g) → wpList Try.prog ops Q rest (a.put o.dst (.tuple #[])) w') : wpList Try.prog ops Q (o :: rest) a w := by
  refine wpList_plain hgd fun K hK => ?_
  obtain ⟨w', hr, h2, h3⟩ := run_clear_one (w := w) o.type (c := c) hg hfit
  unfold Oper.wp execOp
  simp only [ho, resolve, invoke, builtin, Sem.run_bind, Sem.run_pure, Result.andThen_ok, List.map_toArray, List.map_cons, List.map_nil, hs, hr]
  exact hK _ _ (h w' h2 h3)

set_option maxRecDepth 10000 in
set_option maxHeartbeats 4000000 in
theorem delete_mid {W : World} {base i g cap : Nat} {A : Nat → Prop} {r : List Rec} {R : List Value} (hrec : ∀ x ∈ r, RecAt W A x) (hn : r.length ≤ 1048576) (hi : i < r.length) (k1 : base ≤ g) (hg : W.heap[g]? = some (.cells (cellsR r ++ R).toArray 113 (0, 0))) (k3 : r.length ≤ cap) (k4 : cap ≤ maxLen) (k5 : r.length * 2 + R.length = cap * 2) (hc : ¬ cap = i + 1) :
    Calls Try.prog 86 #[.slice (some ⟨g, 0, none⟩) r.length cap, .int .i64 (i : Int), .int .i64 ((i : Int) + 1)] W fun e w' => ∃ v', e = .returned v' ∧ RowTo W w' base (.slice (some ⟨g, 0, none⟩) r.length cap) v' (r.take i ++ r.drop (i + 1)) := by
  obtain ⟨i0, hi0, hz0, hz1, hz2⟩ := info_parts pair_info
  have h1r := cellsR_one hrec
  have hcr := cellsR_len r
  have hl : (cellsR (r.take i)).length = i * 2 := by rw [cellsR_len, List.length_take]; congr 1; omega
  have hcd := cellsR_len (r.drop (i + 1))
  rw [List.length_drop] at hcd
  have eY : (cellsR r).drop ((i + 1) * 2) = cellsR (r.drop (i + 1)) := cellsR_drop r (i + 1) (by omega)
  have eX : (cellsR r).take (i * 2) = cellsR (r.take i) := cellsR_take r i (by omega)
  have hown : W.drew.ownsRow base 113 2 (.slice (some ⟨g, 0, none⟩) i cap) i (cellsR (r.take i)) := by
    refine ⟨hl, .inr ⟨g, cap, _, rfl, k1, hg, by omega, k4, ?_, ?_⟩⟩
    · simp [hcr]; omega
    · rw [List.toList_toArray, List.take_append_of_le_length (by omega)]; exact eX
  have hsrc : ∀ j v, (cellsR (r.drop (i + 1)))[j]? = some v → W.drew.cell? (Addr.add ⟨g, (i + 1) * 2, none⟩ j) = some v := fun j v hj => by
    have hjl := (List.getElem?_eq_some_iff.1 hj).1
    rw [← eY, List.getElem?_drop] at hj
    rw [add_cell, (cells_of_block (W := W.drew) hg).1]
    simp only [List.getElem?_toArray]
    rw [List.getElem?_append_left (by omega)]
    exact hj
  have hi' : (i : Int) < (r.length : Int) := by omega
  have hn' : (r.length : Int) ≤ 1048576 := by omega
  have hcap' : (cap : Int) ≤ 9223372036854775807 := by unfold maxLen at k4; omega
  have w0 : (r.length : Int) ≤ (cap : Int) := by omega
  have w1 : (i : Int) ≤ (cap : Int) := by omega
  have w2 : (i : Int) + 1 ≤ (r.length : Int) := by omega
  have w3 : (0 : Int) ≤ (i : Int) + 1 := by omega
  have w4 : ((i : Int) + 1).toNat = i + 1 := by omega
  have w5 : (i : Int) ≤ (i : Int) + 1 := by omega
  have w6 : ¬ (i : Int) = (i : Int) + 1 := by omega
  obtain ⟨n1, hn1⟩ : ∃ n1, r.length = n1 + 1 := ⟨r.length - 1, by omega⟩
  have w7 : i + (r.length - (i + 1)) = n1 := by omega
  have w8 : (n1 : Int) ≤ (r.length : Int) := by omega
  have w9 : r.length - n1 = 1 := by omega
  have w10 : ¬ cap = n1 := by omega
  have w11 : (n1 : Int) ≤ (cap : Int) := by omega
  have hn1' : Hid _ := hn1
  have hlen : (r.take i ++ r.drop (i + 1)).length = n1 := by rw [List.length_append, List.length_take, List.length_drop]; omega
  have hlen' : Hid _ := hlen
  clear hn1 hlen
  have hF1 : i + (r.length - (i + 1)) ≤ cap := by omega
  have hF2 : n1 * 2 + 2 ≤ cap * 2 := by have := hn1'.out; omega
  have hF3 : n1 ≤ cap := by omega
  clear k5
  go_enter Try.func86, Try.ntmps86
  go_wp2
  go_region_held2 (fun _ => True) (exact True.intro) (first
    | (rw [if_pos (by rfl)]; (refine wp_append_fits _ _ _ 66 rfl base 113 i0 2 Try.underlying66 hi0 hz1 g i _ (cellsR (r.take i)) hown rfl ⟨g, _, none⟩ (r.length - (i + 1)) _ (cellsR (r.drop (i + 1))) rfl (by rw [hcd]) hsrc (fun u hu => h1r u (by rw [← eY] at hu; exact List.mem_of_mem_drop hu)) hF1 ?_; intro w1 hown1 hg1)))
  rw [w7] at hown1
  rcases hown1.2 with ⟨e, -⟩ | ⟨g', cap', cur, e, -, hgb, -, -, hcs, htk⟩
  · simp at e
  simp at e
  obtain ⟨rfl, rfl⟩ := e
  have hcl : cur.toList.length = cap * 2 := by simpa using hcs
  have hgb' : Hid (w1.heap[g]? = some (.cells cur.toList.toArray 113 (0, 0))) := by unfold Hid; rw [Array.toArray_toList]; exact hgb
  have htk' : Hid _ := htk
  generalize cur.toList = C at *
  clear hgb htk
  go_wp2_with (refine wpList_clear_one rfl _ rfl g (n1 * 2) _ C rfl hgb'.out (by rw [hcl]; exact hF2) ?_; intro w2 HG2 hg2)
  go_ret
  have e1 := hn1'.out
  refine ⟨.slice (some ⟨g, 0, none⟩) n1 cap, by simp, ⟨by rw [cellsR_len], .inr ⟨g, cap, _, by rw [hlen'.out], k1, HG2.out, by rw [hlen'.out]; exact hF3, k4, ?_, ?_⟩⟩, grown_tr (grown_tr (grown_dr (grown_ref W _)) hg1) hg2, .inl rfl⟩
  · rw [List.size_toArray, length_splice _ _ _ (by rw [hcl]; exact hF2), hcl]
  · rw [hlen'.out, List.toList_toArray, splice, List.take_append_of_le_length (by rw [List.length_take, hcl]; omega), List.take_take, Nat.min_self, htk'.out, cellsR_app]

/-- The last one, where there is no room behind it. -/
theorem delete_last {W : World} {base i g : Nat} {A : Nat → Prop} {r : List Rec} {R : List Value} (hrec : ∀ x ∈ r, RecAt W A x) (hn : r.length ≤ 1048576) (hi : i + 1 = r.length) (k1 : base ≤ g) (hg : W.heap[g]? = some (.cells (cellsR r ++ R).toArray 113 (0, 0))) (k5 : R = []) :
    Calls Try.prog 86 #[.slice (some ⟨g, 0, none⟩) r.length r.length, .int .i64 (i : Int), .int .i64 (r.length : Int)] W fun e w' => ∃ v', e = .returned v' ∧ RowTo W w' base (.slice (some ⟨g, 0, none⟩) r.length r.length) v' (r.take i) := by
  obtain ⟨i0, hi0, hz0, hz1, hz2⟩ := info_parts pair_info
  subst k5
  rw [List.append_nil] at hg
  have hcr := cellsR_len r
  have hl : (cellsR (r.take i)).length = i * 2 := by rw [cellsR_len, List.length_take]; congr 1; omega
  have eX : (cellsR r).take (i * 2) = cellsR (r.take i) := cellsR_take r i (by omega)
  have hown : W.drew.ownsRow base 113 2 (.slice (some ⟨g, 0, none⟩) i r.length) i (cellsR (r.take i)) := by
    refine ⟨hl, .inr ⟨g, r.length, _, rfl, k1, hg, by omega, by unfold maxLen; omega, ?_, ?_⟩⟩
    · simp [hcr]
    · rw [List.toList_toArray]; exact eX
  have w1 : (i : Int) ≤ (r.length : Int) := by omega
  have w6 : ¬ (i : Int) = (r.length : Int) := by omega
  have w9 : r.length - i = 1 := by omega
  have w10 : ¬ r.length = i := by omega
  have hn' : (r.length : Int) ≤ 1048576 := by omega
  have hlen : (r.take i).length = i := by rw [List.length_take]; omega
  have hlen' : Hid _ := hlen
  have hi' : Hid _ := hi
  have hF1 : i + 0 ≤ r.length := by omega
  have hF2 : i * 2 + 2 ≤ r.length * 2 := by omega
  have hF3 : i ≤ r.length := by omega
  clear hlen hi
  go_enter Try.func86, Try.ntmps86
  go_wp2
  go_region_held2 (fun _ => True) (exact True.intro) (first
    | (rw [if_pos (by rfl)]; refine wp_append_fits _ _ _ 66 rfl base 113 i0 2 Try.underlying66 hi0 hz1 g i r.length (cellsR (r.take i)) hown rfl ⟨g, _, none⟩ 0 _ [] rfl rfl (fun j u hj => by simp at hj) (by simp) hF1 ?_; intro w1 hown1 hg1))
  rw [Nat.add_zero, List.append_nil] at hown1
  rcases hown1.2 with ⟨e, -⟩ | ⟨g', cap', cur, e, -, hgb, -, -, hcs, htk⟩
  · simp at e
  simp at e
  obtain ⟨rfl, rfl⟩ := e
  have hcl : cur.toList.length = r.length * 2 := by simpa using hcs
  have hgb' : Hid (w1.heap[g]? = some (.cells cur.toList.toArray 113 (0, 0))) := by unfold Hid; rw [Array.toArray_toList]; exact hgb
  have htk' : Hid _ := htk
  generalize cur.toList = C at *
  clear hgb htk
  go_wp2_with (refine wpList_clear_one rfl _ rfl g (i * 2) _ C rfl hgb'.out (by rw [hcl]; exact hF2) ?_; intro w2 HG2 hg2)
  go_ret
  refine ⟨.slice (some ⟨g, 0, none⟩) i r.length, by simp, ⟨by rw [cellsR_len], .inr ⟨g, r.length, _, by rw [hlen'.out], k1, HG2.out, by rw [hlen'.out]; exact hF3, by unfold maxLen; omega, ?_, ?_⟩⟩, grown_tr (grown_tr (grown_dr (grown_ref W _)) hg1) hg2, .inl rfl⟩
  · rw [List.size_toArray, length_splice _ _ _ (by rw [hcl]; exact hF2), hcl]
  · rw [hlen'.out, List.toList_toArray, splice, List.take_append_of_le_length (by rw [List.length_take, hcl]; omega), List.take_take, Nat.min_self, htk'.out]

theorem delete_any {W : World} {base i : Nat} {A : Nat → Prop} {vp : Value} {r : List Rec} (hr : W.ownsRow base 113 2 vp r.length (cellsR r)) (hrec : ∀ x ∈ r, RecAt W A x) (hn : r.length ≤ 1048576) (hi : i < r.length) :
    Calls Try.prog 86 #[vp, .int .i64 (i : Int), .int .i64 ((i : Int) + 1)] W fun e w' => ∃ v', e = .returned v' ∧ RowTo W w' base vp v' (r.take i ++ r.drop (i + 1)) := by
  obtain ⟨g, cap, R, rfl, k1, hg, k3, k4, k5⟩ := row_open hr rfl (by omega)
  by_cases hc : cap = i + 1
  · have e : i + 1 = r.length := by omega
    have e2 : cap = r.length := by omega
    subst e2
    rw [List.drop_of_length_le (by omega), List.append_nil, show (i : Int) + 1 = (r.length : Int) by omega]
    exact delete_last hrec hn e k1 hg (List.eq_nil_of_length_eq_zero (by omega))
  · exact delete_mid hrec hn hi k1 hg k3 k4 k5 hc
end Go.Proofs.Ytgphdioolcfmmaa

/- store: what a turned row leaves; where a key is; how many there are. -/
namespace Go.Proofs.Ytgphdioolcfmmaa
open Go.RowKit

/-- Nothing that was there has turned but what is the store's; what is the store's was it, or is new. -/
structure Fr (W W' : World) (A A' : Nat → Prop) : Prop where
  os : W'.os = W.os
  tape : W'.tape = W.tape
  output : W'.output = W.output
  size : W.heap.size ≤ W'.heap.size
  block : ∀ k, k < W.heap.size → ¬ A k → W'.heap[k]? = W.heap[k]?
  sub : ∀ k, A' k → A k ∨ W.heap.size ≤ k
  sup : ∀ k, A k → A' k
theorem Fr.trans {U V W : World} {A B C : Nat → Prop} (h : Fr U V A B) (k : Fr V W B C) : Fr U W A C := by
  refine ⟨k.os.trans h.os, k.tape.trans h.tape, k.output.trans h.output, Nat.le_trans h.size k.size, fun n hn hA => (k.block n (Nat.lt_of_lt_of_le hn h.size) (fun hB => ?_)).trans (h.block n hn hA), fun n hC => ?_, fun n hA => k.sup n (h.sup n hA)⟩
  · rcases h.sub n hB with h1 | h1
    · exact hA h1
    · omega
  · rcases k.sub n hC with h1 | h1
    · exact h.sub n h1
    · exact .inr (Nat.le_trans h.size h1)
theorem Fr.below {W W' : World} {A : Nat → Prop} (h : Below W.heap.size W W') : Fr W W' A A := ⟨h.os, h.tape, h.output, h.size, fun k hk _ => h.block k hk, fun _ h => .inl h, fun _ h => h⟩
/-- More is the store's. -/
theorem Fr.more {W : World} {A B : Nat → Prop} (h : ∀ k, A k → B k) (hb : ∀ k, B k → A k ∨ W.heap.size ≤ k) : Fr W W A B := ⟨rfl, rfl, rfl, Nat.le_refl _, fun _ _ _ => rfl, hb, h⟩
theorem Fr.out {w W W' : World} {A B : Nat → Prop} (h : Below w.heap.size w W) (k : Fr W W' A B) (hA : ∀ n, A n → w.heap.size ≤ n) : Below w.heap.size w W' :=
  ⟨k.os.trans h.os, k.tape.trans h.tape, k.output.trans h.output, Nat.le_trans h.size k.size, fun n hn => (k.block n (Nat.lt_of_lt_of_le hn h.size) (fun e => by have := hA n e; omega)).trans (h.block n hn)⟩
theorem StC.ext {W : World} {s base : Nat} {A B : Nat → Prop} {vp vj vb : Value} {r : List Rec} {j : List Was} {b : List Nat} (h : StC W s base A vp vj vb r j b) (hAB : ∀ k, A k → B k) (hB : ∀ k, B k → base ≤ k ∧ k < W.heap.size) : StC W s base B vp vj vb r j b where
  blk := h.blk
  pairs := h.pairs
  jour := h.jour
  begun := h.begun
  recs := fun x hx => ⟨(h.recs x hx).1.mono hAB, (h.recs x hx).2.mono hAB⟩
  was := fun x hx => ⟨(h.was x hx).1.mono hAB, fun t => ((h.was x hx).2.1 t).mono hAB, (h.was x hx).2.2⟩
  foot := hB
  a0 := hAB _ h.a0
  ap := fun g hg => hAB _ (h.ap g hg)
  aj := fun g hg => hAB _ (h.aj g hg)
  ab := fun g hg => hAB _ (h.ab g hg)
  le := h.le

/-- Bytes are where no row of another kind turns. -/
theorem InA.grow {W W' : World} {A : Nat → Prop} {v u : Value} {q : List Int} {base : Nat} {e : TypeId} {size n : Nat} {xs : List Value} (h : InA W A v q) (hr : W.ownsRow base e size u n xs) (he : 5 ≠ e) (hg : W.grownBy W' u.ownBlock) : InA W' A v q := by
  obtain ⟨⟨g, h1, h2⟩, h3⟩ := h
  exact ⟨⟨g, h1, h2.kept (hg.block g h2.lt (not_row h2.2 he hr))⟩, h3⟩
theorem InA.set {W : World} {A : Nat → Prop} {v u : Value} {q : List Int} {s o : Nat} {c : Array Value} (h : InA W A v q) (hs : W.heap[s]? = some (.cells c 70 (0, 0))) : InA (W.setCell ⟨s, o, none⟩ u) A v q := by
  obtain ⟨⟨g, h1, h2⟩, h3⟩ := h
  refine ⟨⟨g, h1, h2.kept (Below.heap_setCell W ⟨s, o, none⟩ u g (fun e => ?_))⟩, h3⟩
  have h4 := h2.2
  rw [e, hs] at h4
  simp at h4
theorem RecAt.grow {W W' : World} {A : Nat → Prop} {x : Rec} {u : Value} {base : Nat} {e : TypeId} {size n : Nat} {xs : List Value} (h : RecAt W A x) (hr : W.ownsRow base e size u n xs) (he : 5 ≠ e) (hg : W.grownBy W' u.ownBlock) : RecAt W' A x := ⟨h.1.grow hr he hg, h.2.grow hr he hg⟩
theorem WasAt.grow {W W' : World} {A : Nat → Prop} {x : Was} {u : Value} {base : Nat} {e : TypeId} {size n : Nat} {xs : List Value} (h : WasAt W A x) (hr : W.ownsRow base e size u n xs) (he : 5 ≠ e) (hg : W.grownBy W' u.ownBlock) : WasAt W' A x := ⟨h.1.grow hr he hg, fun t => (h.2.1 t).grow hr he hg, h.2.2⟩
theorem RecAt.set {W : World} {A : Nat → Prop} {x : Rec} {u : Value} {s o : Nat} {c : Array Value} (h : RecAt W A x) (hs : W.heap[s]? = some (.cells c 70 (0, 0))) : RecAt (W.setCell ⟨s, o, none⟩ u) A x := ⟨h.1.set hs, h.2.set hs⟩
theorem WasAt.set {W : World} {A : Nat → Prop} {x : Was} {u : Value} {s o : Nat} {c : Array Value} (h : WasAt W A x) (hs : W.heap[s]? = some (.cells c 70 (0, 0))) : WasAt (W.setCell ⟨s, o, none⟩ u) A x := ⟨h.1.set hs, fun t => (h.2.1 t).set hs, h.2.2⟩
theorem row_set_other {W : World} {base : Nat} {e : TypeId} {size n s o : Nat} {v u : Value} {xs : List Value} {c : Array Value} {t : TypeId} (h : W.ownsRow base e size v n xs) (hs : W.heap[s]? = some (.cells c t (0, 0))) (ht : t ≠ e) : (W.setCell ⟨s, o, none⟩ u).ownsRow base e size v n xs :=
  h.kept (grown_se (grown_ref W (some s)) o u) (.inr (fun e => not_row hs ht h e.symm))
/-- The pairs' row was turned, and is laid into the store anew. -/
theorem StC.pairs_to {W W1 : World} {s base : Nat} {A : Nat → Prop} {vp vj vb vp' : Value} {r r' : List Rec} {j : List Was} {b : List Nat} (h : StC W s base A vp vj vb r j b) (hT : RowTo W W1 base vp vp' r') (hrec : ∀ x ∈ r', RecAt W A x) :
    StC (W1.setCell ⟨s, 0, none⟩ vp') s base (fun k => A k ∨ vp'.ownBlock = some k) vp' vj vb r' j b ∧ Fr W (W1.setCell ⟨s, 0, none⟩ vp') A (fun k => A k ∨ vp'.ownBlock = some k) := by
  have hg := hT.grown
  have hsz : (W1.setCell ⟨s, 0, none⟩ vp').heap.size = W1.heap.size := by simp [World.setCell]
  have hb1 := (hg.block s (Array.getElem?_eq_some_iff.1 h.blk).1 (not_row h.blk (by decide) h.pairs)).trans h.blk
  have mono : ∀ k, A k → A k ∨ vp'.ownBlock = some k := fun k hk => .inl hk
  have hb2 : (W1.setCell ⟨s, 0, none⟩ vp').heap[s]? = some (.cells #[vp', vj, vb] 70 (0, 0)) := by rw [block_set _ hb1]; rfl
  refine ⟨⟨hb2, row_set_other hT.row hb1 (by decide), row_set_other (h.jour.kept hg (rows_apart h.jour h.pairs (by decide))) hb1 (by decide), row_set_other (h.begun.kept hg (rows_apart h.begun h.pairs (by decide))) hb1 (by decide), fun x hx => ?_, fun x hx => ?_, ?_, mono _ h.a0, fun g hg => .inr hg, fun g hg => mono _ (h.aj g hg), fun g hg => mono _ (h.ab g hg), by rw [hsz]; exact Nat.le_trans h.le hg.size⟩, ?_⟩
  · have := ((hrec x hx).grow h.pairs (by decide) hg).set (u := vp') (o := 0) hb1
    exact ⟨this.1.mono mono, this.2.mono mono⟩
  · have := ((h.was x hx).grow h.pairs (by decide) hg).set (u := vp') (o := 0) hb1
    exact ⟨this.1.mono mono, fun t => (this.2.1 t).mono mono, this.2.2⟩
  · intro k hk
    rw [hsz]
    rcases hk with hk | hk
    · exact ⟨(h.foot k hk).1, Nat.lt_of_lt_of_le (h.foot k hk).2 hg.size⟩
    · exact hT.row.lt k hk
  · refine ⟨hg.os, hg.tape, hg.output, by rw [hsz]; exact hg.size, fun k hk hA => ?_, fun k hk => ?_, mono⟩
    · rw [Below.heap_setCell W1 ⟨s, 0, none⟩ vp' k (fun e => hA (by rw [e]; exact h.a0))]
      exact hg.block k hk (fun e => hA (h.ap k e.symm))
    · rcases hk with hk | hk
      · exact .inl hk
      · rcases hT.own with e | ⟨g, e, hge⟩
        · exact .inl (h.ap k (by rw [← e]; exact hk))
        · rw [e] at hk; simp at hk; exact .inr (by omega)
/-- The same of the journal's. -/
theorem StC.jour_to {W W1 : World} {s base : Nat} {A : Nat → Prop} {vp vj vb vj' : Value} {r : List Rec} {j j' : List Was} {b : List Nat} (h : StC W s base A vp vj vb r j b) (hrow : W1.ownsRow base 132 3 vj' j'.length (cellsJ j')) (hg : W.grownBy W1 vj.ownBlock) (hown : vj'.ownBlock = none ∨ vj'.ownBlock = vj.ownBlock ∨ ∃ g, vj'.ownBlock = some g ∧ W.heap.size ≤ g) (hrec : ∀ x ∈ j', WasAt W A x) :
    StC (W1.setCell ⟨s, 1, none⟩ vj') s base (fun k => A k ∨ vj'.ownBlock = some k) vp vj' vb r j' b ∧ Fr W (W1.setCell ⟨s, 1, none⟩ vj') A (fun k => A k ∨ vj'.ownBlock = some k) := by
  have hsz : (W1.setCell ⟨s, 1, none⟩ vj').heap.size = W1.heap.size := by simp [World.setCell]
  have hb1 := (hg.block s (Array.getElem?_eq_some_iff.1 h.blk).1 (not_row h.blk (by decide) h.jour)).trans h.blk
  have mono : ∀ k, A k → A k ∨ vj'.ownBlock = some k := fun k hk => .inl hk
  have hb2 : (W1.setCell ⟨s, 1, none⟩ vj').heap[s]? = some (.cells #[vp, vj', vb] 70 (0, 0)) := by rw [block_set _ hb1]; rfl
  refine ⟨⟨hb2, row_set_other (h.pairs.kept hg (rows_apart h.pairs h.jour (by decide))) hb1 (by decide), row_set_other hrow hb1 (by decide), row_set_other (h.begun.kept hg (rows_apart h.begun h.jour (by decide))) hb1 (by decide), fun x hx => ?_, fun x hx => ?_, ?_, mono _ h.a0, fun g hg => mono _ (h.ap g hg), fun g hg => .inr hg, fun g hg => mono _ (h.ab g hg), by rw [hsz]; exact Nat.le_trans h.le hg.size⟩, ?_⟩
  · have := ((h.recs x hx).grow h.jour (by decide) hg).set (u := vj') (o := 1) hb1
    exact ⟨this.1.mono mono, this.2.mono mono⟩
  · have := ((hrec x hx).grow h.jour (by decide) hg).set (u := vj') (o := 1) hb1
    exact ⟨this.1.mono mono, fun t => (this.2.1 t).mono mono, this.2.2⟩
  · intro k hk
    rw [hsz]
    rcases hk with hk | hk
    · exact ⟨(h.foot k hk).1, Nat.lt_of_lt_of_le (h.foot k hk).2 hg.size⟩
    · exact hrow.lt k hk
  · refine ⟨hg.os, hg.tape, hg.output, by rw [hsz]; exact hg.size, fun k hk hA => ?_, fun k hk => ?_, mono⟩
    · rw [Below.heap_setCell W1 ⟨s, 1, none⟩ vj' k (fun e => hA (by rw [e]; exact h.a0))]
      exact hg.block k hk (fun e => hA (h.aj k e.symm))
    · rcases hk with hk | hk
      · exact .inl hk
      · rcases hown with e | e | ⟨g, e, hge⟩
        · rw [e] at hk; simp at hk
        · exact .inl (h.aj k (by rw [← e]; exact hk))
        · rw [e] at hk; simp at hk; exact .inr (by omega)
/-- The same of where the parts began. -/
theorem StC.begun_to {W W1 : World} {s base : Nat} {A : Nat → Prop} {vp vj vb vb' : Value} {r : List Rec} {j : List Was} {b b' : List Nat} (h : StC W s base A vp vj vb r j b) (hrow : W1.ownsRow base 3 1 vb' b'.length (cellsI b')) (hg : W.grownBy W1 vb.ownBlock) (hown : vb'.ownBlock = vb.ownBlock ∨ ∃ g, vb'.ownBlock = some g ∧ W.heap.size ≤ g) :
    StC (W1.setCell ⟨s, 2, none⟩ vb') s base (fun k => A k ∨ vb'.ownBlock = some k) vp vj vb' r j b' ∧ Fr W (W1.setCell ⟨s, 2, none⟩ vb') A (fun k => A k ∨ vb'.ownBlock = some k) := by
  have hsz : (W1.setCell ⟨s, 2, none⟩ vb').heap.size = W1.heap.size := by simp [World.setCell]
  have hb1 := (hg.block s (Array.getElem?_eq_some_iff.1 h.blk).1 (not_row h.blk (by decide) h.begun)).trans h.blk
  have mono : ∀ k, A k → A k ∨ vb'.ownBlock = some k := fun k hk => .inl hk
  have hb2 : (W1.setCell ⟨s, 2, none⟩ vb').heap[s]? = some (.cells #[vp, vj, vb'] 70 (0, 0)) := by rw [block_set _ hb1]; rfl
  refine ⟨⟨hb2, row_set_other (h.pairs.kept hg (rows_apart h.pairs h.begun (by decide))) hb1 (by decide), row_set_other (h.jour.kept hg (rows_apart h.jour h.begun (by decide))) hb1 (by decide), row_set_other hrow hb1 (by decide), fun x hx => ?_, fun x hx => ?_, ?_, mono _ h.a0, fun g hg => mono _ (h.ap g hg), fun g hg => mono _ (h.aj g hg), fun g hg => .inr hg, by rw [hsz]; exact Nat.le_trans h.le hg.size⟩, ?_⟩
  · have := ((h.recs x hx).grow h.begun (by decide) hg).set (u := vb') (o := 2) hb1
    exact ⟨this.1.mono mono, this.2.mono mono⟩
  · have := ((h.was x hx).grow h.begun (by decide) hg).set (u := vb') (o := 2) hb1
    exact ⟨this.1.mono mono, fun t => (this.2.1 t).mono mono, this.2.2⟩
  · intro k hk
    rw [hsz]
    rcases hk with hk | hk
    · exact ⟨(h.foot k hk).1, Nat.lt_of_lt_of_le (h.foot k hk).2 hg.size⟩
    · exact hrow.lt k hk
  · refine ⟨hg.os, hg.tape, hg.output, by rw [hsz]; exact hg.size, fun k hk hA => ?_, fun k hk => ?_, mono⟩
    · rw [Below.heap_setCell W1 ⟨s, 2, none⟩ vb' k (fun e => hA (by rw [e]; exact h.a0))]
      exact hg.block k hk (fun e => hA (h.ab k e.symm))
    · rcases hk with hk | hk
      · exact .inl hk
      · rcases hown with e | ⟨g, e, hge⟩
        · exact .inl (h.ab k (by rw [← e]; exact hk))
        · rw [e] at hk; simp at hk; exact .inr (by omega)

section
variable {W : World} {s base : Nat} {A : Nat → Prop} {vp vj vb : Value} {r : List Rec} {j : List Was} {b : List Nat}
set_option maxHeartbeats 1000000 in
theorem all_any (h : StC W s base A vp vj vb r j b) : Calls Try.prog 65 #[.pointer (some ⟨s, 0, none⟩)] W fun e w' => e = .returned vp ∧ w' = W := by
  obtain ⟨c, f⟩ := cells_of_block h.blk
  obtain ⟨av, cv, rfl⟩ := row_slice h.pairs
  go_enter Try.func65, Try.ntmps65
  go_wp2
  go_ret
  exact ⟨rfl, rfl⟩
set_option maxHeartbeats 1000000 in
theorem depth_any (h : StC W s base A vp vj vb r j b) : Calls Try.prog 85 #[.pointer (some ⟨s, 0, none⟩)] W fun e w' => e = .returned (.int .i64 (b.length : Int)) ∧ w' = W := by
  obtain ⟨c, f⟩ := cells_of_block h.blk
  obtain ⟨av, cv, rfl⟩ := row_slice h.begun
  go_enter Try.func85, Try.ntmps85
  go_wp2
  go_ret
  exact ⟨rfl, rfl⟩
set_option maxHeartbeats 1000000 in
theorem find_any {u : Value} {key : List Int} (h : StC W s base A vp vj vb r j b) (hs : Srt r) (hn : r.length ≤ 1048576) (hu : Src W u key) (hk : Byte key) :
    Calls Try.prog 64 #[.pointer (some ⟨s, 0, none⟩), u] W fun e w' => ∃ (i : Nat) (f : Bool), e = .returned (.tuple #[.int .i64 (i : Int), .bool f]) ∧ FindS r key i f ∧ Below W.heap.size W w' := by
  have hA := all_any h
  have hS := search_any h.pairs h.recs hs hn hu hk
  obtain ⟨av, cv, rfl⟩ := row_slice h.pairs
  go_enter Try.func64, Try.ntmps64
  go_wp2_with (first
    | (go_at_call 65; refine hA.mono ?_; rintro e w1 ⟨rfl, rfl⟩)
    | (go_at_call 74; refine hS.mono ?_; rintro e w2 ⟨i, f, rfl, hF, hb⟩))
  go_ret2
  exact ⟨i, f, rfl, hF, hb⟩
end
end Go.Proofs.Ytgphdioolcfmmaa

/- store: put, drop, Get. -/
namespace Go.Proofs.Ytgphdioolcfmmaa
open Go.RowKit

/-- Keys and values as the document has them. -/
def cont (r : List Rec) : List (List Int × List Int) := r.map fun x => (x.k, x.v)
def putS (l : List (List Int × List Int)) (k v : List Int) : List (List Int × List Int) := l.filter (fun x => decide (cmpB x.1 k < 0)) ++ (k, v) :: l.filter (fun x => decide (0 < cmpB x.1 k))
def dropS (l : List (List Int × List Int)) (k : List Int) : List (List Int × List Int) := l.filter (fun x => decide (cmpB x.1 k < 0)) ++ l.filter (fun x => decide (0 < cmpB x.1 k))
def getS (l : List (List Int × List Int)) (k : List Int) : Option (List Int) := (l.find? fun x => decide (cmpB x.1 k = 0)).map (·.2)
theorem cont_app (r q : List Rec) : cont (r ++ q) = cont r ++ cont q := by simp [cont]
theorem FindS.lo' {r : List Rec} {key : List Int} {i : Nat} {f : Bool} (h : FindS r key i f) : ∀ x ∈ r.take i, cmpB x.k key < 0 := by
  intro x hx
  obtain ⟨k, hk, rfl⟩ := List.mem_iff_getElem.1 hx
  have hk' : k < i ∧ k < r.length := by rw [List.length_take] at hk; omega
  rw [List.getElem_take]
  exact h.lo k _ hk'.1 (List.getElem?_eq_getElem hk'.2)
theorem FindS.hi' {r : List Rec} {key : List Int} {i : Nat} {f : Bool} (h : FindS r key i f) : ∀ x ∈ r.drop i, 0 ≤ cmpB x.k key := by
  intro x hx
  obtain ⟨k, hk, rfl⟩ := List.mem_iff_getElem.1 hx
  rw [List.length_drop] at hk
  rw [List.getElem_drop]
  exact h.hi (i + k) _ (by omega) (List.getElem?_eq_getElem (by omega))
/-- It is there: behind it all are greater. -/
theorem FindS.yes {r : List Rec} {key : List Int} {i : Nat} (h : FindS r key i true) (hs : Srt r) : ∃ hi : i < r.length, r[i].k = key ∧ ∀ x ∈ r.drop (i + 1), 0 < cmpB x.k key := by
  obtain ⟨x, hx, hk⟩ := h.is.1 rfl
  obtain ⟨hi, rfl⟩ := List.getElem?_eq_some_iff.1 hx
  refine ⟨hi, hk, fun y hy => ?_⟩
  obtain ⟨k, hk2, rfl⟩ := List.mem_iff_getElem.1 hy
  rw [List.length_drop] at hk2
  rw [List.getElem_drop]
  have h1 := srt_at hs hx (List.getElem?_eq_getElem (show i + 1 + k < r.length by omega)) (by omega)
  rw [hk] at h1
  have := cmp_flip key r[i + 1 + k].k
  omega
theorem FindS.no {r : List Rec} {key : List Int} {i : Nat} (h : FindS r key i false) (hs : Srt r) : ∀ x ∈ r.drop i, 0 < cmpB x.k key := by
  intro x hx
  have h0 := h.hi' x hx
  rcases Int.lt_or_eq_of_le h0 with h1 | h1
  · exact h1
  · exfalso
    have hk := cmp_eq0 _ _ h1.symm
    obtain ⟨k, hkl, rfl⟩ := List.mem_iff_getElem.1 hx
    rw [List.length_drop] at hkl
    rw [List.getElem_drop] at hk
    have hne : ¬ ∃ x, r[i]? = some x ∧ x.k = key := fun e => by have := h.is.2 e; cases this
    cases k with
    | zero => exact hne ⟨_, List.getElem?_eq_getElem (by omega), hk⟩
    | succ k =>
      have h2 := srt_at hs (List.getElem?_eq_getElem (show i < r.length by omega)) (List.getElem?_eq_getElem (show i + (k + 1) < r.length by omega)) (by omega)
      rw [hk] at h2
      have := h.hi i _ (Nat.le_refl _) (List.getElem?_eq_getElem (show i < r.length by omega))
      omega
theorem filter_lo {r : List Rec} {key : List Int} {i : Nat} {f : Bool} (h : FindS r key i f) : (cont r).filter (fun x => decide (cmpB x.1 key < 0)) = cont (r.take i) := by
  conv => lhs; rw [← List.take_append_drop i r, cont_app, List.filter_append]
  rw [List.filter_eq_self.2, List.filter_eq_nil_iff.2, List.append_nil]
  · intro x hx
    obtain ⟨y, hy, rfl⟩ := List.mem_map.1 hx
    have := h.hi' y hy
    simp; omega
  · intro x hx
    obtain ⟨y, hy, rfl⟩ := List.mem_map.1 hx
    have := h.lo' y hy
    simpa using this
theorem filter_yes {r : List Rec} {key : List Int} {i : Nat} (h : FindS r key i true) (hs : Srt r) : (cont r).filter (fun x => decide (0 < cmpB x.1 key)) = cont (r.drop (i + 1)) := by
  obtain ⟨hi, hk, hgt⟩ := h.yes hs
  conv => lhs; rw [← List.take_append_drop i r, List.drop_eq_getElem_cons hi, cont_app, List.filter_append]
  rw [List.filter_eq_nil_iff.2, List.nil_append]
  · rw [show cont (r[i] :: r.drop (i + 1)) = (r[i].k, r[i].v) :: cont (r.drop (i + 1)) from rfl, List.filter_cons_of_neg (by simp [hk, cmp_self]), List.filter_eq_self.2]
    intro x hx
    obtain ⟨y, hy, rfl⟩ := List.mem_map.1 hx
    simpa using hgt y hy
  · intro x hx
    obtain ⟨y, hy, rfl⟩ := List.mem_map.1 hx
    have := h.lo' y hy
    simp; omega
theorem filter_no {r : List Rec} {key : List Int} {i : Nat} (h : FindS r key i false) (hs : Srt r) : (cont r).filter (fun x => decide (0 < cmpB x.1 key)) = cont (r.drop i) := by
  have hgt := h.no hs
  conv => lhs; rw [← List.take_append_drop i r, cont_app, List.filter_append]
  rw [List.filter_eq_nil_iff.2, List.nil_append, List.filter_eq_self.2]
  · intro x hx
    obtain ⟨y, hy, rfl⟩ := List.mem_map.1 hx
    simpa using hgt y hy
  · intro x hx
    obtain ⟨y, hy, rfl⟩ := List.mem_map.1 hx
    have := h.lo' y hy
    simp; omega
theorem get_yes {r : List Rec} {key : List Int} {i : Nat} (h : FindS r key i true) (hs : Srt r) (hi : i < r.length) : getS (cont r) key = some r[i].v := by
  obtain ⟨_, hk, hgt⟩ := h.yes hs
  unfold getS
  conv => lhs; rw [← List.take_append_drop i r, List.drop_eq_getElem_cons hi, cont_app, List.find?_append]
  rw [List.find?_eq_none.2, Option.none_or]
  · rw [show cont (r[i] :: r.drop (i + 1)) = (r[i].k, r[i].v) :: cont (r.drop (i + 1)) from rfl, List.find?_cons_of_pos (by simp [hk, cmp_self])]
    rfl
  · intro x hx
    obtain ⟨y, hy, rfl⟩ := List.mem_map.1 hx
    have := h.lo' y hy
    simp; omega
theorem get_no {r : List Rec} {key : List Int} {i : Nat} (h : FindS r key i false) (hs : Srt r) : getS (cont r) key = none := by
  have hgt := h.no hs
  unfold getS
  rw [List.find?_eq_none.2]
  · rfl
  · intro x hx
    obtain ⟨y, hy, rfl⟩ := List.mem_map.1 hx
    rw [← List.take_append_drop i r] at hy
    rcases List.mem_append.1 hy with hy | hy
    · have := h.lo' y hy; simp; omega
    · have := hgt y hy; simp; omega
/-- Between those that are less and those that are greater. -/
theorem srt_mid {a c : List Rec} {x : Rec} (ha : Srt a) (hc : Srt c) (h1 : ∀ y ∈ a, cmpB y.k x.k < 0) (h2 : ∀ y ∈ c, 0 < cmpB y.k x.k) : Srt (a ++ x :: c) := by
  refine List.pairwise_append.2 ⟨ha, List.pairwise_cons.2 ⟨fun y hy => ?_, hc⟩, fun y hy z hz => ?_⟩
  · have := h2 y hy; have := cmp_flip y.k x.k; omega
  · rcases List.mem_cons.1 hz with rfl | hz
    · exact h1 y hy
    · refine cmp_trans _ _ _ (h1 y hy) ?_
      have := h2 z hz; have := cmp_flip z.k x.k; omega
theorem srt_cut {r : List Rec} (h : Srt r) (i n : Nat) : Srt (r.take i ++ r.drop (i + n)) := by
  have e : (r.take i ++ r.drop (i + n)).Sublist r := by
    conv => rhs; rw [← List.take_append_drop i r]
    refine List.Sublist.append_left ?_ _
    rw [← List.drop_drop]
    exact List.drop_sublist _ _
  exact h.sublist e
theorem cellsR_set (r : List Rec) (i : Nat) (x y : Rec) (hi : r[i]? = some x) (hy : y.kv = x.kv) : (cellsR r).set (i * 2 + 1) y.vv = cellsR (r.set i y) := by
  induction r generalizing i with
  | nil => simp at hi
  | cons z r ih =>
    cases i with
    | zero => simp at hi; subst hi; simp [cellsR, hy]
    | succ i =>
      have := ih i (by simpa using hi)
      rw [show (i + 1) * 2 + 1 = i * 2 + 1 + 1 + 1 by omega]
      simp only [cellsR, List.flatMap_cons, List.cons_append, List.nil_append, List.set_cons_succ] at this ⊢
      rw [this]
/-- The pairs' row was turned where it lies. -/
theorem StC.pairs_in {W W1 : World} {s base : Nat} {A : Nat → Prop} {vp vj vb : Value} {r r' : List Rec} {j : List Was} {b : List Nat} (h : StC W s base A vp vj vb r j b) (hT : RowTo W W1 base vp vp r') (hrec : ∀ x ∈ r', RecAt W A x) :
    StC W1 s base A vp vj vb r' j b ∧ Fr W W1 A A := by
  have hg := hT.grown
  have hb1 := (hg.block s (Array.getElem?_eq_some_iff.1 h.blk).1 (not_row h.blk (by decide) h.pairs)).trans h.blk
  refine ⟨⟨hb1, hT.row, h.jour.kept hg (rows_apart h.jour h.pairs (by decide)), h.begun.kept hg (rows_apart h.begun h.pairs (by decide)), fun x hx => (hrec x hx).grow h.pairs (by decide) hg, fun x hx => (h.was x hx).grow h.pairs (by decide) hg, fun k hk => ⟨(h.foot k hk).1, Nat.lt_of_lt_of_le (h.foot k hk).2 hg.size⟩, h.a0, h.ap, h.aj, h.ab, Nat.le_trans h.le hg.size⟩, ?_⟩
  exact ⟨hg.os, hg.tape, hg.output, hg.size, fun k hk hA => hg.block k hk (fun e => hA (h.ap k e.symm)), fun k hk => .inl hk, fun k hk => hk⟩

theorem RowTo.pre {W W1 W2 : World} {base : Nat} {vp vp' : Value} {r : List Rec} (hg : W.grownBy W1 none) (h : RowTo W1 W2 base vp vp' r) : RowTo W W2 base vp vp' r :=
  ⟨h.row, grown_tr (grown_up hg) h.grown, h.own.imp id (fun ⟨g, e, hge⟩ => ⟨g, e, Nat.le_trans hg.size hge⟩)⟩
theorem fresh_ne {W : World} {base : Nat} {e : TypeId} {size n : Nat} {v : Value} {xs : List Value} (h : W.ownsRow base e size v n xs) : v.ownBlock ≠ some W.heap.size := fun e => by have := (h.lt _ e).2; omega
/-- A store: what is in it, what was, where its parts began. -/
def St (W : World) (s base : Nat) (A : Nat → Prop) (l : List (List Int × List Int)) (j : List Was) (b : List Nat) : Prop := ∃ vp vj vb r, StC W s base A vp vj vb r j b ∧ Srt r ∧ cont r = l ∧ r.length ≤ 100000
section
variable {W : World} {s base : Nat} {A : Nat → Prop} {vp vj vb : Value} {r : List Rec} {j : List Was} {b : List Nat}
set_option maxHeartbeats 4000000 in
theorem put_any {kv vv : Value} {k v : List Int} (h : StC W s base A vp vj vb r j b) (hs : Srt r) (hn : r.length < 100000) (hk : InA W A kv k) (hv : InA W A vv v) :
    Calls Try.prog 80 #[.pointer (some ⟨s, 0, none⟩), kv, vv] W fun e w' => e = .returned (.tuple #[]) ∧ ∃ A' vp' r', StC w' s base A' vp' vj vb r' j b ∧ Srt r' ∧ cont r' = putS (cont r) k v ∧ r'.length ≤ r.length + 1 ∧ Fr W w' A A' := by
  have hF := find_any h hs (by omega) hk.src hk.2.1
  have e0 : ∃ sp cap, kv = .slice sp k.length cap := by obtain ⟨sp, cap, e, -⟩ := hk.src.parts; exact ⟨sp, cap, e⟩
  have e1 : ∃ sp cap, vv = .slice sp v.length cap := by obtain ⟨sp, cap, e, -⟩ := hv.src.parts; exact ⟨sp, cap, e⟩
  have hk1 := hk.one
  have hv1 := hv.one
  obtain ⟨sk, ck, rfl⟩ := e0
  obtain ⟨sv, cv, rfl⟩ := e1
  obtain ⟨ap, cp, rfl⟩ := row_slice h.pairs
  go_enter Try.func80, Try.ntmps80
  go_wp2_with (go_at_call 64; refine hF.mono ?_; rintro e w1 ⟨i, f, rfl, hfs, hb1⟩; have h1 := h.below hb1; obtain ⟨c, fz⟩ := cells_of_block h1.blk; have hk1' := hk.kept (fun k hk => hb1.block k (h.foot k hk).2); have hv1' := hv.kept (fun k hk => hb1.block k (h.foot k hk).2); cases f; rotate_left; obtain ⟨hi, hik, hgt⟩ := hfs.yes hs; obtain ⟨g, cap, ev, hgl, hbg, c0, c1, fz1⟩ := pair_at h1.pairs (List.getElem?_eq_getElem hi); simp at ev; obtain ⟨rfl, rfl⟩ := ev; have hi' : (i : Int) < (r.length : Int) := (by omega))
  · have hst := World.ownsRow.stored h1.pairs (i * 2 + 1) (.slice sv v.length cv)
    rw [cellsR_set r i r[i] ⟨r[i].kv, .slice sv v.length cv, k, v⟩ (List.getElem?_eq_getElem hi) rfl] at hst
    have hT : RowTo w1 (w1.setCell ⟨g, i * 2 + 1, none⟩ (.slice sv v.length cv)) base (.slice (some ⟨g, 0, none⟩) r.length cp) (.slice (some ⟨g, 0, none⟩) r.length cp) (r.set i ⟨r[i].kv, .slice sv v.length cv, k, v⟩) := ⟨by rw [List.length_set]; exact hst.1, hst.2, .inl rfl⟩
    have hri : RecAt w1 A r[i] := h1.recs r[i] (List.getElem_mem hi)
    have hr' : ∀ x ∈ r.set i ⟨r[i].kv, .slice sv v.length cv, k, v⟩, RecAt w1 A x := by
      intro x hx
      rcases List.mem_or_eq_of_mem_set hx with hx | rfl
      · exact h1.recs x hx
      · exact ⟨by have := hri.1; rwa [hik] at this, hv1'⟩
    have e2 : r.set i ⟨r[i].kv, .slice sv v.length cv, k, v⟩ = r.take i ++ ⟨r[i].kv, .slice sv v.length cv, k, v⟩ :: r.drop (i + 1) := List.set_eq_take_append_cons_drop.trans (by rw [if_pos hi])
    have hsrt : Hid (Srt (r.set i ⟨r[i].kv, .slice sv v.length cv, k, v⟩)) := by unfold Hid; rw [e2]; exact srt_mid (hs.sublist (List.take_sublist _ _)) (hs.sublist (List.drop_sublist _ _)) hfs.lo' hgt
    have hcont : Hid (cont (r.set i ⟨r[i].kv, .slice sv v.length cv, k, v⟩) = putS (cont r) k v) := by unfold Hid; rw [e2, putS, filter_lo hfs, filter_yes hfs hs]; simp [cont]
    obtain ⟨q1, q2⟩ := h1.pairs_in hT hr'
    clear hst e2 hr'
    generalize hy : r.set i ⟨r[i].kv, .slice sv v.length cv, k, v⟩ = r' at *
    have hlen : r'.length ≤ r.length + 1 := by rw [← hy, List.length_set]; omega
    clear hy
    refine bodyPost_end (v := .tuple #[]) (by simp [results, Try.results80]) rfl ?_
    exact ⟨rfl, _, _, _, q1, hsrt.out, hcont.out, hlen, (Fr.below hb1).trans q2⟩
  · have hg0 := World.grownBy_alloc w1 (.cells #[.slice sk k.length ck, .slice sv v.length cv] 113) none
    have hrec0 : ∀ x ∈ r, RecAt (w1.alloc (.cells #[.slice sk k.length ck, .slice sv v.length cv] 113)) A x := fun x hx => (h1.recs x hx).kept (fun k hk => hg0.block k (h1.foot k hk).2 (by simp))
    have hI := insert_any (i := i) ⟨.slice sk k.length ck, .slice sv v.length cv, k, v⟩ (none_row h1.pairs hg0) hrec0 (Nat.le_trans h1.le hg0.size) (by omega) hfs.le w1.heap.size (World.alloc_heap_new _ _) (fresh_ne h1.pairs) hk1 hv1
    obtain ⟨r', hr0⟩ : ∃ r', r' = r.take i ++ ⟨.slice sk k.length ck, .slice sv v.length cv, k, v⟩ :: r.drop i := ⟨_, rfl⟩
    rw [← hr0] at hI
    have hr0' : Hid _ := hr0
    clear hr0
    go_wp2_with (go_at_call 87; refine hI.mono ?_; rintro e w3 ⟨v', rfl, hT⟩; have hb3 := (hT.grown.block s (Nat.lt_of_lt_of_le (h1.foot s h1.a0).2 hg0.size) (not_row ((hg0.block s (h1.foot s h1.a0).2 (by simp)).trans h1.blk) (by decide) (none_row h1.pairs hg0))).trans ((hg0.block s (h1.foot s h1.a0).2 (by simp)).trans h1.blk); obtain ⟨c3, f3⟩ := cells_of_block hb3; obtain ⟨av', cv', rfl⟩ := row_slice hT.row)
    refine bodyPost_end (v := .tuple #[]) (by simp [results, Try.results80]) rfl ?_
    have hr' : ∀ x ∈ r', RecAt w1 A x := by
      intro x hx
      rw [hr0'.out] at hx
      rcases List.mem_append.1 hx with hx | hx
      · exact h1.recs x (List.mem_of_mem_take hx)
      · rcases List.mem_cons.1 hx with rfl | hx
        · exact ⟨hk1', hv1'⟩
        · exact h1.recs x (List.mem_of_mem_drop hx)
    obtain ⟨q1, q2⟩ := h1.pairs_to (hT.pre hg0) hr'
    refine ⟨rfl, _, _, _, q1, ?_, ?_, ?_, (Fr.below hb1).trans q2⟩
    · rw [hr0'.out]; exact srt_mid (hs.sublist (List.take_sublist _ _)) (hs.sublist (List.drop_sublist _ _)) hfs.lo' (hfs.no hs)
    · rw [hr0'.out, putS, filter_lo hfs, filter_no hfs hs]; simp [cont]
    · rw [hr0'.out, List.length_append, List.length_cons, List.length_take, List.length_drop]; omega
set_option maxHeartbeats 4000000 in
theorem drop_any {u : Value} {k : List Int} (h : StC W s base A vp vj vb r j b) (hs : Srt r) (hn : r.length ≤ 100000) (hu : Src W u k) (hk : Byte k) :
    Calls Try.prog 79 #[.pointer (some ⟨s, 0, none⟩), u] W fun e w' => e = .returned (.tuple #[]) ∧ ∃ A' vp' r', StC w' s base A' vp' vj vb r' j b ∧ Srt r' ∧ cont r' = dropS (cont r) k ∧ r'.length ≤ r.length ∧ Fr W w' A A' := by
  have hF := find_any h hs (by omega) hu hk
  have hn' : (r.length : Int) ≤ 100000 := by omega
  obtain ⟨su, cu, rfl, -⟩ := hu.parts
  obtain ⟨ap, cp, rfl⟩ := row_slice h.pairs
  go_enter Try.func79, Try.ntmps79
  go_wp2_with (go_at_call 64; refine hF.mono ?_; rintro e w1 ⟨i, f, rfl, hfs, hb1⟩; have h1 := h.below hb1; obtain ⟨c, fz⟩ := cells_of_block h1.blk; cases f; rotate_left; obtain ⟨hi, hik, hgt⟩ := hfs.yes hs; have hi' : (i : Int) < (r.length : Int) := (by omega); have hw : IntKind.i64.wrap ((i : Int) + 1) = (i : Int) + 1 := (by rw [IntKind.wrap_i64]; omega))
  · have hD := delete_any h1.pairs h1.recs (by omega) hi
    obtain ⟨r', hr0⟩ : ∃ r', r' = r.take i ++ r.drop (i + 1) := ⟨_, rfl⟩
    rw [← hr0] at hD
    have hr0' : Hid _ := hr0
    clear hr0
    go_wp2_with (go_at_call 86; refine hD.mono ?_; rintro e w3 ⟨v', rfl, hT⟩; have hb3 := (hT.grown.block s (h1.foot s h1.a0).2 (not_row h1.blk (by decide) h1.pairs)).trans h1.blk; obtain ⟨c3, f3⟩ := cells_of_block hb3; obtain ⟨av', cv', rfl⟩ := row_slice hT.row)
    refine bodyPost_end (v := .tuple #[]) (by simp [results, Try.results79]) rfl ?_
    obtain ⟨q1, q2⟩ := h1.pairs_to hT (fun x hx => by
      rw [hr0'.out] at hx
      rcases List.mem_append.1 hx with hx | hx
      · exact h1.recs x (List.mem_of_mem_take hx)
      · exact h1.recs x (List.mem_of_mem_drop hx))
    refine ⟨rfl, _, _, _, q1, by rw [hr0'.out]; exact srt_cut hs i 1, ?_, ?_, (Fr.below hb1).trans q2⟩
    · rw [hr0'.out, dropS, filter_lo hfs, filter_yes hfs hs, cont_app]
    · rw [hr0'.out, List.length_append, List.length_take, List.length_drop]; omega
  · refine bodyPost_end (v := .tuple #[]) (by simp [results, Try.results79]) rfl ?_
    refine ⟨rfl, _, _, _, h1, hs, ?_, Nat.le_refl _, Fr.below hb1⟩
    rw [dropS, filter_lo hfs, filter_no hfs hs, ← cont_app, List.take_append_drop]
set_option maxHeartbeats 4000000 in
/-- Get: a copy of the value, in a block of its own, or nothing. -/
theorem get_any {u : Value} {k : List Int} (h : StC W s base A vp vj vb r j b) (hs : Srt r) (hn : r.length ≤ 100000) (hu : Src W u k) (hk : Byte k) :
    Calls Try.prog 53 #[.pointer (some ⟨s, 0, none⟩), u] W fun e w' => Below W.heap.size W w' ∧ ((getS (cont r) k = none ∧ e = .returned (.tuple #[.slice none 0 0, .bool false])) ∨ ∃ v g q, getS (cont r) k = some q ∧ e = .returned (.tuple #[v, .bool true]) ∧ Own w' g v q ∧ W.heap.size ≤ g ∧ Byte q ∧ q.length ≤ 1048576) := by
  have hF := find_any h hs (by omega) hu hk
  obtain ⟨su, cu, rfl, -⟩ := hu.parts
  obtain ⟨ap, cp, rfl⟩ := row_slice h.pairs
  go_enter Try.func53, Try.ntmps53
  go_wp2_with (go_at_call 64; refine hF.mono ?_; rintro e w1 ⟨i, f, rfl, hfs, hb1⟩; have h1 := h.below hb1; obtain ⟨c, fz⟩ := cells_of_block h1.blk; cases f; rotate_left; obtain ⟨hi, hik, hgt⟩ := hfs.yes hs; have hi' : (i : Int) < (r.length : Int) := (by omega); obtain ⟨g, cap, ev, hgl, hbg, c0, c1, fz1⟩ := pair_at h1.pairs (List.getElem?_eq_getElem hi); simp at ev; obtain ⟨rfl, rfl⟩ := ev; have hri := (h1.recs r[i] (List.getElem_mem hi)).2; have hO := own_any hri.2.2 hri.src)
  · have hg2 := get_yes hfs hs hi
    have hri2 := hri.2
    generalize r[i].vv = vv at *
    generalize r[i].v = q at *
    have hg2' : Hid _ := hg2
    clear hg2 hri
    go_wp2_with (go_at_call 67; refine hO.mono ?_; rintro e w2 ⟨v, rfl, ho, hb2⟩)
    go_ret2
    exact ⟨bt hb1 hb2, .inr ⟨v, _, q, hg2'.out, rfl, ho, hb1.size, hri2.1, hri2.2⟩⟩
  · go_ret2
    exact ⟨hb1, .inl ⟨get_no hfs hs, rfl⟩⟩
end
end Go.Proofs.Ytgphdioolcfmmaa

/- store: what was is noted. -/
namespace Go.Proofs.Ytgphdioolcfmmaa
open Go.RowKit

theorem was_info : (Try.prog.info? 132).map (fun i => (i.zero, i.size, i.bytes)) = some (some (.agg #[.slice none 0 0, .slice none 0 0, .bool false]), 3, 56) := by kernel_rfl
theorem int_info : (Try.prog.info? 3).map (fun i => (i.zero, i.size, i.bytes)) = some (some (.int .i64 0), 1, 8) := by kernel_rfl
/-- What a key was. -/
def WasS (x : Was) (l : List (List Int × List Int)) (key : List Int) : Prop := x.k = key ∧ ((x.there = true ∧ getS l key = some x.v) ∨ (x.there = false ∧ getS l key = none))
theorem cellsJ_app (j q : List Was) : cellsJ (j ++ q) = cellsJ j ++ cellsJ q := by simp [cellsJ]
section
variable {W : World} {s base : Nat} {A : Nat → Prop} {vp vj vb : Value} {r : List Rec} {j : List Was} {b : List Nat}
/-- Bytes that were made are the store's own. -/
theorem Own.inA {W : World} {A : Nat → Prop} {g : Nat} {v : Value} {q : List Int} (h : Own W g v q) (hA : A g) (hb : Byte q) (hl : q.length ≤ 1048576) : InA W A v q := ⟨⟨g, hA, h⟩, hb, hl⟩
set_option maxHeartbeats 1000000 in
theorem note_none {u : Value} (h : StC W s base A vp vj vb r j b) (hb : b = []) : Calls Try.prog 78 #[.pointer (some ⟨s, 0, none⟩), u] W fun e w' => e = .returned (.tuple #[]) ∧ w' = W := by
  have hD := depth_any h
  subst hb
  go_enter Try.func78, Try.ntmps78
  go_wp2_with (go_at_call 85; refine hD.mono ?_; rintro e w1 ⟨rfl, rfl⟩)
  exact bodyPost_ret (v := .tuple #[]) (by simp [results, Try.results78]) rfl ⟨rfl, rfl⟩
set_option maxRecDepth 10000 in
set_option maxHeartbeats 4000000 in
theorem note_some {u : Value} {k : List Int} (h : StC W s base A vp vj vb r j b) (hs : Srt r) (hn : r.length ≤ 100000) (hj : j.length ≤ 100000) (hb : b ≠ []) (hu : Src W u k) (hk : Byte k) (hkl : k.length ≤ 1048576) :
    Calls Try.prog 78 #[.pointer (some ⟨s, 0, none⟩), u] W fun e w' => e = .returned (.tuple #[]) ∧ ∃ A' vj' x, StC w' s base A' vp vj' vb r (j ++ [x]) b ∧ WasS x (cont r) k ∧ Fr W w' A A' := by
  obtain ⟨i0, hi0, hz0, hz1, hz2⟩ := was_info |> info_parts
  have hD := depth_any h
  have hO := own_any hkl hu
  obtain ⟨su, cu, rfl, -⟩ := hu.parts
  obtain ⟨ap, cp, rfl⟩ := row_slice h.pairs
  obtain ⟨aj, cj, rfl⟩ := row_slice h.jour
  have hb0 : ¬ (b.length : Int) = 0 := by intro e; exact hb (List.eq_nil_of_length_eq_zero (by omega))
  go_enter Try.func78, Try.ntmps78
  go_wp2_with (first
    | (go_at_call 85; refine hD.mono ?_; rintro e w1 ⟨rfl, hw⟩; obtain rfl := hw.symm)
    | (go_at_call 67; refine hO.mono ?_; rintro e w1 ⟨kv, rfl, ho1, hb1⟩; obtain rfl := ho1.1; have h1 := h.below hb1; have hu1 := hu.kept (grown_none hb1); have hg2 := World.grownBy_alloc w1 (.cells #[.slice (some ⟨W.heap.size, 0, none⟩) k.length k.length, .slice none 0 0, .bool false] 132) none; have h2 := h1.kept (fun n hn => hg2.block n (h1.foot n hn).2 (by simp)) hg2.size; have hF := find_any h2 hs (by omega) (hu1.kept hg2) hk)
    | (go_at_call 64; refine hF.mono ?_; rintro e w3 ⟨i, f, rfl, hfs, hb3⟩; have h3 := h2.below hb3; have hl3 := (hb3.block w1.heap.size (by simp)).trans (al_at rfl); obtain ⟨c, fz⟩ := cells_of_block h3.blk; obtain ⟨cl3, fl3⟩ := cells_of_block hl3; cases f; rotate_left; obtain ⟨hi, hik, hgt⟩ := hfs.yes hs; have hi' : (i : Int) < (r.length : Int) := (by omega); obtain ⟨g, cap, ev, hgl, hbg, c0, c1, fz1⟩ := pair_at h3.pairs (List.getElem?_eq_getElem hi); simp at ev; obtain ⟨rfl, rfl⟩ := ev; have hri := (h3.recs r[i] (List.getElem_mem hi)).2; have hge := get_yes hfs hs hi; obtain ⟨sv, cv, ev, -⟩ := hri.src.parts; rw [ev] at c1 hri; have hgw : ¬ g = w1.heap.size := fun e => (by have := (h1.foot g (h1.ap g rfl)).2; omega)))
  have hgs : w3.grownBy ((w3.setCell ⟨w1.heap.size, 1, none⟩ (.slice sv r[i].v.length cv)).setCell ⟨w1.heap.size, 2, none⟩ (.bool true)) (some w1.heap.size) := grown_se (grown_se (grown_ref _ _) _ _) _ _
  have hS := h3.kept (fun n hn => hgs.block n (h3.foot n hn).2 (by have := (h1.foot n hn).2; simp; omega)) hgs.size
  have hL : ((w3.setCell ⟨w1.heap.size, 1, none⟩ (.slice sv r[i].v.length cv)).setCell ⟨w1.heap.size, 2, none⟩ (.bool true)).heap[w1.heap.size]? = some (.cells #[.slice (some ⟨W.heap.size, 0, none⟩) k.length k.length, .slice sv r[i].v.length cv, .bool true] 132 (0, 0)) := by rw [block_set _ (block_set _ hl3)]; rfl
  have hW3 : Below W.heap.size W w3 := bt (ba hb1 _) hb3
  have hBX := below_grown hW3 hgs hb1.size
  have hOX := ho1.kept ((hgs.block W.heap.size (Nat.lt_of_lt_of_le ho1.lt (Nat.le_trans hg2.size hb3.size)) (by have := ho1.lt; simp; omega)).trans ((hb3.block W.heap.size (Nat.lt_of_lt_of_le ho1.lt hg2.size)).trans (hg2.block W.heap.size ho1.lt (by simp))))
  have hV := hri.kept (fun n hn => hgs.block n (h3.foot n hn).2 (by have := (h1.foot n hn).2; simp; omega))
  generalize (w3.setCell ⟨w1.heap.size, 1, none⟩ (.slice sv r[i].v.length cv)).setCell ⟨w1.heap.size, 2, none⟩ (.bool true) = X at *
  have hfin : ∃ f v nv, f = true ∧ nv = r[i].v.length ∧ WasAt X (fun n => A n ∨ n = W.heap.size) ⟨.slice (some ⟨W.heap.size, 0, none⟩) k.length k.length, .slice sv nv cv, k, v, f⟩ ∧ WasS ⟨.slice (some ⟨W.heap.size, 0, none⟩) k.length k.length, .slice sv nv cv, k, v, f⟩ (cont r) k :=
    ⟨true, r[i].v, _, rfl, rfl, ⟨hOX.inA (.inr rfl) hk hkl, fun _ => hV.mono (fun _ h => .inl h), fun e => by cases e⟩, rfl, .inl ⟨rfl, hge⟩⟩
  obtain ⟨f, v, nv, hf, hnv, hWA, hWS⟩ := hfin
  have hw1 := Nat.lt_of_lt_of_le (show w1.heap.size < (w1.alloc (.cells #[.slice (some ⟨W.heap.size, 0, none⟩) k.length k.length, .slice none 0 0, .bool false] 132)).heap.size by simp) (Nat.le_trans hb3.size hgs.size)
  rw [← hf, ← hnv] at hL
  clear hf hnv
  rotate_left
  have hS := h3
  have hL := hl3
  have hBX : Below W.heap.size W w3 := bt (ba hb1 _) hb3
  have hOX := ho1.kept ((hb3.block W.heap.size (Nat.lt_of_lt_of_le ho1.lt hg2.size)).trans (hg2.block W.heap.size ho1.lt (by simp)))
  have hw1 := Nat.lt_of_lt_of_le (show w1.heap.size < (w1.alloc (.cells #[.slice (some ⟨W.heap.size, 0, none⟩) k.length k.length, .slice none 0 0, .bool false] 132)).heap.size by simp) hb3.size
  have hfin : ∃ f v sv nv cv, f = false ∧ sv = none ∧ nv = 0 ∧ cv = 0 ∧ WasAt w3 (fun n => A n ∨ n = W.heap.size) ⟨.slice (some ⟨W.heap.size, 0, none⟩) k.length k.length, .slice sv nv cv, k, v, f⟩ ∧ WasS ⟨.slice (some ⟨W.heap.size, 0, none⟩) k.length k.length, .slice sv nv cv, k, v, f⟩ (cont r) k :=
    ⟨false, [], none, 0, 0, rfl, rfl, rfl, rfl, ⟨hOX.inA (.inr rfl) hk hkl, (fun e => by cases e), fun _ => rfl⟩, rfl, .inr ⟨rfl, get_no hfs hs⟩⟩
  generalize w3 = X at *
  obtain ⟨f, v, sv, nv, cv, hf, e1, e2, e3, hWA, hWS⟩ := hfin
  rw [← hf, ← e1] at hL
  have hL : X.heap[w1.heap.size]? = some (.cells #[.slice (some ⟨W.heap.size, 0, none⟩) k.length k.length, .slice sv nv cv, .bool f] 132 (0, 0)) := by rw [hL, e2, e3]
  clear hf e1 e2 e3 cl3 fl3 hl3
  all_goals
    have hwz := hb1.size
    have hbase := h.le
    obtain ⟨k0, f0⟩ := cells_of_block hS.blk
    obtain ⟨m0, n0⟩ := cells_of_block hL
    have a1 : X.cell? ⟨s, 1, none⟩ = some (.slice aj j.length cj) := k0 1
    have a2 : X.cell? ⟨w1.heap.size, 0, none⟩ = some (.slice (some ⟨W.heap.size, 0, none⟩) k.length k.length) := m0 0
    have a3 : X.cell? ⟨w1.heap.size, 1, none⟩ = some (.slice sv nv cv) := m0 1
    have a4 : X.cell? ⟨w1.heap.size, 2, none⟩ = some (.bool f) := m0 2
    have hgA : X.grownBy (X.alloc (.cells #[.slice (some ⟨W.heap.size, 0, none⟩) k.length k.length, .slice sv nv cv, .bool f] 132)).drew none := grown_dr (World.grownBy_alloc X _ none)
    have b1 := hgA.cell a1 (by simp)
    have b2 := hgA.cell a2 (by simp)
    have b3 := hgA.cell a3 (by simp)
    have b4 := hgA.cell a4 (by simp)
    have hrow := none_row hS.jour hgA
    have hnews : ∀ n u, ([.slice (some ⟨W.heap.size, 0, none⟩) k.length k.length, .slice sv nv cv, .bool f] : List Value)[n]? = some u → (X.alloc (.cells #[.slice (some ⟨W.heap.size, 0, none⟩) k.length k.length, .slice sv nv cv, .bool f] 132)).drew.cell? (Addr.add ⟨X.heap.size, 0, none⟩ n) = some u := fun n u hn => by
      rw [add_cell, (cells_of_block (show (X.alloc _).drew.heap[X.heap.size]? = _ from al_at rfl)).1]; simpa using hn
    have hsA := hS.a0
    have hsl := (hS.foot s hsA).2
    have hsb : (X.alloc (.cells #[.slice (some ⟨W.heap.size, 0, none⟩) k.length k.length, .slice sv nv cv, .bool f] 132)).drew.heap[s]? = _ := (hgA.block s hsl (by simp)).trans hS.blk
    have hlb : (X.alloc (.cells #[.slice (some ⟨W.heap.size, 0, none⟩) k.length k.length, .slice sv nv cv, .bool f] 132)).drew.heap[w1.heap.size]? = _ := (hgA.block w1.heap.size hw1 (by simp)).trans hL
    have hjl : (Value.slice aj j.length cj).ownBlock ≠ some w1.heap.size := fun e => by have := (h1.jour.lt _ e).2; omega
    have hXl : X.heap.size < (X.alloc (.cells #[.slice (some ⟨W.heap.size, 0, none⟩) k.length k.length, .slice sv nv cv, .bool f] 132)).drew.heap.size := by show _ < (X.alloc _).heap.size; simp
    go_region_law (first
      | (rw [if_pos (by rfl)]; (refine wp_append_own_at _ _ _ 67 rfl base 132 i0 _ 3 56 Try.underlying67 hi0 hz0 hz1 hz2 rfl (by decide) (.slice aj j.length cj) j.length (cellsJ j) rfl hrow ⟨X.heap.size, 0, none⟩ 1 1 [.slice (some ⟨W.heap.size, 0, none⟩) k.length k.length, .slice sv nv cv, .bool f] rfl rfl hnews (by simp [Value.oneCell']) (by unfold maxLen; omega) (by omega) (Nat.le_trans hS.le hgA.size) ?_; intro vj' w4 hown4 hgr4 _ hat4; obtain ⟨av4, cv4, rfl⟩ := row_slice hown4; have hs4 := (hgr4.block s (Nat.lt_of_lt_of_le hsl hgA.size) (not_row hsb (by decide) hrow)).trans hsb; obtain ⟨d0, df⟩ := cells_of_block hs4; obtain ⟨e0, ef⟩ := cells_of_block ((hgr4.block w1.heap.size (Nat.lt_of_lt_of_le hw1 hgA.size) (fun e => hjl e.symm)).trans hlb); have d1 : w4.cell? ⟨s, 1, none⟩ = some (.slice aj j.length cj) := d0 1; have d2 : w4.cell? ⟨w1.heap.size, 0, none⟩ = some (.slice (some ⟨W.heap.size, 0, none⟩) k.length k.length) := e0 0; have d3 : w4.cell? ⟨w1.heap.size, 1, none⟩ = some (.slice sv nv cv) := e0 1; have d4 : w4.cell? ⟨w1.heap.size, 2, none⟩ = some (.bool f) := e0 2)))
    all_goals
      refine bodyPost_end (v := .tuple #[]) (by simp [results, Try.results78]) rfl ?_
      have hSe := hS.ext (B := fun n => A n ∨ n = W.heap.size) (fun n hn => .inl hn) (fun n hn => by
        rcases hn with hn | rfl
        · exact hS.foot n hn
        · exact ⟨h.le, hOX.lt⟩)
      have hcj : cellsJ (j ++ [⟨.slice (some ⟨W.heap.size, 0, none⟩) k.length k.length, .slice sv nv cv, k, v, f⟩]) = cellsJ j ++ [.slice (some ⟨W.heap.size, 0, none⟩) k.length k.length, .slice sv nv cv, .bool f] := by rw [cellsJ_app]; rfl
      obtain ⟨q1, q2⟩ := hSe.jour_to (j' := j ++ [⟨.slice (some ⟨W.heap.size, 0, none⟩) k.length k.length, .slice sv nv cv, k, v, f⟩]) (vj' := .slice av4 (j.length + 1) cv4) (by rw [List.length_append, hcj]; exact hown4) (grown_tr (grown_up hgA) hgr4) (by rcases hat4 with e | e; exact .inr (.inl e); exact .inr (.inr ⟨_, e, Nat.le_trans (World.grownBy_alloc X _ none).size (Nat.le_refl _)⟩)) (fun x hx => by
        rcases List.mem_append.1 hx with hx | hx
        · exact hSe.was x hx
        · rw [List.mem_singleton] at hx; subst hx; exact hWA)
      exact ⟨rfl, _, _, _, q1, hWS, ((Fr.more (W := W) (fun n hn => .inl hn) (fun n hn => hn.imp id (fun e => by omega))).trans (Fr.below hBX)).trans q2⟩
/-- What is noted: nothing, if no part is begun. -/
def JS (l : List (List Int × List Int)) (k : List Int) (j j' : List Was) (b : List Nat) : Prop := (b = [] ∧ j' = j) ∨ (b ≠ [] ∧ ∃ x, WasS x l k ∧ j' = j ++ [x])
theorem note_any {u : Value} {k : List Int} (h : StC W s base A vp vj vb r j b) (hs : Srt r) (hn : r.length ≤ 100000) (hj : j.length ≤ 100000) (hu : Src W u k) (hk : Byte k) (hkl : k.length ≤ 1048576) :
    Calls Try.prog 78 #[.pointer (some ⟨s, 0, none⟩), u] W fun e w' => e = .returned (.tuple #[]) ∧ ∃ A' vj' j', StC w' s base A' vp vj' vb r j' b ∧ JS (cont r) k j j' b ∧ Fr W w' A A' := by
  by_cases hb : b = []
  · refine (note_none (u := u) h hb).mono ?_
    rintro e w' ⟨rfl, rfl⟩
    exact ⟨rfl, A, vj, j, h, .inl ⟨hb, rfl⟩, Fr.below (Below.refl _ _)⟩
  · refine (note_some h hs hn hj hb hu hk hkl).mono ?_
    rintro e w' ⟨rfl, A', vj', x, h1, h2, h3⟩
    exact ⟨rfl, A', vj', j ++ [x], h1, .inr ⟨hb, x, h2, rfl⟩, h3⟩
end
end Go.Proofs.Ytgphdioolcfmmaa
