
/- num.Read and the reference's Read, whole; Bytes as they are used. -/
import Derived.Test.YtgphdioolcfmmaaB4
import Derived.Test.YtgphdioolcfmmaaB6
import Derived.Test.YtgphdioolcfmmaaB7
set_option linter.unusedSimpArgs false
set_option linter.unusedVariables false
set_option maxRecDepth 20000
namespace Go.Proofs.Ytgphdioolcfmmaa
open Go.RowKit

set_option maxHeartbeats 2000000 in
theorem read_nil (a : Option Addr) (cap : Nat) (w : World) :
    Calls Try.prog 54 #[.slice a 0 cap] w fun e w' => e = .returned (.tuple #[.agg #[.int .u64 0, .int .u64 0, .int .u64 0, .int .u64 0], .int .i64 0]) ∧ Below w.heap.size w w' := by
  go_enter Try.func54, Try.ntmps54
  go_wp2
  apply wp_loop_rounds 1
  simp only [Code.rounds]
  go_wp2
  refine bodyPost_ret (v := .tuple #[.agg #[.int .u64 0, .int .u64 0, .int .u64 0, .int .u64 0], .int .i64 0]) (by simp only [results, Try.results54]; go_simp) rfl ⟨rfl, by (repeat (first | (with_reducible exact Below.refl _ _) | (with_reducible assumption) | (with_reducible apply bd) | (with_reducible apply ba) | (with_reducible refine bp ?_ (by first | omega | (simp [pad_size]; done) | (simp [pad_size]; omega)) _ _) | (with_reducible refine bs ?_ (by first | omega | (simp [pad_size]; done) | (simp [pad_size]; omega)) _) | (with_reducible refine bt ?_ (by assumption))))⟩
set_option maxHeartbeats 2000000 in
theorem read_long (a : Option Addr) (n cap : Nat) (hn : 32 < n ∧ n ≤ 1073741824) (w : World) :
    Calls Try.prog 54 #[.slice a n cap] w fun e w' => e = .returned (.tuple #[.agg #[.int .u64 0, .int .u64 0, .int .u64 0, .int .u64 0], .int .i64 4]) ∧ Below w.heap.size w w' := by
  have h : (32 : Int) < (n : Int) := by omega
  go_enter Try.func54, Try.ntmps54
  go_wp2
  refine bodyPost_ret (v := .tuple #[.agg #[.int .u64 0, .int .u64 0, .int .u64 0, .int .u64 0], .int .i64 4]) (by simp only [results, Try.results54]; go_simp) rfl ⟨rfl, by (repeat (first | (with_reducible exact Below.refl _ _) | (with_reducible assumption) | (with_reducible apply bd) | (with_reducible apply ba) | (with_reducible refine bp ?_ (by first | omega | (simp [pad_size]; done) | (simp [pad_size]; omega)) _ _) | (with_reducible refine bs ?_ (by first | omega | (simp [pad_size]; done) | (simp [pad_size]; omega)) _) | (with_reducible refine bt ?_ (by assumption))))⟩
set_option maxHeartbeats 2000000 in
theorem read_head (blk off n cap : Nat) (hn : 0 < n ∧ n ≤ 32) (w : World) (hg : blk < w.heap.size) (c0 : w.cell? ⟨blk, off, none⟩ = some (.int .u8 0)) :
    Calls Try.prog 54 #[.slice (some ⟨blk, off, none⟩) n cap] w fun e w' => e = .returned (.tuple #[.agg #[.int .u64 0, .int .u64 0, .int .u64 0, .int .u64 0], .int .i64 4]) ∧ Below w.heap.size w w' := by
  have h : ¬ (32 : Int) < (n : Int) := by omega
  have hnp : (0 : Int) < (n : Int) := by omega
  go_enter Try.func54, Try.ntmps54
  go_wp2
  refine bodyPost_ret (v := .tuple #[.agg #[.int .u64 0, .int .u64 0, .int .u64 0, .int .u64 0], .int .i64 4]) (by simp only [results, Try.results54]; go_simp) rfl ⟨rfl, by (repeat (first | (with_reducible exact Below.refl _ _) | (with_reducible assumption) | (with_reducible apply bd) | (with_reducible apply ba) | (with_reducible refine bp ?_ (by first | omega | (simp [pad_size]; done) | (simp [pad_size]; omega)) _ _) | (with_reducible refine bs ?_ (by first | omega | (simp [pad_size]; done) | (simp [pad_size]; omega)) _) | (with_reducible refine bt ?_ (by assumption))))⟩
/-- The parts of what is laid so. -/
theorem bytes_parts {W : World} {v : Value} {p : List Int} (h : IsBytes W v p) : (p = [] ∧ ∃ a cap, v = .slice a 0 cap) ∨ ∃ blk off cap b, v = .slice (some ⟨blk, off, none⟩) p.length cap ∧ p[0]? = some b ∧ 0 < p.length ∧ p.length ≤ 1073741824 ∧ blk < W.heap.size ∧ ∀ i x, p[i]? = some x → W.cell? ⟨blk, off + i, none⟩ = some (.int .u8 x) := by
  by_cases hp : p = []
  · obtain ⟨a, cap, e⟩ := h.slice
    rw [hp] at e
    exact .inl ⟨hp, a, cap, e⟩
  · rcases h with h | ⟨blk, off, cap, rfl, h1, h2, h3⟩
    · exact absurd h.1 hp
    · have hl : 0 < p.length := List.length_pos_iff.2 hp
      exact .inr ⟨blk, off, cap, p[0], rfl, List.getElem?_eq_getElem hl, hl, h1, h2, h3⟩
theorem good_head {p : List Int} {b : Int} (h : Good p) (h0 : p[0]? = some b) : 0 < b := h.2 b (by rw [List.head?_eq_getElem?]; exact h0)
theorem read_good {v : Value} {p : List Int} {z0 z1 z2 z3 : Int} (hg : Good p) (hl : p.length ≤ 32) (hz : Lim z0 z1 z2 z3) (hv : val z0 z1 z2 z3 = rd p) (w : World) (h : IsBytes w v p) :
    Calls Try.prog 54 #[v] w fun e w' => e = .returned (.tuple #[.agg #[.int .u64 z0, .int .u64 z1, .int .u64 z2, .int .u64 z3], .int .i64 0]) ∧ Below w.heap.size w w' := by
  rcases bytes_parts h with ⟨rfl, a, cap, rfl⟩ | ⟨blk, off, cap, b, rfl, h0, h1, h2, h3, h4⟩
  · obtain ⟨rfl, rfl, rfl, rfl⟩ := (val_zero hz).1 hv
    exact read_nil a cap w
  · exact read_some p p.length blk off cap rfl ⟨h1, hl⟩ hg.1 z0 z1 z2 z3 b hz hv w h3 h4 h0 (good_head hg h0)
theorem read_bad {v : Value} {p : List Int} (hb : 32 < p.length ∨ p[0]? = some 0) (w : World) (h : IsBytes w v p) :
    Calls Try.prog 54 #[v] w fun e w' => e = .returned (.tuple #[.agg #[.int .u64 0, .int .u64 0, .int .u64 0, .int .u64 0], .int .i64 4]) ∧ Below w.heap.size w w' := by
  rcases bytes_parts h with ⟨rfl, a, cap, rfl⟩ | ⟨blk, off, cap, b, rfl, h0, h1, h2, h3, h4⟩
  · simp at hb
  · by_cases hl : 32 < p.length
    · exact read_long _ _ _ ⟨hl, h2⟩ w
    · have e : p[0]? = some 0 := hb.resolve_left hl
      exact read_head blk off p.length cap (by omega) w h3 (by simpa using h4 0 0 e)
theorem bytes_two (x0 x1 x2 x3 : Int) (hx : Lim x0 x1 x2 x3) (w : World) :
    Calls Try.prog 70 #[.agg #[.int .u64 x0, .int .u64 x1, .int .u64 x2, .int .u64 x3]] w fun e w' => ∃ v : Value, e = .returned v ∧ IsBytes w' v (byL (val x0 x1 x2 x3) 32) ∧ ((∃ a cap, v = .slice a 0 cap) ∨ ∃ g off cap n b, v = .slice (some ⟨g, off, none⟩) n cap ∧ (0 < n ∧ n ≤ 32) ∧ g < w'.heap.size ∧ w'.cell? ⟨g, off, none⟩ = some (.int .u8 b) ∧ 0 < b) ∧ Below w.heap.size w w' := by
  refine (bytes_can x0 x1 x2 x3 hx w).mono ?_
  rintro e w' ⟨v, rfl, h, hb⟩
  refine ⟨v, rfl, h, ?_, hb⟩
  have hl := byL_len (val x0 x1 x2 x3) 32
  rcases bytes_parts h with ⟨-, a, cap, rfl⟩ | ⟨blk, off, cap, b, rfl, h0, h1, h2, h3, h4⟩
  · exact .inl ⟨a, cap, rfl⟩
  · exact .inr ⟨blk, off, cap, _, b, rfl, ⟨h1, hl⟩, h3, by simpa using h4 0 b h0, good_head (byL_good _ _) h0⟩
end Go.Proofs.Ytgphdioolcfmmaa
