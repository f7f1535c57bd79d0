
/- The reference's Same, of bytes; num.Parse of "007". -/
import Derived.Test.YtoikklbnbgoecaaB1
set_option linter.unusedSimpArgs false
set_option linter.unusedVariables false
namespace Go.Proofs.Ytoikklbnbgoecaa
open Go.RowKit

/-- A slice's value that is a list of bytes in a world. -/
def IsBytes (W : World) (v : Value) (p : List Int) : Prop :=
  (p = [] ∧ ∃ a cap, v = .slice a 0 cap) ∨ ∃ blk off cap, v = .slice (some ⟨blk, off, none⟩) p.length cap ∧ p.length ≤ 1073741824 ∧ blk < W.heap.size ∧ ∀ i x, p[i]? = some x → W.cell? ⟨blk, off + i, none⟩ = some (.int .u8 x)

theorem IsBytes.below {W W' : World} {v : Value} {p : List Int} (h : IsBytes W v p) (hb : Below W.heap.size W W') : IsBytes W' v p := by
  rcases h with h | ⟨blk, off, cap, hv, hlen, hlt, hall⟩
  · exact .inl h
  · exact .inr ⟨blk, off, cap, hv, hlen, Nat.lt_of_lt_of_le hlt hb.size, fun i x hi => (hb.cell (p := ⟨blk, _, none⟩) hlt).trans (hall i x hi)⟩
theorem IsBytes.slice {W : World} {v : Value} {p : List Int} (h : IsBytes W v p) : ∃ a cap, v = .slice a p.length cap := by
  rcases h with ⟨rfl, a, cap, rfl⟩ | ⟨blk, off, cap, hv, _⟩
  · exact ⟨a, cap, rfl⟩
  · exact ⟨_, _, hv⟩
theorem own_bytes {W : World} {base : Nat} {v : Value} {p : List Int} (hl : p.length ≤ 1073741824) (h : W.ownsRow base 5 1 v p.length (encB p)) : IsBytes W v p := by
  rcases h.2 with ⟨rfl, h0⟩ | ⟨g, cap, cur, rfl, _, hgb, hcap, hcur⟩
  · exact .inl ⟨List.eq_nil_of_length_eq_zero h0, _, _, rfl⟩
  · refine .inr ⟨g, 0, cap, rfl, hl, (Array.getElem?_eq_some_iff.1 hgb).1, fun i x hi => ?_⟩
    have hil : i < p.length := by rcases Nat.lt_or_ge i p.length with h | h; · exact h
                                  · rw [List.getElem?_eq_none h] at hi; cases hi
    have e : (List.take (p.length * 1) cur.toList)[i]? = some (.int .u8 x) := by rw [hcur.2.2]; simp [encB, hi]
    rw [List.getElem?_take_of_lt (by omega)] at e
    rw [(cells_of_block hgb).1]
    simpa using e

set_option maxHeartbeats 1000000 in
theorem same_len (a b : Option Addr) (m n c d : Nat) (h : m ≠ n) (w : World) :
    Calls Try.prog 14 #[.slice a m c, .slice b n d] w fun e w' => e = .returned (.bool false) ∧ Below w.heap.size w w' := by
  have h' : ¬ (m : Int) = (n : Int) := by omega
  go_enter Try.func14, Try.ntmps14
  go_wp2
  go_ret
  exact ⟨rfl, by (repeat (first | (with_reducible exact Below.refl _ _) | (with_reducible assumption) | (with_reducible apply bd) | (with_reducible apply ba) | (with_reducible refine bp ?_ (by first | omega | (simp [pad_size]; done) | (simp [pad_size]; omega)) _ _) | (with_reducible refine bs ?_ (by first | omega | (simp [pad_size]; done) | (simp [pad_size]; omega)) _) | (with_reducible refine bt ?_ (by assumption))))⟩

set_option maxHeartbeats 1000000 in
theorem same_some (g h o u c d : Nat) (p q : List Int) (hpq : p.length = q.length) (hlen : p.length ≤ 1073741824) (w : World) (hg : g < w.heap.size) (hh : h < w.heap.size)
    (hp : ∀ i x, p[i]? = some x → w.cell? ⟨g, o + i, none⟩ = some (.int .u8 x)) (hq : ∀ i x, q[i]? = some x → w.cell? ⟨h, u + i, none⟩ = some (.int .u8 x)) :
    Calls Try.prog 14 #[.slice (some ⟨g, o, none⟩) p.length c, .slice (some ⟨h, u, none⟩) q.length d] w fun e w' => e = .returned (.bool (decide (p = q))) ∧ Below w.heap.size w w' := by
  have hpad := pads
  rw [← hpq]
  have hpq' : Hid (p.length = q.length) := hpq
  clear hpq
  go_enter Try.func14, Try.ntmps14
  go_wp2
  go_loopw [5] (fun i wr => ∃ (k m : Nat) (f : Nat → Obj) (dr : Nat), k ≤ p.length ∧ i = .int .i64 k ∧ w.heap.size ≤ m ∧ wr = pad w m f dr ∧ Hid (p.take k = q.take k)) (fun i _ => p.length - (intOf i).toNat)
  case atStart =>
    obtain ⟨m, f, dr, hm, e⟩ := pad_of (Below.refl w.heap.size w)
    exact ⟨0, m, f, dr, Nat.zero_le _, rfl, hm, e, show _ = _ from rfl⟩
  case round =>
    obtain ⟨k, m, f, dr, hk, rfl, hm, rfl, hpre⟩ := hrel
    by_cases hkl : k < p.length
    · have hkq : k < q.length := by have := hpq'.out; omega
      have c1 := hp k p[k] (by simp [hkl])
      have c2 := hq k q[k] (by simp [hkq])
      have hgm : g < m := by omega
      have hhm : h < m := by omega
      by_cases he : p[k] = q[k]
      · rw [← he] at c2
        go_wp2
        go_region
        all_goals go_wp2
        all_goals go_roundw
        case rel =>
          refine ⟨k + 1, m, f, dr + 1, by omega, by go_num, hm, by first | rfl | (simp [hpad]; done), ?_⟩
          show _ = _
          rw [List.take_succ_eq_append_getElem hkl, List.take_succ_eq_append_getElem hkq, hpre.out, he]
        case measure => simp [intOf]; omega
      · go_wp2
        go_region
        all_goals go_wp2
        all_goals go_ret
        refine ⟨?_, by (repeat (first | (with_reducible exact Below.refl _ _) | (with_reducible assumption) | (with_reducible apply bd) | (with_reducible apply ba) | (with_reducible refine bp ?_ (by first | omega | (simp [pad_size]; done) | (simp [pad_size]; omega)) _ _) | (with_reducible refine bs ?_ (by first | omega | (simp [pad_size]; done) | (simp [pad_size]; omega)) _) | (with_reducible refine bt ?_ (by assumption))))⟩
        rw [decide_eq_false (fun e => he (by subst e; rfl))]; rfl
    · have hk' : k = p.length := by omega
      subst hk'
      go_wp2
      go_ret
      refine ⟨?_, by (repeat (first | (with_reducible exact Below.refl _ _) | (with_reducible assumption) | (with_reducible apply bd) | (with_reducible apply ba) | (with_reducible refine bp ?_ (by first | omega | (simp [pad_size]; done) | (simp [pad_size]; omega)) _ _) | (with_reducible refine bs ?_ (by first | omega | (simp [pad_size]; done) | (simp [pad_size]; omega)) _) | (with_reducible refine bt ?_ (by assumption))))⟩
      have h1 := hpre.out
      rw [hpq'.out, List.take_length, ← hpq'.out, List.take_length] at h1
      rw [decide_eq_true h1]; rfl

set_option maxHeartbeats 1000000 in
theorem same_nil (a b : Option Addr) (c d : Nat) (w : World) :
    Calls Try.prog 14 #[.slice a 0 c, .slice b 0 d] w fun e w' => e = .returned (.bool true) ∧ Below w.heap.size w w' := by
  go_enter Try.func14, Try.ntmps14
  go_wp2
  apply wp_loop_rounds 1
  simp only [Code.rounds]
  go_wp2
  go_ret
  exact ⟨rfl, by (repeat (first | (with_reducible exact Below.refl _ _) | (with_reducible assumption) | (with_reducible apply bd) | (with_reducible apply ba) | (with_reducible refine bp ?_ (by first | omega | (simp [pad_size]; done) | (simp [pad_size]; omega)) _ _) | (with_reducible refine bs ?_ (by first | omega | (simp [pad_size]; done) | (simp [pad_size]; omega)) _) | (with_reducible refine bt ?_ (by assumption))))⟩

theorem same_any {va vb : Value} {p q : List Int} (w : World) (hA : IsBytes w va p) (hB : IsBytes w vb q) :
    Calls Try.prog 14 #[va, vb] w fun e w' => e = .returned (.bool (decide (p = q))) ∧ Below w.heap.size w w' := by
  by_cases hl : p.length = q.length
  · rcases hA with ⟨rfl, a, c, rfl⟩ | ⟨g, o, c, rfl, h1, h2, h3⟩
    · obtain ⟨b, d, rfl⟩ := hB.slice
      obtain rfl : q = [] := List.eq_nil_of_length_eq_zero hl.symm
      exact same_nil a b c d w
    · rcases hB with ⟨rfl, b, d, rfl⟩ | ⟨h, u, d, rfl, k1, k2, k3⟩
      · obtain rfl : p = [] := List.eq_nil_of_length_eq_zero hl
        exact same_nil _ b c d w
      · exact same_some g h o u c d p q hl h1 w h2 k2 h3 k3
  · obtain ⟨a, c, rfl⟩ := hA.slice
    obtain ⟨b, d, rfl⟩ := hB.slice
    rw [decide_eq_false (fun e => hl (by rw [e]))]
    exact same_len a b _ _ c d hl w
end Go.Proofs.Ytoikklbnbgoecaa
