
/- Two lists of coins held against each other, coin by coin: the document's Same, and slices.Equal. -/
import Derived.Test.YtjhjgncnadhbhaaU
set_option linter.unusedSimpArgs false
set_option linter.unusedVariables false
set_option maxRecDepth 20000
namespace Go.Proofs.Ytjhjgncnadhbhaa
open Go.RowKit

def cnB (x y : Cn) : Bool := x.d == y.d && eq4 x.a x.b x.c x.e y.a y.b y.c y.e
def clB : List Cn → List Cn → Bool
  | [], [] => true
  | x :: p, y :: q => cnB x y && clB p q
  | _, _ => false
theorem cnB_true {x y : Cn} : cnB x y = true ↔ x = y := by
  obtain ⟨d, a, b, c, e⟩ := x
  obtain ⟨d', a', b', c', e'⟩ := y
  simp only [cnB, Bool.and_eq_true, beq_iff_eq, eq4_true, Cn.mk.injEq]
theorem clB_true : ∀ {p q : List Cn}, clB p q = true ↔ p = q
  | [], [] => by simp [clB]
  | [], _ :: _ => by simp [clB]
  | _ :: _, [] => by simp [clB]
  | x :: p, y :: q => by simp [clB, cnB_true, clB_true (p := p) (q := q)]
theorem clB_self (p : List Cn) : clB p p = true := clB_true.2 rfl
theorem clB_len {p q : List Cn} (h : p.length ≠ q.length) : clB p q = false := by
  rcases Bool.eq_false_or_eq_true (clB p q) with e | e
  · exact absurd (congrArg List.length (clB_true.1 e)) h
  · exact e
theorem clB_cons {p q : List Cn} {k : Nat} (hp : k < p.length) (hq : k < q.length) : clB (p.drop k) (q.drop k) = (cnB p[k] q[k] && clB (p.drop (k + 1)) (q.drop (k + 1))) := by
  rw [List.drop_eq_getElem_cons hp, List.drop_eq_getElem_cons hq]; rfl
set_option maxHeartbeats 4000000 in
theorem sameCL_some (g h o u c d : Nat) (p q : List Cn) (hlen : p.length ≤ 9223372036854775807) (hpq : p.length = q.length) (w : World) (hg : g < w.heap.size) (hh : h < w.heap.size)
    (hp : ∀ i x, p[i]? = some x → CnAt w g (o + i * 5) x) (hq : ∀ i x, q[i]? = some x → CnAt w h (u + i * 5) x) :
    Calls Try.prog 13 #[.slice (some ⟨g, o, none⟩) p.length c, .slice (some ⟨h, u, none⟩) p.length d] w fun e w' => e = .returned (.bool (clB p q)) ∧ Below w.heap.size w w' := by
  have hpad := pads
  have heq := eq_coin
  have hpq' : Hid _ := hpq
  clear hpq
  go_enter Try.func13, Try.ntmps13
  go_wp2
  go_loopw [5] (fun i wr => ∃ (k m : Nat) (f : Nat → Obj) (dr : Nat), k ≤ p.length ∧ i = .int .i64 k ∧ w.heap.size ≤ m ∧ wr = pad w m f dr ∧ Hid (clB p q = clB (p.drop k) (q.drop k))) (fun i _ => p.length - (intOf i).toNat)
  case atStart =>
    obtain ⟨m, f, dr, hm, e⟩ := pad_of (Below.refl w.heap.size w)
    exact ⟨0, m, f, dr, Nat.zero_le _, rfl, hm, e, by unfold Hid; simp⟩
  case round =>
    obtain ⟨k, m, f, dr, hk, rfl, hm, rfl, hc⟩ := hrel
    by_cases hkl : k < p.length
    · have hkq : k < q.length := by have := hpq'.out; omega
      obtain ⟨a0, a1, a2, a3, a4⟩ := hp k p[k] (by simp [hkl])
      obtain ⟨b0, b1, b2, b3, b4⟩ := hq k q[k] (by simp [hkq])
      have hgm : g < m := by omega
      have hhm : h < m := by omega
      have hkl' : (k : Int) < (p.length : Int) := by omega
      have hc2 : Hid (clB p q = (cnB p[k] q[k] && clB (p.drop (k + 1)) (q.drop (k + 1)))) := by unfold Hid; rw [hc.out, clB_cons hkl hkq]
      generalize p[k] = x at *
      generalize q[k] = y at *
      clear hp hq hc
      cases hb : cnB x y
      · have hb1 : (x.d == y.d && eq4 x.a x.b x.c x.e y.a y.b y.c y.e) = false := hb
        rw [hb] at hc2
        have hc3 : Hid (clB p q = false) := by unfold Hid; rw [hc2.out]; rfl
        clear hb hc2
        go_wp2
        go_region
        all_goals go_wp2
        all_goals go_ret
        all_goals exact ⟨congrArg (fun b => Ending.returned (.bool b)) hc3.out.symm, by (repeat (first | (with_reducible exact Below.refl _ _) | (with_reducible assumption) | (with_reducible apply bd) | (with_reducible apply ba) | (with_reducible refine bp ?_ (by first | omega | (simp [pad_size]; done) | (simp [pad_size]; omega)) _ _) | (with_reducible refine bs ?_ (by first | omega | (simp [pad_size]; done) | (simp [pad_size]; omega)) _) | (with_reducible refine bt ?_ (by assumption))))⟩
      · have hb1 : (x.d == y.d && eq4 x.a x.b x.c x.e y.a y.b y.c y.e) = true := hb
        rw [hb] at hc2
        have hc3 : Hid (clB p q = clB (p.drop (k + 1)) (q.drop (k + 1))) := by unfold Hid; rw [hc2.out]; rfl
        clear hb hc2
        go_wp2
        go_region
        all_goals go_wp2
        all_goals go_roundw
        case rel => exact ⟨k + 1, m, f, dr + 1, by omega, by go_num, hm, by first | rfl | (simp [hpad]; done), hc3⟩
        case measure => (simp [intOf] <;> omega)
    · have hk' : k = p.length := by omega
      subst hk'
      have hc3 : Hid (clB p q = true) := by unfold Hid; rw [hc.out, List.drop_length, List.drop_of_length_le (by have := hpq'.out; omega)]; rfl
      clear hc
      go_wp2
      go_ret
      exact ⟨congrArg (fun b => Ending.returned (.bool b)) hc3.out.symm, by (repeat (first | (with_reducible exact Below.refl _ _) | (with_reducible assumption) | (with_reducible apply bd) | (with_reducible apply ba) | (with_reducible refine bp ?_ (by first | omega | (simp [pad_size]; done) | (simp [pad_size]; omega)) _ _) | (with_reducible refine bs ?_ (by first | omega | (simp [pad_size]; done) | (simp [pad_size]; omega)) _) | (with_reducible refine bt ?_ (by assumption))))⟩
set_option maxHeartbeats 1000000 in
theorem sameCL_nil (a b : Option Addr) (c d : Nat) (w : World) :
    Calls Try.prog 13 #[.slice a 0 c, .slice b 0 d] w fun e w' => e = .returned (.bool true) ∧ Below w.heap.size w w' := by
  go_enter Try.func13, Try.ntmps13
  go_wp2
  apply wp_loop_rounds 1
  simp only [Code.rounds]
  go_wp2
  go_ret
  exact ⟨rfl, by (repeat (first | (with_reducible exact Below.refl _ _) | (with_reducible assumption) | (with_reducible apply bd) | (with_reducible apply ba) | (with_reducible refine bp ?_ (by first | omega | (simp [pad_size]; done) | (simp [pad_size]; omega)) _ _) | (with_reducible refine bs ?_ (by first | omega | (simp [pad_size]; done) | (simp [pad_size]; omega)) _) | (with_reducible refine bt ?_ (by assumption))))⟩
set_option maxHeartbeats 1000000 in
theorem sameCL_len (a b : Option Addr) (m n c d : Nat) (h : m ≠ n) (w : World) :
    Calls Try.prog 13 #[.slice a m c, .slice b n d] w fun e w' => e = .returned (.bool false) ∧ Below w.heap.size w w' := by
  have h' : ¬ (m : Int) = (n : Int) := by omega
  go_enter Try.func13, Try.ntmps13
  go_wp2
  go_ret
  exact ⟨rfl, by (repeat (first | (with_reducible exact Below.refl _ _) | (with_reducible assumption) | (with_reducible apply bd) | (with_reducible apply ba) | (with_reducible refine bp ?_ (by first | omega | (simp [pad_size]; done) | (simp [pad_size]; omega)) _ _) | (with_reducible refine bs ?_ (by first | omega | (simp [pad_size]; done) | (simp [pad_size]; omega)) _) | (with_reducible refine bt ?_ (by assumption))))⟩
/-- A slice's value that is a list of coins in a world, however long. -/
def IsCL (W : World) (v : Value) (l : List Cn) : Prop :=
  (l = [] ∧ ∃ a cap, v = .slice a 0 cap) ∨ ∃ blk off cap, v = .slice (some ⟨blk, off, none⟩) l.length cap ∧ l ≠ [] ∧ l.length ≤ 9223372036854775807 ∧ blk < W.heap.size ∧ ∀ i x, l[i]? = some x → CnAt W blk (off + i * 5) x
theorem IsCL.below {W W' : World} {v : Value} {l : List Cn} (h : IsCL W v l) (hb : Below W.heap.size W W') : IsCL W' v l := by
  rcases h with h | ⟨blk, off, cap, hv, hne, hlen, hlt, hall⟩
  · exact .inl h
  · refine .inr ⟨blk, off, cap, hv, hne, hlen, Nat.lt_of_lt_of_le hlt hb.size, fun i x hi => ?_⟩
    obtain ⟨h0, h1, h2, h3, h4⟩ := hall i x hi
    exact ⟨(hb.cell (p := ⟨blk, _, none⟩) hlt).trans h0, (hb.cell (p := ⟨blk, _, none⟩) hlt).trans h1, (hb.cell (p := ⟨blk, _, none⟩) hlt).trans h2, (hb.cell (p := ⟨blk, _, none⟩) hlt).trans h3, (hb.cell (p := ⟨blk, _, none⟩) hlt).trans h4⟩
theorem IsCoins.cl {W : World} {v : Value} {l : List Cn} (h : IsCoins W v l) : IsCL W v l := by
  rcases h with h | ⟨blk, off, cap, hv, hne, hlen, r⟩
  · exact .inl h
  · exact .inr ⟨blk, off, cap, hv, hne, by omega, r⟩
theorem IsCL.slice {W : World} {v : Value} {l : List Cn} (h : IsCL W v l) : ∃ a cap, v = .slice a l.length cap := by
  rcases h with ⟨rfl, a, cap, rfl⟩ | ⟨blk, off, cap, hv, _⟩
  · exact ⟨a, cap, rfl⟩
  · exact ⟨_, _, hv⟩
theorem sameCL_any {va vb : Value} {p q : List Cn} (w : World) (hA : IsCL w va p) (hB : IsCL w vb q) :
    Calls Try.prog 13 #[va, vb] w fun e w' => e = .returned (.bool (clB p q)) ∧ Below w.heap.size w w' := by
  by_cases hl : p.length = q.length
  · rcases hA with ⟨rfl, a, c, rfl⟩ | ⟨g, o, c, rfl, h0, h1, h2, h3⟩
    · obtain ⟨b, d, rfl⟩ := hB.slice
      obtain rfl : q = [] := List.eq_nil_of_length_eq_zero hl.symm
      exact sameCL_nil a b c d w
    · rcases hB with ⟨rfl, b, d, rfl⟩ | ⟨h, u, d, rfl, k0, k1, k2, k3⟩
      · exact absurd (List.eq_nil_of_length_eq_zero hl) h0
      · rw [← hl]
        exact sameCL_some g h o u c d p q h1 hl w h2 k2 h3 k3
  · obtain ⟨a, c, rfl⟩ := hA.slice
    obtain ⟨b, d, rfl⟩ := hB.slice
    rw [clB_len hl]
    exact sameCL_len a b _ _ c d hl w
set_option maxHeartbeats 4000000 in
theorem equalCL_some (g h o u c d : Nat) (p q : List Cn) (hlen : p.length ≤ 9223372036854775807) (hpq : p.length = q.length) (w : World) (hg : g < w.heap.size) (hh : h < w.heap.size)
    (hp : ∀ i x, p[i]? = some x → CnAt w g (o + i * 5) x) (hq : ∀ i x, q[i]? = some x → CnAt w h (u + i * 5) x) :
    Calls Try.prog 52 #[.slice (some ⟨g, o, none⟩) p.length c, .slice (some ⟨h, u, none⟩) p.length d] w fun e w' => e = .returned (.bool (clB p q)) ∧ Below w.heap.size w w' := by
  have hpad := pads
  have heq := eq_coin
  have hpq' : Hid _ := hpq
  clear hpq
  go_enter Try.func52, Try.ntmps52
  go_wp2
  go_loopw [13] (fun i wr => ∃ (k m : Nat) (f : Nat → Obj) (dr : Nat), k ≤ p.length ∧ i = .int .i64 k ∧ w.heap.size ≤ m ∧ wr = pad w m f dr ∧ Hid (clB p q = clB (p.drop k) (q.drop k))) (fun i _ => p.length - (intOf i).toNat)
  case atStart =>
    obtain ⟨m, f, dr, hm, e⟩ := pad_of (Below.refl w.heap.size w)
    exact ⟨0, m, f, dr, Nat.zero_le _, rfl, hm, e, by unfold Hid; simp⟩
  case round =>
    obtain ⟨k, m, f, dr, hk, rfl, hm, rfl, hc⟩ := hrel
    by_cases hkl : k < p.length
    · have hkq : k < q.length := by have := hpq'.out; omega
      obtain ⟨a0, a1, a2, a3, a4⟩ := hp k p[k] (by simp [hkl])
      obtain ⟨b0, b1, b2, b3, b4⟩ := hq k q[k] (by simp [hkq])
      have hgm : g < m := by omega
      have hhm : h < m := by omega
      have hkl' : (k : Int) < (p.length : Int) := by omega
      have hc2 : Hid (clB p q = (cnB p[k] q[k] && clB (p.drop (k + 1)) (q.drop (k + 1)))) := by unfold Hid; rw [hc.out, clB_cons hkl hkq]
      generalize p[k] = x at *
      generalize q[k] = y at *
      clear hp hq hc
      cases hb : cnB x y
      · have hb1 : (x.d == y.d && eq4 x.a x.b x.c x.e y.a y.b y.c y.e) = false := hb
        rw [hb] at hc2
        have hc3 : Hid (clB p q = false) := by unfold Hid; rw [hc2.out]; rfl
        clear hb hc2
        go_wp2
        go_region
        all_goals go_wp2
        all_goals go_ret
        all_goals exact ⟨congrArg (fun b => Ending.returned (.bool b)) hc3.out.symm, by (repeat (first | (with_reducible exact Below.refl _ _) | (with_reducible assumption) | (with_reducible apply bd) | (with_reducible apply ba) | (with_reducible refine bp ?_ (by first | omega | (simp [pad_size]; done) | (simp [pad_size]; omega)) _ _) | (with_reducible refine bs ?_ (by first | omega | (simp [pad_size]; done) | (simp [pad_size]; omega)) _) | (with_reducible refine bt ?_ (by assumption))))⟩
      · have hb1 : (x.d == y.d && eq4 x.a x.b x.c x.e y.a y.b y.c y.e) = true := hb
        rw [hb] at hc2
        have hc3 : Hid (clB p q = clB (p.drop (k + 1)) (q.drop (k + 1))) := by unfold Hid; rw [hc2.out]; rfl
        clear hb hc2
        go_wp2
        go_region
        all_goals go_wp2
        all_goals go_roundw
        case rel => exact ⟨k + 1, m, f, dr + 1, by omega, by go_num, hm, by first | rfl | (simp [hpad]; done), hc3⟩
        case measure => (simp [intOf] <;> omega)
    · have hk' : k = p.length := by omega
      subst hk'
      have hc3 : Hid (clB p q = true) := by unfold Hid; rw [hc.out, List.drop_length, List.drop_of_length_le (by have := hpq'.out; omega)]; rfl
      clear hc
      go_wp2
      go_ret
      exact ⟨congrArg (fun b => Ending.returned (.bool b)) hc3.out.symm, by (repeat (first | (with_reducible exact Below.refl _ _) | (with_reducible assumption) | (with_reducible apply bd) | (with_reducible apply ba) | (with_reducible refine bp ?_ (by first | omega | (simp [pad_size]; done) | (simp [pad_size]; omega)) _ _) | (with_reducible refine bs ?_ (by first | omega | (simp [pad_size]; done) | (simp [pad_size]; omega)) _) | (with_reducible refine bt ?_ (by assumption))))⟩
set_option maxHeartbeats 1000000 in
theorem equalCL_nil (a b : Option Addr) (c d : Nat) (w : World) :
    Calls Try.prog 52 #[.slice a 0 c, .slice b 0 d] w fun e w' => e = .returned (.bool true) ∧ Below w.heap.size w w' := by
  go_enter Try.func52, Try.ntmps52
  go_wp2
  apply wp_loop_rounds 1
  simp only [Code.rounds]
  go_wp2
  go_ret
  exact ⟨rfl, by (repeat (first | (with_reducible exact Below.refl _ _) | (with_reducible assumption) | (with_reducible apply bd) | (with_reducible apply ba) | (with_reducible refine bp ?_ (by first | omega | (simp [pad_size]; done) | (simp [pad_size]; omega)) _ _) | (with_reducible refine bs ?_ (by first | omega | (simp [pad_size]; done) | (simp [pad_size]; omega)) _) | (with_reducible refine bt ?_ (by assumption))))⟩
set_option maxHeartbeats 1000000 in
theorem equalCL_len (a b : Option Addr) (m n c d : Nat) (h : m ≠ n) (w : World) :
    Calls Try.prog 52 #[.slice a m c, .slice b n d] w fun e w' => e = .returned (.bool false) ∧ Below w.heap.size w w' := by
  have h' : ¬ (m : Int) = (n : Int) := by omega
  go_enter Try.func52, Try.ntmps52
  go_wp2
  go_ret
  exact ⟨rfl, by (repeat (first | (with_reducible exact Below.refl _ _) | (with_reducible assumption) | (with_reducible apply bd) | (with_reducible apply ba) | (with_reducible refine bp ?_ (by first | omega | (simp [pad_size]; done) | (simp [pad_size]; omega)) _ _) | (with_reducible refine bs ?_ (by first | omega | (simp [pad_size]; done) | (simp [pad_size]; omega)) _) | (with_reducible refine bt ?_ (by assumption))))⟩
theorem equalCL_any {va vb : Value} {p q : List Cn} (w : World) (hA : IsCL w va p) (hB : IsCL w vb q) :
    Calls Try.prog 52 #[va, vb] w fun e w' => e = .returned (.bool (clB p q)) ∧ Below w.heap.size w w' := by
  by_cases hl : p.length = q.length
  · rcases hA with ⟨rfl, a, c, rfl⟩ | ⟨g, o, c, rfl, h0, h1, h2, h3⟩
    · obtain ⟨b, d, rfl⟩ := hB.slice
      obtain rfl : q = [] := List.eq_nil_of_length_eq_zero hl.symm
      exact equalCL_nil a b c d w
    · rcases hB with ⟨rfl, b, d, rfl⟩ | ⟨h, u, d, rfl, k0, k1, k2, k3⟩
      · exact absurd (List.eq_nil_of_length_eq_zero hl) h0
      · rw [← hl]
        exact equalCL_some g h o u c d p q h1 hl w h2 k2 h3 k3
  · obtain ⟨a, c, rfl⟩ := hA.slice
    obtain ⟨b, d, rfl⟩ := hB.slice
    rw [clB_len hl]
    exact equalCL_len a b _ _ c d hl w
end Go.Proofs.Ytjhjgncnadhbhaa
