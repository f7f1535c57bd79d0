
/- The document's Right of a list of coins; it is the program's. -/
import Derived.Test.YtjhjgncnadhbhaaM
set_option linter.unusedSimpArgs false
set_option linter.unusedVariables false
set_option maxRecDepth 20000
namespace Go.Proofs.Ytjhjgncnadhbhaa
open Go.RowKit

def OkAt (l : List Cn) (i : Nat) (x : Cn) : Prop := x.d ≤ 7 ∧ eq4 x.a x.b x.c x.e 0 0 0 0 = false ∧ ∀ k y, k < i → l[k]? = some y → y.d < x.d
def RightP (l : List Cn) : Prop := ∀ i x, l[i]? = some x → OkAt l i x

theorem rightFrom_iff (l : List Cn) (m : Int) : rightFrom m l = true ↔ (∀ i x, l[i]? = some x → OkAt l i x ∧ m ≤ x.d) := by
  induction l generalizing m with
  | nil => simp [rightFrom]
  | cons y l ih =>
    unfold rightFrom
    by_cases h1 : y.d < m
    · rw [if_pos h1]
      simp only [Bool.false_eq_true, false_iff]
      intro h; have := (h 0 y rfl).2; omega
    · rw [if_neg h1]
      by_cases h2 : 8 ≤ y.d
      · rw [if_pos h2]
        simp only [Bool.false_eq_true, false_iff]
        intro h; have := (h 0 y rfl).1.1; omega
      · rw [if_neg h2]
        rcases Bool.eq_false_or_eq_true (eq4 y.a y.b y.c y.e 0 0 0 0) with h3 | h3
        · rw [if_pos h3]
          simp only [Bool.false_eq_true, false_iff]
          intro h; have := (h 0 y rfl).1.2.1; rw [h3] at this; cases this
        · rw [if_neg (by simp [h3]), ih]
          constructor
          · intro h i x hi
            cases i with
            | zero => simp at hi; subst hi; exact ⟨⟨by omega, h3, fun k _ hk => by omega⟩, by omega⟩
            | succ i =>
              obtain ⟨⟨a, b, c⟩, d⟩ := h i x (by simpa using hi)
              refine ⟨⟨a, b, fun k z hk hz => ?_⟩, by omega⟩
              cases k with
              | zero => simp at hz; subst hz; omega
              | succ k => exact c k z (by omega) (by simpa using hz)
          · intro h i x hi
            obtain ⟨⟨a, b, c⟩, d⟩ := h (i + 1) x (by simpa using hi)
            refine ⟨⟨a, b, fun k z hk hz => c (k + 1) z (by omega) (by simpa using hz)⟩, ?_⟩
            have := c 0 y (by omega) rfl; omega

theorem right_eq {l : List Cn} (h : RightP l) (hwf : ∀ x ∈ l, CnWf x) : rightFrom 0 l = true :=
  (rightFrom_iff l 0).2 fun i x hi => ⟨h i x hi, (hwf x (List.mem_of_getElem? hi)).1.1⟩
theorem right_ne {l : List Cn} {i : Nat} {x : Cn} (hi : l[i]? = some x) (h : ¬ OkAt l i x) : rightFrom 0 l = false := by
  rcases Bool.eq_false_or_eq_true (rightFrom 0 l) with e | e
  · exact absurd ((rightFrom_iff l 0).1 e i x hi).1 h
  · exact e

set_option maxHeartbeats 4000000 in
theorem rightR_some (blk off cap : Nat) (l : List Cn) (w : World) (hlen : l.length ≤ 9223372036854775807) (hlt : blk < w.heap.size) (hall : ∀ i x, l[i]? = some x → CnAt w blk (off + i * 5) x) (hwf : ∀ x ∈ l, CnWf x) :
    Calls Try.prog 78 #[.slice (some ⟨blk, off, none⟩) l.length cap] w fun e w' =>
      e = .returned (.bool (rightFrom 0 l)) ∧ Below w.heap.size w w' := by
  have hpad := pads
  go_enter Try.func78, Try.ntmps78
  go_wp2
  go_loopw [3] (fun i wr => ∃ (k m : Nat) (g : Nat → Obj) (dr : Nat), k ≤ l.length ∧ i = .int .i64 k ∧ w.heap.size ≤ m ∧ wr = pad w m g dr ∧ (∀ j x, j < k → l[j]? = some x → OkAt l j x)) (fun i _ => l.length - (intOf i).toNat)
  case atStart =>
    obtain ⟨m, g, dr, hm, e⟩ := pad_of (Below.refl _ w)
    exact ⟨0, m, g, dr, Nat.zero_le _, rfl, hm, e, fun j x hj => by omega⟩
  case round =>
    obtain ⟨k, m, g, dr, hk, rfl, hm, rfl, hok⟩ := hrel
    by_cases hkl : k < l.length
    · have hkx : l[k]? = some l[k] := by simp [hkl]
      obtain ⟨h0, h1, h2, h3, h4⟩ := hall k l[k] hkx
      obtain ⟨⟨hd0, hd1⟩, hlim⟩ := hwf l[k] (List.getElem_mem hkl)
      have hlm : blk < m := by omega
      by_cases c1 : 7 < l[k].d
      · go_wp2
        go_ret
        exact ⟨ret_bool (by rw [right_ne hkx (fun h => by have := h.1; omega)]), by (repeat (first | (with_reducible exact Below.refl _ _) | (with_reducible assumption) | (with_reducible apply bd) | (with_reducible apply ba) | (with_reducible refine bp ?_ (by first | omega | (simp [pad_size]; done) | (simp [pad_size]; omega)) _ _) | (with_reducible refine bs ?_ (by first | omega | (simp [pad_size]; done) | (simp [pad_size]; omega)) _) | (with_reducible refine bt ?_ (by assumption))))⟩
      · rcases Bool.eq_false_or_eq_true (eq4 l[k].a l[k].b l[k].c l[k].e 0 0 0 0) with c3 | c3
        · go_wp2_with (go_at_call 79; refine (zero_any _ _ _ _ _).mono ?_; rintro e w1 ⟨rfl, hb⟩; rw [c3])
          go_ret
          exact ⟨ret_bool (by rw [right_ne hkx (fun h => by have := h.2.1; rw [c3] at this; cases this)]), by (repeat (first | (with_reducible exact Below.refl _ _) | (with_reducible assumption) | (with_reducible apply bd) | (with_reducible apply ba) | (with_reducible refine bp ?_ (by first | omega | (simp [pad_size]; done) | (simp [pad_size]; omega)) _ _) | (with_reducible refine bs ?_ (by first | omega | (simp [pad_size]; done) | (simp [pad_size]; omega)) _) | (with_reducible refine bt ?_ (by assumption))))⟩
        · go_wp2_with (go_at_call 79; refine (zero_any _ _ _ _ _).mono ?_; rintro e w1 ⟨rfl, hb⟩; rw [c3]; obtain ⟨m1, g1, d1, hm1, rfl⟩ := pad_of (bt (bp (Below.refl _ w) hm g dr) hb); clear hb hm hlm)
          go_loopw [4] (fun i wr => ∃ (j m : Nat) (g : Nat → Obj) (dr : Nat), j ≤ k ∧ i = .int .i64 j ∧ w.heap.size ≤ m ∧ wr = pad w m g dr ∧ (∀ j' y, j' < j → l[j']? = some y → y.d < l[k].d)) (fun i _ => k - (intOf i).toNat)
          case atStart => exact ⟨0, m1, g1, d1, Nat.zero_le _, rfl, hm1, rfl, fun j x hj => by omega⟩
          case round =>
            obtain ⟨j, m, g, dr, hj, rfl, hm, rfl, hlow⟩ := hrel
            have hlm : blk < m := by omega
            by_cases hjk : j < k
            · have hjl : j < l.length := by omega
              have hjx : l[j]? = some l[j] := by simp [hjl]
              obtain ⟨j0, -, -, -, -⟩ := hall j l[j] hjx
              by_cases c5 : l[k].d ≤ l[j].d
              · go_wp2
                go_region
                all_goals go_wp2
                all_goals go_ret
                all_goals exact ⟨ret_bool (by rw [right_ne hkx (fun h => by have := h.2.2 j _ hjk hjx; omega)]), by (repeat (first | (with_reducible exact Below.refl _ _) | (with_reducible assumption) | (with_reducible apply bd) | (with_reducible apply ba) | (with_reducible refine bp ?_ (by first | omega | (simp [pad_size]; done) | (simp [pad_size]; omega)) _ _) | (with_reducible refine bs ?_ (by first | omega | (simp [pad_size]; done) | (simp [pad_size]; omega)) _) | (with_reducible refine bt ?_ (by assumption))))⟩
              · go_wp2
                go_region
                all_goals go_wp2
                all_goals go_roundw
                case rel =>
                  refine ⟨j + 1, m, g, _, by omega, by go_num, hm, rfl, fun j' y hj' hy => ?_⟩
                  by_cases e : j' = j
                  · subst e; rw [hjx] at hy; cases hy; omega
                  · exact hlow j' y (by omega) hy
                case measure => simp [intOf]; omega
            · have hjk' : j = k := by omega
              subst hjk'
              go_wp2
              go_roundw
              case rel =>
                refine ⟨j + 1, m, g, _, by omega, by go_num, hm, rfl, fun j' y hj' hy => ?_⟩
                by_cases e : j' = j
                · subst e; rw [hkx] at hy; cases hy; exact ⟨by omega, c3, hlow⟩
                · exact hok j' y (by omega) hy
              case measure => simp [intOf]; omega
    · have hk' : k = l.length := by omega
      subst hk'
      go_wp2
      go_ret
      exact ⟨ret_bool (by rw [right_eq (fun i x hi => hok i x (List.getElem?_eq_some_iff.1 hi).1 hi) hwf]), by (repeat (first | (with_reducible exact Below.refl _ _) | (with_reducible assumption) | (with_reducible apply bd) | (with_reducible apply ba) | (with_reducible refine bp ?_ (by first | omega | (simp [pad_size]; done) | (simp [pad_size]; omega)) _ _) | (with_reducible refine bs ?_ (by first | omega | (simp [pad_size]; done) | (simp [pad_size]; omega)) _) | (with_reducible refine bt ?_ (by assumption))))⟩

set_option maxHeartbeats 400000 in
theorem rightR_none (a : Option Addr) (cap : Nat) (w : World) :
    Calls Try.prog 78 #[.slice a 0 cap] w fun e w' => e = .returned (.bool true) ∧ Below w.heap.size w w' := by
  go_enter Try.func78, Try.ntmps78
  go_wp2
  apply wp_loop_rounds 1
  simp only [Code.rounds]
  go_wp2
  go_ret
  exact ⟨rfl, by (repeat (first | (with_reducible exact Below.refl _ _) | (with_reducible assumption) | (with_reducible apply bd) | (with_reducible apply ba) | (with_reducible refine bp ?_ (by first | omega | (simp [pad_size]; done) | (simp [pad_size]; omega)) _ _) | (with_reducible refine bs ?_ (by first | omega | (simp [pad_size]; done) | (simp [pad_size]; omega)) _) | (with_reducible refine bt ?_ (by assumption))))⟩

theorem rightR_any {v : Value} {l : List Cn} (w : World) (h : IsCoins w v l) (hwf : ∀ x ∈ l, CnWf x) :
    Calls Try.prog 78 #[v] w fun e w' => e = .returned (.bool (rightFrom 0 l)) ∧ Below w.heap.size w w' := by
  rcases h with ⟨rfl, a, cap, rfl⟩ | ⟨blk, off, cap, rfl, _, hlen, hlt, hall⟩
  · exact rightR_none a cap w
  · exact rightR_some blk off cap l w (by omega) hlt hall hwf
end Go.Proofs.Ytjhjgncnadhbhaa
