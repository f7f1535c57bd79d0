
/- coins.Right, the document's Right, Zero. -/
import Derived.Test.YtjhjgncnadhbhaaK
import Derived.Test.YtjhjgncnadhbhaaV0
import Derived.BigQuiet
import Derived.Deep.QuietTactic
set_option linter.unusedSimpArgs false
set_option linter.unusedVariables false
set_option maxRecDepth 20000
namespace Go.Proofs.Ytjhjgncnadhbhaa
open Go.RowKit

def CnWf (x : Cn) : Prop := (0 ≤ x.d ∧ x.d ≤ 255) ∧ Lim x.a x.b x.c x.e
/-- coins.Right, from a least denomination on. -/
def rightFrom (least : Int) : List Cn → Bool
  | [] => true
  | x :: r => if x.d < least then false else if 8 ≤ x.d then false else if eq4 x.a x.b x.c x.e 0 0 0 0 then false else rightFrom (x.d + 1) r

theorem rightFrom_drop {l : List Cn} {k : Nat} (h : k < l.length) (m : Int) : rightFrom m (l.drop k) = if l[k].d < m then false else if 8 ≤ l[k].d then false else if eq4 l[k].a l[k].b l[k].c l[k].e 0 0 0 0 then false else rightFrom (l[k].d + 1) (l.drop (k + 1)) := by
  rw [List.drop_eq_getElem_cons h]; rfl

set_option maxHeartbeats 2000000 in
theorem right_some (blk off cap : Nat) (l : List Cn) (w : World) (hlen : l.length ≤ 9223372036854775807) (hlt : blk < w.heap.size) (hall : ∀ i x, l[i]? = some x → CnAt w blk (off + i * 5) x) (hwf : ∀ x ∈ l, CnWf x) :
    Calls Try.prog 76 #[.slice (some ⟨blk, off, none⟩) l.length cap] w fun e w' =>
      e = .returned (.bool (rightFrom 0 l)) ∧ Below w.heap.size w w' := by
  have hpad := pads
  have heq := eq_num
  go_enter Try.func76, Try.ntmps76
  go_wp2
  go_loopw [3, 8] (fun s3 i wr => ∃ (k m : Nat) (g : Nat → Obj) (dr : Nat) (least : Int), k ≤ l.length ∧ i = .int .i64 k ∧ s3 = .int .i64 least ∧ 0 ≤ least ∧ least ≤ 256 ∧ w.heap.size ≤ m ∧ wr = pad w m g dr ∧ Hid (rightFrom 0 l = rightFrom least (l.drop k))) (fun _ i _ => l.length - (intOf i).toNat)
  case atStart =>
    obtain ⟨m, g, dr, hm, e⟩ := pad_of (Below.refl _ w)
    exact ⟨0, m, g, dr, 0, Nat.zero_le _, rfl, rfl, by omega, by omega, hm, e, rfl⟩
  case round =>
    obtain ⟨k, m, g, dr, least, hk, rfl, rfl, hl0, hl1, hm, rfl, hsp⟩ := hrel
    by_cases hkl : k < l.length
    · obtain ⟨h0, h1, h2, h3, h4⟩ := hall k l[k] (by simp [hkl])
      obtain ⟨⟨hd0, hd1⟩, hlim⟩ := hwf l[k] (List.getElem_mem hkl)
      have hlm : blk < m := by omega
      have hdrop : Hid (rightFrom 0 l = _) := (Hid.out hsp).trans (rightFrom_drop hkl least)
      by_cases c1 : l[k].d < least
      · go_wp2
        go_ret
        exact ⟨ret_bool (by rw [hdrop.out, if_pos c1]), by (repeat (first | (with_reducible exact Below.refl _ _) | (with_reducible assumption) | (with_reducible apply bd) | (with_reducible apply ba) | (with_reducible refine bp ?_ (by first | omega | (simp [pad_size]; done) | (simp [pad_size]; omega)) _ _) | (with_reducible refine bs ?_ (by first | omega | (simp [pad_size]; done) | (simp [pad_size]; omega)) _) | (with_reducible refine bt ?_ (by assumption))))⟩
      · by_cases c2 : 8 ≤ l[k].d
        · go_wp2
          go_ret
          exact ⟨ret_bool (by rw [hdrop.out, if_neg (by omega), if_pos c2]), by (repeat (first | (with_reducible exact Below.refl _ _) | (with_reducible assumption) | (with_reducible apply bd) | (with_reducible apply ba) | (with_reducible refine bp ?_ (by first | omega | (simp [pad_size]; done) | (simp [pad_size]; omega)) _ _) | (with_reducible refine bs ?_ (by first | omega | (simp [pad_size]; done) | (simp [pad_size]; omega)) _) | (with_reducible refine bt ?_ (by assumption))))⟩
        · rcases Bool.eq_false_or_eq_true (eq4 l[k].a l[k].b l[k].c l[k].e 0 0 0 0) with c3 | c3
          · go_wp2
            go_ret
            exact ⟨ret_bool (by rw [hdrop.out, if_neg (by omega), if_neg (by omega), if_pos c3]), by (repeat (first | (with_reducible exact Below.refl _ _) | (with_reducible assumption) | (with_reducible apply bd) | (with_reducible apply ba) | (with_reducible refine bp ?_ (by first | omega | (simp [pad_size]; done) | (simp [pad_size]; omega)) _ _) | (with_reducible refine bs ?_ (by first | omega | (simp [pad_size]; done) | (simp [pad_size]; omega)) _) | (with_reducible refine bt ?_ (by assumption))))⟩
          · go_wp2
            go_roundw
            case rel =>
              obtain ⟨m', g', dr', hm', e'⟩ := pad_of (ba (bp (Below.refl _ w) hm g dr) (.cells #[.int .u8 l[k].d, .int .u64 l[k].a, .int .u64 l[k].b, .int .u64 l[k].c, .int .u64 l[k].e] 66))
              exact ⟨k + 1, m', g', dr', l[k].d + 1, by omega, by go_num, rfl, by omega, by omega, hm', e', by unfold Hid; rw [hdrop.out, if_neg (by omega), if_neg (by omega), if_neg (by simp [c3])]⟩
            case measure => simp [intOf]; omega
    · have hk' : k = l.length := by omega
      subst hk'
      go_wp2
      go_ret
      exact ⟨ret_bool (by rw [hsp.out, List.drop_length]; rfl), by (repeat (first | (with_reducible exact Below.refl _ _) | (with_reducible assumption) | (with_reducible apply bd) | (with_reducible apply ba) | (with_reducible refine bp ?_ (by first | omega | (simp [pad_size]; done) | (simp [pad_size]; omega)) _ _) | (with_reducible refine bs ?_ (by first | omega | (simp [pad_size]; done) | (simp [pad_size]; omega)) _) | (with_reducible refine bt ?_ (by assumption))))⟩

set_option maxHeartbeats 400000 in
theorem right_none (a : Option Addr) (cap : Nat) (w : World) :
    Calls Try.prog 76 #[.slice a 0 cap] w fun e w' => e = .returned (.bool true) ∧ Below w.heap.size w w' := by
  go_enter Try.func76, Try.ntmps76
  go_wp2
  apply wp_loop_rounds 1
  simp only [Code.rounds]
  go_wp2
  go_ret
  exact ⟨rfl, by (repeat (first | (with_reducible exact Below.refl _ _) | (with_reducible assumption) | (with_reducible apply bd) | (with_reducible apply ba) | (with_reducible refine bp ?_ (by first | omega | (simp [pad_size]; done) | (simp [pad_size]; omega)) _ _) | (with_reducible refine bs ?_ (by first | omega | (simp [pad_size]; done) | (simp [pad_size]; omega)) _) | (with_reducible refine bt ?_ (by assumption))))⟩

theorem right_any {v : Value} {l : List Cn} (w : World) (h : IsCoins w v l) (hwf : ∀ x ∈ l, CnWf x) :
    Calls Try.prog 76 #[v] w fun e w' => e = .returned (.bool (rightFrom 0 l)) ∧ Below w.heap.size w w' := by
  rcases h with ⟨rfl, a, cap, rfl⟩ | ⟨blk, off, cap, rfl, _, hlen, hlt, hall⟩
  · exact right_none a cap w
  · exact right_some blk off cap l w (by omega) hlt hall hwf

set_option maxHeartbeats 1000000 in
theorem zero_any (x0 x1 x2 x3 : Int) (w : World) :
    Calls Try.prog 79 #[.agg #[.int .u64 x0, .int .u64 x1, .int .u64 x2, .int .u64 x3]] w fun e w' => e = .returned (.bool (eq4 x0 x1 x2 x3 0 0 0 0)) ∧ Below w.heap.size w w' := by
  rcases Bool.eq_false_or_eq_true (x0 == 0) with e0 | e0
  · rcases Bool.eq_false_or_eq_true (x1 == 0) with e1 | e1
    · rcases Bool.eq_false_or_eq_true (x2 == 0) with e2 | e2
      · go_enter Try.func79, Try.ntmps79
        go_wp2
        go_ret
        exact ⟨ret_bool (by simp [eq4, e0, e1, e2]), by (repeat (first | (with_reducible exact Below.refl _ _) | (with_reducible assumption) | (with_reducible apply bd) | (with_reducible apply ba) | (with_reducible refine bp ?_ (by first | omega | (simp [pad_size]; done) | (simp [pad_size]; omega)) _ _) | (with_reducible refine bs ?_ (by first | omega | (simp [pad_size]; done) | (simp [pad_size]; omega)) _) | (with_reducible refine bt ?_ (by assumption))))⟩
      · go_enter Try.func79, Try.ntmps79
        go_wp2
        go_ret
        exact ⟨ret_bool (by simp [eq4, e0, e1, e2]), by (repeat (first | (with_reducible exact Below.refl _ _) | (with_reducible assumption) | (with_reducible apply bd) | (with_reducible apply ba) | (with_reducible refine bp ?_ (by first | omega | (simp [pad_size]; done) | (simp [pad_size]; omega)) _ _) | (with_reducible refine bs ?_ (by first | omega | (simp [pad_size]; done) | (simp [pad_size]; omega)) _) | (with_reducible refine bt ?_ (by assumption))))⟩
    · go_enter Try.func79, Try.ntmps79
      go_wp2
      go_ret
      exact ⟨ret_bool (by simp [eq4, e0, e1]), by (repeat (first | (with_reducible exact Below.refl _ _) | (with_reducible assumption) | (with_reducible apply bd) | (with_reducible apply ba) | (with_reducible refine bp ?_ (by first | omega | (simp [pad_size]; done) | (simp [pad_size]; omega)) _ _) | (with_reducible refine bs ?_ (by first | omega | (simp [pad_size]; done) | (simp [pad_size]; omega)) _) | (with_reducible refine bt ?_ (by assumption))))⟩
  · go_enter Try.func79, Try.ntmps79
    go_wp2
    go_ret
    exact ⟨ret_bool (by simp [eq4, e0]), by (repeat (first | (with_reducible exact Below.refl _ _) | (with_reducible assumption) | (with_reducible apply bd) | (with_reducible apply ba) | (with_reducible refine bp ?_ (by first | omega | (simp [pad_size]; done) | (simp [pad_size]; omega)) _ _) | (with_reducible refine bs ?_ (by first | omega | (simp [pad_size]; done) | (simp [pad_size]; omega)) _) | (with_reducible refine bt ?_ (by assumption))))⟩
end Go.Proofs.Ytjhjgncnadhbhaa
