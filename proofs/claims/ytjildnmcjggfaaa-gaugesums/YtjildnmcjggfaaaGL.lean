
/- gauge.Sum of any points, Nearest of none; the law's turns. -/
import Derived.Test.YtjildnmcjggfaaaGK
import Derived.Deep.LoopGhost
set_option linter.unusedSimpArgs false
set_option linter.unusedVariables false
namespace Go.Proofs.Ytjildnmcjggfaaa
open Go.RowKit

def Ps (a : Nat) : Prop := Fin' a ∧ sgn a = false
def addF (a b : Nat) : Nat := (Ieee.double.add a b).getD 0
theorem addF_ok {a b : Nat} (ha : Ps a) (hb : Ps b) : Ieee.double.add a b = some (addF a b) ∧ Ps (addF a b) := by
  obtain ⟨d, h1, h2, h3⟩ := add_pos ha.1 hb.1 ha.2 hb.2
  unfold addF
  rw [h1]
  exact ⟨rfl, h2, h3⟩
def addP (s x : Nat × Nat) : Nat × Nat := (addF s.1 x.1, addF s.2 x.2)
def sumP (x : Nat × Nat) (l : List (Nat × Nat)) : Nat × Nat := l.foldl addP x
def PsP (x : Nat × Nat) : Prop := Ps x.1 ∧ Ps x.2
theorem addP_ps {s x : Nat × Nat} (h : PsP s) (k : PsP x) : PsP (addP s x) := ⟨(addF_ok h.1 k.1).2, (addF_ok h.2 k.2).2⟩
theorem sumP_ps {x : Nat × Nat} {l : List (Nat × Nat)} (h : PsP x) (k : ∀ y ∈ l, PsP y) : PsP (sumP x l) := by
  unfold sumP
  induction l generalizing x with
  | nil => exact h
  | cons y l ih => exact ih (addP_ps h (k y (by simp))) (fun z hz => k z (by simp [hz]))
theorem sumP_take {x : Nat × Nat} {l : List (Nat × Nat)} {q : Nat} {y : Nat × Nat} (h : l[q]? = some y) : sumP x (l.take (q + 1)) = addP (sumP x (l.take q)) y := by
  unfold sumP
  rw [List.take_add_one, h, List.foldl_append]
  rfl
theorem ps_eq {a : Nat} (h : Ps a) : (FloatKind.f64.format.order a a == some Ordering.eq) = true := order_self h.1

set_option maxRecDepth 100000 in
set_option maxHeartbeats 1000000 in
theorem sum_nil (a : Option Addr) (cap : Nat) (w : World) : Calls Try.prog 20 #[.slice a 0 cap] w fun e w' => e = .returned (.complex .f64 0 0) ∧ w' = w := by
  go_enter Try.func20, Try.ntmps20
  go_wp2
  go_ret
  exact ⟨rfl, rfl⟩
set_option maxRecDepth 100000 in
set_option maxHeartbeats 1000000 in
theorem sum_any (W : World) (blk off cap n : Nat) (x : Nat × Nat) (l : List (Nat × Nat)) (hn : Hid (n = l.length)) (hlen : n ≤ 1000000) (hcap : n + 1 ≤ cap) (hc2 : cap ≤ 9223372036854775807) (hc0 : W.cell? ⟨blk, off, none⟩ = some (.complex .f64 x.1 x.2)) (hc : ∀ i y, l[i]? = some y → W.cell? ⟨blk, off + 1 + i, none⟩ = some (.complex .f64 y.1 y.2)) (hx : PsP x) (hp : ∀ y ∈ l, PsP y) :
    Calls Try.prog 20 #[.slice (some ⟨blk, off, none⟩) (n + 1) cap] W fun e w' => e = .returned (.complex .f64 (sumP x l).1 (sumP x l).2) ∧ w' = W := by
  have hne : (((n + 1 : Nat) : Int) == 0) = false := by simp; omega
  have hne2 : (((n : Nat) : Int) + 1 == 0) = false := by simp; omega
  by_cases hc1 : cap = 1
  · have h0 : n = 0 := by omega
    subst h0 hc1
    have hl : l = [] := by have := hn.out; exact List.eq_nil_of_length_eq_zero this.symm
    subst hl
    obtain ⟨x1, x2⟩ := x
    go_enter Try.func20, Try.ntmps20
    go_wp2
    apply wp_loop_rounds 1
    simp only [Code.rounds]
    go_wp2
    go_ret
    exact ⟨rfl, rfl⟩
  have hs1 : (1 : Int) ≤ (n : Int) + 1 := by omega
  have hs2 : (n : Int) + 1 ≤ (cap : Int) := by omega
  have hs3 : 1 ≤ n + 1 := by omega
  have hs4 : (0 : Int) < (n : Int) + 1 := by omega
  have hs5 : n + 1 - 1 = n := by omega
  go_enter Try.func20, Try.ntmps20
  go_wp2
  go_loopw [3, 15] (fun s3 s15 wr => ∃ (q A B : Nat), q ≤ n ∧ s15 = .int .i64 (q : Int) ∧ s3 = .complex .f64 A B ∧ Hid ((A, B) = sumP x (l.take q)) ∧ wr = W) (fun _ s15 _ => n - (intOf s15).toNat)
  case atStart => exact ⟨0, x.1, x.2, by omega, rfl, rfl, rfl, rfl⟩
  case round =>
    obtain ⟨q, A, B, hq, rfl, rfl, hAB, rfl⟩ := hrel
    by_cases hlt : q < n
    · have hql : q < l.length := by have := hn.out; omega
      have hy := List.getElem?_eq_getElem hql
      have hmem := List.getElem_mem hql
      generalize l[q] = y at *
      have hcy := hc q y hy
      have hst := sumP_take (x := x) hy
      rw [← hAB.out] at hst
      have hps : PsP (A, B) := by rw [hAB.out]; exact sumP_ps hx (fun z hz => hp z (List.mem_of_mem_take hz))
      have hpy := hp y hmem
      have ha1 := (addF_ok hps.1 hpy.1).1
      have ha2 := (addF_ok hps.2 hpy.2).1
      have k1 : ∀ w : World, (binOp .add 36 (.complex .f64 A B) (.complex .f64 y.1 y.2)).run Try.prog w = .ok (.complex .f64 (addF A y.1) (addF B y.2)) w := fun w => run_complex_sum w .add (.inl rfl) _ _ _ _ _ _ _ _ (by
        show (floatBits .add .f64 A y.1).bind (fun re => (floatBits .add .f64 B y.2).bind fun im => some (re, im)) = _
        rw [show floatBits .add .f64 A y.1 = some (addF A y.1) from ha1, show floatBits .add .f64 B y.2 = some (addF B y.2) from ha2]; rfl)
      obtain ⟨y1, y2⟩ := y
      have hw5 : IntKind.i64.wrap ((q : Int) + 1) = (q : Int) + 1 := by rw [IntKind.wrap_i64]; omega
      have hst2 : Hid ((addF A y1, addF B y2) = sumP x (l.take (q + 1))) := hst.symm
      clear hc hc0 hps hpy ha1 ha2 hmem hst
      generalize addF A y1 = A' at *
      generalize addF B y2 = B' at *
      go_wp2
      go_roundw
      case rel => exact ⟨q + 1, A', B', by omega, by go_num, rfl, hst2, by first | rfl | trivial⟩
      case measure => (simp [intOf] <;> omega)
    · have hqn : q = n := by omega
      have e : (A, B) = sumP x l := by rw [hAB.out, hqn, hn.out, List.take_length]
      go_wp2
      go_ret
      refine ⟨?_, rfl⟩
      rw [← e]
      rfl
set_option maxRecDepth 100000 in
set_option maxHeartbeats 1000000 in
theorem nearest_nil (a : Option Addr) (cap c d : Nat) (w : World) : Calls Try.prog 26 #[.slice a 0 cap, .complex .f64 c d] w fun e w' => e = .returned (.int .i64 (-1)) ∧ w' = w := by
  go_enter Try.func26, Try.ntmps26
  go_wp2
  apply wp_loop_rounds 1
  simp only [Code.rounds]
  go_wp2
  go_ret
  exact ⟨rfl, rfl⟩
theorem ps_word {r : Nat} (h : r ≤ 9218868437227405312) : Ps r := by
  obtain ⟨h1, h2⟩ := low_fin h
  refine ⟨h1, ?_⟩
  unfold sgn
  rw [Nat.div_eq_of_lt (by omega)]; rfl
theorem turn_ex (w : World) : Calls Try.prog 21 #[.complex .f64 4607182418800017408 4611686018427387904, .int .i64 1] w fun e w' => e = .returned (.complex .f64 13835058055282163712 4607182418800017408) ∧ w' = w := turn_any _ _ _ w
theorem float_ex (w : World) : Calls Try.prog 12 #[.agg #[.int .u64 9007199254740993, .int .u64 0, .int .u64 0, .int .u64 0]] w fun e w' => e = .returned (.float .f64 4845873199050653696) ∧ Below w.heap.size w w' := by
  have h := float_any (x0 := 9007199254740993) (x1 := 0) (x2 := 0) (x3 := 0) (by unfold Lim; omega) w
  rw [val_of, show fI 9007199254740993 = 4845873199050653696 by decide +kernel] at h
  exact h
set_option maxRecDepth 100000 in
set_option maxHeartbeats 1000000 in
theorem says_turns : Says 11 #[] (.bool true) := by
  intro w
  have hpad := pads
  have h1 : (FloatKind.f64.format.order 4845873199050653696 4845873199050653696 == some Ordering.eq) = true := by decide +kernel
  have h2 : (FloatKind.f64.format.order 13835058055282163712 13835058055282163712 == some Ordering.eq) = true := by decide +kernel
  have h3 : (FloatKind.f64.format.order 4607182418800017408 4607182418800017408 == some Ordering.eq) = true := by decide +kernel
  have h4 : (FloatKind.f64.format.order 4611686018427387904 4611686018427387904 == some Ordering.eq) = true := by decide +kernel
  have hs : sumP (4607182418800017408, 0) [(0, 4611686018427387904)] = (4607182418800017408, 4611686018427387904) := by decide +kernel
  go_enter Try.func11, Try.ntmps11
  go_wp2_with (first
    | (go_at_call 12; refine (float_ex _).mono ?_; rintro e w' ⟨rfl, hb⟩; obtain ⟨m1, g1, d1, hm1, rfl⟩ := pad_of hb; clear hb; (try simp [pad_size] at hm1); have st1_w : w.heap.size ≤ m1 := (by omega))
    | (go_at_call 21; refine (turn_ex _).mono ?_; rintro e w' ⟨rfl, rfl⟩)
    | (go_at_call 26; refine (nearest_nil _ _ _ _ _).mono ?_; rintro e w' ⟨rfl, rfl⟩)
    | (go_at_call 20; refine (sum_any _ _ 0 2 1 (4607182418800017408, 0) [(0, 4611686018427387904)] rfl (by omega) (by omega) (by omega) (by go_simp) (by intro i y hy; match i, hy with | 0, hy => (simp at hy; subst hy; go_simp) | i + 1, hy => simp at hy) ⟨ps_word (by decide), ps_word (by decide)⟩ (by intro y hy; simp at hy; subst hy; exact ⟨ps_word (by decide), ps_word (by decide)⟩)).mono ?_; rintro e w' ⟨rfl, rfl⟩; rw [hs]))
  all_goals go_ret
  all_goals exact ⟨rfl, by (repeat (first | (with_reducible exact Below.refl _ _) | (with_reducible assumption) | (with_reducible apply bd) | (with_reducible apply ba) | (with_reducible refine bp ?_ (by first | omega | (simp [pad_size]; done) | (simp [pad_size]; omega)) _ _) | (with_reducible refine bs ?_ (by first | omega | (simp [pad_size]; done) | (simp [pad_size]; omega)) _) | (with_reducible refine bt ?_ (by assumption))))⟩
end Go.Proofs.Ytjildnmcjggfaaa
