
/- Several texts, one behind the other: GK, GL, GM, GN, GO, GP, GQ, GT, GU. -/
import Derived.Test.YtpdokkhpeoeebaaGJ
import Derived.Deep.LoopGhost
import Derived.Test.YtpdokkhpeoeebaaV1
import Derived.Maps.AppendAt
/- gauge's Turn, Apart, Point and the reference's; a point as it is told. -/
set_option linter.unusedSimpArgs false
set_option linter.unusedVariables false
set_option maxRecDepth 20000
namespace Go.Proofs.Ytpdokkhpeoeebaa
open Go.RowKit

/-- A point, so many quarters turned. -/
def tw : Nat → Nat × Nat → Nat × Nat
  | 0, p => p
  | q + 1, p => (neg (tw q p).2, (tw q p).1)
theorem run_neg (b : Nat) (w : World) : (Op.unary .neg (.float .f64 b)).run Try.prog w = .ok (.float .f64 (neg b)) w := rfl
theorem st_float (a : Addr) (m : Mode) (k : FloatKind) (b : Nat) (w : World) : (store a (.float k b) m).run Try.prog w = stored Try.prog w a (.float k b) m := run_store Try.prog w a _ m rfl
def kq (k : Int) : Nat := (k % 4).toNat
theorem kq_cases (k : Int) : (kq k = 0 ∧ k % 4 = 0) ∨ (kq k = 1 ∧ k % 4 = 1) ∨ (kq k = 2 ∧ k % 4 = 2) ∨ (kq k = 3 ∧ k % 4 = 3) := by unfold kq; omega

set_option maxRecDepth 100000 in
set_option maxHeartbeats 1000000 in
theorem turn_any (a b : Nat) (k : Int) (w : World) : Calls Try.prog 21 #[.complex .f64 a b, .int .i64 k] w fun e w' => e = .returned (.complex .f64 (tw (kq k) (a, b)).1 (tw (kq k) (a, b)).2) ∧ w' = w := by
  have hn := run_neg
  have ha := i64_and3 k
  rcases kq_cases k with ⟨e, h⟩ | ⟨e, h⟩ | ⟨e, h⟩ | ⟨e, h⟩
  all_goals
    rw [e]
    rw [h] at ha
    go_enter Try.func21, Try.ntmps21
    go_wp2
    apply wp_loop_rounds 4
    simp only [Code.rounds]
    go_wp2
    go_ret
    exact ⟨rfl, rfl⟩
set_option maxRecDepth 100000 in
set_option maxHeartbeats 1000000 in
theorem turnR_any (a b : Nat) (k : Int) (w : World) : Calls Try.prog 22 #[.agg #[.float .f64 a, .float .f64 b], .int .i64 k] w fun e w' => e = .returned (.agg #[.float .f64 (tw (kq k) (a, b)).1, .float .f64 (tw (kq k) (a, b)).2]) ∧ Below w.heap.size w w' := by
  have hn := run_neg
  have hst := st_float
  have hpad := pads
  obtain ⟨r, hr⟩ : ∃ r, k.tmod 4 = r := ⟨_, rfl⟩
  have hr2 : r = if 0 ≤ k then k % 4 else -((-k) % 4) := by
    rw [← hr]
    split
    · rename_i h; exact Int.tmod_eq_emod_of_nonneg h
    · have h := Int.neg_tmod (-k) 4
      rw [Int.neg_neg, Int.tmod_eq_emod_of_nonneg (show 0 ≤ -k by omega)] at h
      exact h
  have hrl : -4 < r ∧ r < 4 ∧ (r + 4) % 4 = k % 4 := by rw [hr2]; split <;> omega
  clear hr2
  have hw : IntKind.i64.wrap (r + 4) = r + 4 := by rw [IntKind.wrap_i64]; omega
  have hq : (r + 4).tmod 4 = k % 4 := by
    rw [Int.tmod_eq_emod_of_nonneg (by omega)]; omega
  rcases kq_cases k with ⟨e, h⟩ | ⟨e, h⟩ | ⟨e, h⟩ | ⟨e, h⟩
  all_goals
    rw [e]
    rw [h] at hq
    go_enter Try.func22, Try.ntmps22
    go_wp2
    apply wp_loop_rounds 4
    simp only [Code.rounds]
    go_wp2
    first
      | refine bodyPost_ret (v := .agg #[.float .f64 a, .float .f64 b]) (by simp only [results, Try.results22]; go_simp) rfl ⟨rfl, by (repeat (first | (with_reducible exact Below.refl _ _) | (with_reducible assumption) | (with_reducible apply bd) | (with_reducible apply ba) | (with_reducible refine bp ?_ (by first | omega | (simp [pad_size]; done) | (simp [pad_size]; omega)) _ _) | (with_reducible refine bs ?_ (by first | omega | (simp [pad_size]; done) | (simp [pad_size]; omega)) _) | (with_reducible refine bt ?_ (by assumption))))⟩
      | refine bodyPost_ret (v := .agg #[.float .f64 (neg b), .float .f64 a]) (by simp only [results, Try.results22]; go_simp) rfl ⟨rfl, by (repeat (first | (with_reducible exact Below.refl _ _) | (with_reducible assumption) | (with_reducible apply bd) | (with_reducible apply ba) | (with_reducible refine bp ?_ (by first | omega | (simp [pad_size]; done) | (simp [pad_size]; omega)) _ _) | (with_reducible refine bs ?_ (by first | omega | (simp [pad_size]; done) | (simp [pad_size]; omega)) _) | (with_reducible refine bt ?_ (by assumption))))⟩
      | refine bodyPost_ret (v := .agg #[.float .f64 (neg a), .float .f64 (neg b)]) (by simp only [results, Try.results22]; go_simp) rfl ⟨rfl, by (repeat (first | (with_reducible exact Below.refl _ _) | (with_reducible assumption) | (with_reducible apply bd) | (with_reducible apply ba) | (with_reducible refine bp ?_ (by first | omega | (simp [pad_size]; done) | (simp [pad_size]; omega)) _ _) | (with_reducible refine bs ?_ (by first | omega | (simp [pad_size]; done) | (simp [pad_size]; omega)) _) | (with_reducible refine bt ?_ (by assumption))))⟩
      | refine bodyPost_ret (v := .agg #[.float .f64 (neg (neg b)), .float .f64 (neg a)]) (by simp only [results, Try.results22]; go_simp) rfl ⟨rfl, by (repeat (first | (with_reducible exact Below.refl _ _) | (with_reducible assumption) | (with_reducible apply bd) | (with_reducible apply ba) | (with_reducible refine bp ?_ (by first | omega | (simp [pad_size]; done) | (simp [pad_size]; omega)) _ _) | (with_reducible refine bs ?_ (by first | omega | (simp [pad_size]; done) | (simp [pad_size]; omega)) _) | (with_reducible refine bt ?_ (by assumption))))⟩
theorem of_point (a b : Nat) (w : World) : Calls Try.prog 23 #[.complex .f64 a b] w fun e w' => e = .returned (.agg #[.float .f64 a, .float .f64 b]) ∧ Below w.heap.size w w' := by
  have hpad := pads
  have hst := st_float
  go_enter Try.func23, Try.ntmps23
  go_wp2
  refine bodyPost_ret (v := .agg #[.float .f64 a, .float .f64 b]) (by simp only [results, Try.results23]; go_simp) rfl ⟨rfl, by (repeat (first | (with_reducible exact Below.refl _ _) | (with_reducible assumption) | (with_reducible apply bd) | (with_reducible apply ba) | (with_reducible refine bp ?_ (by first | omega | (simp [pad_size]; done) | (simp [pad_size]; omega)) _ _) | (with_reducible refine bs ?_ (by first | omega | (simp [pad_size]; done) | (simp [pad_size]; omega)) _) | (with_reducible refine bt ?_ (by assumption))))⟩
set_option maxHeartbeats 400000 in
theorem same_point {a b : Nat} (ha : (FloatKind.f64.format.order a a == some Ordering.eq) = true) (hb : (FloatKind.f64.format.order b b == some Ordering.eq) = true) (w : World) : Calls Try.prog 16 #[.agg #[.float .f64 a, .float .f64 b], .complex .f64 a b] w fun e w' => e = .returned (.bool true) ∧ Below w.heap.size w w' := by
  have hpad := pads
  have hst := st_float
  go_enter Try.func16, Try.ntmps16
  go_wp2
  go_ret
  exact ⟨rfl, by (repeat (first | (with_reducible exact Below.refl _ _) | (with_reducible assumption) | (with_reducible apply bd) | (with_reducible apply ba) | (with_reducible refine bp ?_ (by first | omega | (simp [pad_size]; done) | (simp [pad_size]; omega)) _ _) | (with_reducible refine bs ?_ (by first | omega | (simp [pad_size]; done) | (simp [pad_size]; omega)) _) | (with_reducible refine bt ?_ (by assumption))))⟩
set_option maxRecDepth 100000 in
set_option maxHeartbeats 1000000 in
theorem point_any {x0 x1 x2 x3 y0 y1 y2 y3 : Int} (hx : Lim x0 x1 x2 x3) (hy : Lim y0 y1 y2 y3) (w : World) : Calls Try.prog 17 #[.agg #[.int .u64 x0, .int .u64 x1, .int .u64 x2, .int .u64 x3], .agg #[.int .u64 y0, .int .u64 y1, .int .u64 y2, .int .u64 y3]] w fun e w' => e = .returned (.complex .f64 (fI (val x0 x1 x2 x3)) (fI (val y0 y1 y2 y3))) ∧ Below w.heap.size w w' := by
  have hpad := pads
  have h1 := float_any hx
  have h2 := float_any hy
  generalize fI (val x0 x1 x2 x3) = a at *
  generalize fI (val y0 y1 y2 y3) = b at *
  go_enter Try.func17, Try.ntmps17
  go_upto_region 1 with fail
  go_region_held2 (fun W => W.cell? ⟨w.heap.size, 0, none⟩ = some (.int .u64 x0) ∧ W.cell? ⟨w.heap.size, 1, none⟩ = some (.int .u64 x1) ∧ W.cell? ⟨w.heap.size, 2, none⟩ = some (.int .u64 x2) ∧ W.cell? ⟨w.heap.size, 3, none⟩ = some (.int .u64 x3) ∧ W.cell? ⟨w.heap.size + 1, 0, none⟩ = some (.int .u64 y0) ∧ W.cell? ⟨w.heap.size + 1, 1, none⟩ = some (.int .u64 y1) ∧ W.cell? ⟨w.heap.size + 1, 2, none⟩ = some (.int .u64 y2) ∧ W.cell? ⟨w.heap.size + 1, 3, none⟩ = some (.int .u64 y3)) (go_simp) (first
    | (go_at_call 12; with_reducible refine (h1 _).mono ?_; rintro e w' ⟨rfl, hb⟩; obtain ⟨m1, g1, d1, hm1, rfl⟩ := pad_of hb; clear hb; (try simp [pad_size] at hm1); have st1_w := sz2 (n := w.heap.size) (m := m1) (by omega))
    | (go_at_call 12; with_reducible refine (h2 _).mono ?_; rintro e w' ⟨rfl, hb⟩; obtain ⟨m2, g2, d2, hm2, rfl⟩ := pad_of hb; clear hb; (try simp [pad_size] at hm2); have st2_w := sz2 (n := w.heap.size) (m := m2) (by omega)))
  all_goals go_wp2
  all_goals go_ret
  all_goals exact ⟨rfl, by (repeat (first | (with_reducible exact Below.refl _ _) | (with_reducible assumption) | (with_reducible apply bd) | (with_reducible apply ba) | (with_reducible refine bp ?_ (by first | omega | (simp [pad_size]; done) | (simp [pad_size]; omega)) _ _) | (with_reducible refine bs ?_ (by first | omega | (simp [pad_size]; done) | (simp [pad_size]; omega)) _) | (with_reducible refine bt ?_ (by assumption))))⟩
/-- How far apart, as the steps that it takes. -/
structure Ap (a b c d r : Nat) : Prop where
  ex : ∃ d1 d2 u v : Nat, Ieee.double.sub a c = some d1 ∧ Ieee.double.sub b d = some d2 ∧ Ieee.double.mul d1 d1 = some u ∧ Ieee.double.mul d2 d2 = some v ∧ Ieee.double.add u v = some r
set_option maxHeartbeats 1000000 in
theorem apart_any {a b c d r : Nat} (h : Ap a b c d r) (w : World) : Calls Try.prog 24 #[.complex .f64 a b, .complex .f64 c d] w fun e w' => e = .returned (.float .f64 r) ∧ w' = w := by
  obtain ⟨d1, d2, u, v, h1, h2, h3, h4, h5⟩ := h.ex
  have k1 : ∀ w : World, (binOp .sub 36 (.complex .f64 a b) (.complex .f64 c d)).run Try.prog w = .ok (.complex .f64 d1 d2) w := fun w => run_complex_sum w .sub (.inr rfl) _ _ _ _ _ _ _ _ (by
    show (floatBits .sub .f64 a c).bind (fun re => (floatBits .sub .f64 b d).bind fun im => some (re, im)) = _
    rw [show floatBits .sub .f64 a c = some d1 from h1, show floatBits .sub .f64 b d = some d2 from h2]; rfl)
  have k2 : ∀ w : World, (binOp .mul 26 (.float .f64 d1) (.float .f64 d1)).run Try.prog w = .ok (.float .f64 u) w := fun w => run_float_arith w _ _ _ _ _ _ h3
  have k3 : ∀ w : World, (binOp .mul 26 (.float .f64 d2) (.float .f64 d2)).run Try.prog w = .ok (.float .f64 v) w := fun w => run_float_arith w _ _ _ _ _ _ h4
  have k4 : ∀ w : World, (binOp .add 26 (.float .f64 u) (.float .f64 v)).run Try.prog w = .ok (.float .f64 r) w := fun w => run_float_arith w _ _ _ _ _ _ h5
  go_enter Try.func24, Try.ntmps24
  go_wp2
  go_ret
  exact ⟨rfl, rfl⟩
set_option maxHeartbeats 1000000 in
theorem apartR_any {a b c d r : Nat} (h : Ap a b c d r) (w : World) : Calls Try.prog 25 #[.agg #[.float .f64 a, .float .f64 b], .agg #[.float .f64 c, .float .f64 d]] w fun e w' => e = .returned (.float .f64 r) ∧ Below w.heap.size w w' := by
  have hpad := pads
  obtain ⟨d1, d2, u, v, h1, h2, h3, h4, h5⟩ := h.ex
  have k0 : ∀ w : World, (binOp .sub 26 (.float .f64 a) (.float .f64 c)).run Try.prog w = .ok (.float .f64 d1) w := fun w => run_float_arith w _ _ _ _ _ _ h1
  have k1 : ∀ w : World, (binOp .sub 26 (.float .f64 b) (.float .f64 d)).run Try.prog w = .ok (.float .f64 d2) w := fun w => run_float_arith w _ _ _ _ _ _ h2
  have k2 : ∀ w : World, (binOp .mul 26 (.float .f64 d1) (.float .f64 d1)).run Try.prog w = .ok (.float .f64 u) w := fun w => run_float_arith w _ _ _ _ _ _ h3
  have k3 : ∀ w : World, (binOp .mul 26 (.float .f64 d2) (.float .f64 d2)).run Try.prog w = .ok (.float .f64 v) w := fun w => run_float_arith w _ _ _ _ _ _ h4
  have k4 : ∀ w : World, (binOp .add 26 (.float .f64 u) (.float .f64 v)).run Try.prog w = .ok (.float .f64 r) w := fun w => run_float_arith w _ _ _ _ _ _ h5
  have hst := st_float
  go_enter Try.func25, Try.ntmps25
  go_upto_region 1 with fail
  go_region
  all_goals go_wp2
  all_goals go_ret
  all_goals exact ⟨rfl, by (repeat (first | (with_reducible exact Below.refl _ _) | (with_reducible assumption) | (with_reducible apply bd) | (with_reducible apply ba) | (with_reducible refine bp ?_ (by first | omega | (simp [pad_size]; done) | (simp [pad_size]; omega)) _ _) | (with_reducible refine bs ?_ (by first | omega | (simp [pad_size]; done) | (simp [pad_size]; omega)) _) | (with_reducible refine bt ?_ (by assumption))))⟩
end Go.Proofs.Ytpdokkhpeoeebaa

/- gauge.Sum of any points, Nearest of none; the law's turns. -/
namespace Go.Proofs.Ytpdokkhpeoeebaa
open Go.RowKit

def Ps (a : Nat) : Prop := Fin' a ∧ sgn a = false
def addF (a b : Nat) : Nat := (Ieee.double.add a b).getD 0
theorem addF_ok {a b : Nat} (ha : Ps a) (hb : Ps b) : Ieee.double.add a b = some (addF a b) ∧ Ps (addF a b) := by
  obtain ⟨d, h1, h2, h3⟩ := add_pos ha.1 hb.1 ha.2 hb.2
  unfold addF
  rw [h1]
  exact ⟨rfl, h2, h3⟩
def addP (s x : Nat × Nat) : Nat × Nat := (addF s.1 x.1, addF s.2 x.2)
def sumP (x : Nat × Nat) (l : List (Nat × Nat)) : Nat × Nat := l.foldl addP x
def PsP (x : Nat × Nat) : Prop := Ps x.1 ∧ Ps x.2
theorem addP_ps {s x : Nat × Nat} (h : PsP s) (k : PsP x) : PsP (addP s x) := ⟨(addF_ok h.1 k.1).2, (addF_ok h.2 k.2).2⟩
theorem sumP_ps {x : Nat × Nat} {l : List (Nat × Nat)} (h : PsP x) (k : ∀ y ∈ l, PsP y) : PsP (sumP x l) := by
  unfold sumP
  induction l generalizing x with
  | nil => exact h
  | cons y l ih => exact ih (addP_ps h (k y (by simp))) (fun z hz => k z (by simp [hz]))
theorem sumP_take {x : Nat × Nat} {l : List (Nat × Nat)} {q : Nat} {y : Nat × Nat} (h : l[q]? = some y) : sumP x (l.take (q + 1)) = addP (sumP x (l.take q)) y := by
  unfold sumP
  rw [List.take_add_one, h, List.foldl_append]
  rfl
theorem ps_eq {a : Nat} (h : Ps a) : (FloatKind.f64.format.order a a == some Ordering.eq) = true := order_self h.1

set_option maxRecDepth 100000 in
set_option maxHeartbeats 1000000 in
theorem sum_nil (a : Option Addr) (cap : Nat) (w : World) : Calls Try.prog 20 #[.slice a 0 cap] w fun e w' => e = .returned (.complex .f64 0 0) ∧ w' = w := by
  go_enter Try.func20, Try.ntmps20
  go_wp2
  go_ret
  exact ⟨rfl, rfl⟩
set_option maxRecDepth 100000 in
set_option maxHeartbeats 1000000 in
theorem sum_any (W : World) (blk off cap n : Nat) (x : Nat × Nat) (l : List (Nat × Nat)) (hn : Hid (n = l.length)) (hlen : n ≤ 1000000) (hcap : n + 1 ≤ cap) (hc2 : cap ≤ 9223372036854775807) (hc0 : W.cell? ⟨blk, off, none⟩ = some (.complex .f64 x.1 x.2)) (hc : ∀ i y, l[i]? = some y → W.cell? ⟨blk, off + 1 + i, none⟩ = some (.complex .f64 y.1 y.2)) (hx : PsP x) (hp : ∀ y ∈ l, PsP y) :
    Calls Try.prog 20 #[.slice (some ⟨blk, off, none⟩) (n + 1) cap] W fun e w' => e = .returned (.complex .f64 (sumP x l).1 (sumP x l).2) ∧ w' = W := by
  have hne : (((n + 1 : Nat) : Int) == 0) = false := by simp; omega
  have hne2 : (((n : Nat) : Int) + 1 == 0) = false := by simp; omega
  by_cases hc1 : cap = 1
  · have h0 : n = 0 := by omega
    subst h0 hc1
    have hl : l = [] := by have := hn.out; exact List.eq_nil_of_length_eq_zero this.symm
    subst hl
    obtain ⟨x1, x2⟩ := x
    go_enter Try.func20, Try.ntmps20
    go_wp2
    apply wp_loop_rounds 1
    simp only [Code.rounds]
    go_wp2
    go_ret
    exact ⟨rfl, rfl⟩
  have hs1 : (1 : Int) ≤ (n : Int) + 1 := by omega
  have hs2 : (n : Int) + 1 ≤ (cap : Int) := by omega
  have hs3 : 1 ≤ n + 1 := by omega
  have hs4 : (0 : Int) < (n : Int) + 1 := by omega
  have hs5 : n + 1 - 1 = n := by omega
  go_enter Try.func20, Try.ntmps20
  go_wp2
  go_loopw [3, 15] (fun s3 s15 wr => ∃ (q A B : Nat), q ≤ n ∧ s15 = .int .i64 (q : Int) ∧ s3 = .complex .f64 A B ∧ Hid ((A, B) = sumP x (l.take q)) ∧ wr = W) (fun _ s15 _ => n - (intOf s15).toNat)
  case atStart => exact ⟨0, x.1, x.2, by omega, rfl, rfl, rfl, rfl⟩
  case round =>
    obtain ⟨q, A, B, hq, rfl, rfl, hAB, rfl⟩ := hrel
    by_cases hlt : q < n
    · have hql : q < l.length := by have := hn.out; omega
      have hy := List.getElem?_eq_getElem hql
      have hmem := List.getElem_mem hql
      generalize l[q] = y at *
      have hcy := hc q y hy
      have hst := sumP_take (x := x) hy
      rw [← hAB.out] at hst
      have hps : PsP (A, B) := by rw [hAB.out]; exact sumP_ps hx (fun z hz => hp z (List.mem_of_mem_take hz))
      have hpy := hp y hmem
      have ha1 := (addF_ok hps.1 hpy.1).1
      have ha2 := (addF_ok hps.2 hpy.2).1
      have k1 : ∀ w : World, (binOp .add 36 (.complex .f64 A B) (.complex .f64 y.1 y.2)).run Try.prog w = .ok (.complex .f64 (addF A y.1) (addF B y.2)) w := fun w => run_complex_sum w .add (.inl rfl) _ _ _ _ _ _ _ _ (by
        show (floatBits .add .f64 A y.1).bind (fun re => (floatBits .add .f64 B y.2).bind fun im => some (re, im)) = _
        rw [show floatBits .add .f64 A y.1 = some (addF A y.1) from ha1, show floatBits .add .f64 B y.2 = some (addF B y.2) from ha2]; rfl)
      obtain ⟨y1, y2⟩ := y
      have hw5 : IntKind.i64.wrap ((q : Int) + 1) = (q : Int) + 1 := by rw [IntKind.wrap_i64]; omega
      have hst2 : Hid ((addF A y1, addF B y2) = sumP x (l.take (q + 1))) := hst.symm
      clear hc hc0 hps hpy ha1 ha2 hmem hst
      generalize addF A y1 = A' at *
      generalize addF B y2 = B' at *
      go_wp2
      go_roundw
      case rel => exact ⟨q + 1, A', B', by omega, by go_num, rfl, hst2, by first | rfl | trivial⟩
      case measure => (simp [intOf] <;> omega)
    · have hqn : q = n := by omega
      have e : (A, B) = sumP x l := by rw [hAB.out, hqn, hn.out, List.take_length]
      go_wp2
      go_ret
      refine ⟨?_, rfl⟩
      rw [← e]
      rfl
set_option maxRecDepth 100000 in
set_option maxHeartbeats 1000000 in
theorem nearest_nil (a : Option Addr) (cap c d : Nat) (w : World) : Calls Try.prog 26 #[.slice a 0 cap, .complex .f64 c d] w fun e w' => e = .returned (.int .i64 (-1)) ∧ w' = w := by
  go_enter Try.func26, Try.ntmps26
  go_wp2
  apply wp_loop_rounds 1
  simp only [Code.rounds]
  go_wp2
  go_ret
  exact ⟨rfl, rfl⟩
theorem ps_word {r : Nat} (h : r ≤ 9218868437227405312) : Ps r := by
  obtain ⟨h1, h2⟩ := low_fin h
  refine ⟨h1, ?_⟩
  unfold sgn
  rw [Nat.div_eq_of_lt (by omega)]; rfl
theorem turn_ex (w : World) : Calls Try.prog 21 #[.complex .f64 4607182418800017408 4611686018427387904, .int .i64 1] w fun e w' => e = .returned (.complex .f64 13835058055282163712 4607182418800017408) ∧ w' = w := turn_any _ _ _ w
theorem float_ex (w : World) : Calls Try.prog 12 #[.agg #[.int .u64 9007199254740993, .int .u64 0, .int .u64 0, .int .u64 0]] w fun e w' => e = .returned (.float .f64 4845873199050653696) ∧ Below w.heap.size w w' := by
  have h := float_any (x0 := 9007199254740993) (x1 := 0) (x2 := 0) (x3 := 0) (by unfold Lim; omega) w
  rw [val_of, show fI 9007199254740993 = 4845873199050653696 by decide +kernel] at h
  exact h
set_option maxRecDepth 100000 in
set_option maxHeartbeats 1000000 in
theorem says_turns : Says 11 #[] (.bool true) := by
  intro w
  have hpad := pads
  have h1 : (FloatKind.f64.format.order 4845873199050653696 4845873199050653696 == some Ordering.eq) = true := by decide +kernel
  have h2 : (FloatKind.f64.format.order 13835058055282163712 13835058055282163712 == some Ordering.eq) = true := by decide +kernel
  have h3 : (FloatKind.f64.format.order 4607182418800017408 4607182418800017408 == some Ordering.eq) = true := by decide +kernel
  have h4 : (FloatKind.f64.format.order 4611686018427387904 4611686018427387904 == some Ordering.eq) = true := by decide +kernel
  have hs : sumP (4607182418800017408, 0) [(0, 4611686018427387904)] = (4607182418800017408, 4611686018427387904) := by decide +kernel
  go_enter Try.func11, Try.ntmps11
  go_wp2_with (first
    | (go_at_call 12; refine (float_ex _).mono ?_; rintro e w' ⟨rfl, hb⟩; obtain ⟨m1, g1, d1, hm1, rfl⟩ := pad_of hb; clear hb; (try simp [pad_size] at hm1); have st1_w : w.heap.size ≤ m1 := (by omega))
    | (go_at_call 21; refine (turn_ex _).mono ?_; rintro e w' ⟨rfl, rfl⟩)
    | (go_at_call 26; refine (nearest_nil _ _ _ _ _).mono ?_; rintro e w' ⟨rfl, rfl⟩)
    | (go_at_call 20; refine (sum_any _ _ 0 2 1 (4607182418800017408, 0) [(0, 4611686018427387904)] rfl (by omega) (by omega) (by omega) (by go_simp) (by intro i y hy; match i, hy with | 0, hy => (simp at hy; subst hy; go_simp) | i + 1, hy => simp at hy) ⟨ps_word (by decide), ps_word (by decide)⟩ (by intro y hy; simp at hy; subst hy; exact ⟨ps_word (by decide), ps_word (by decide)⟩)).mono ?_; rintro e w' ⟨rfl, rfl⟩; rw [hs]))
  all_goals go_ret
  all_goals exact ⟨rfl, by (repeat (first | (with_reducible exact Below.refl _ _) | (with_reducible assumption) | (with_reducible apply bd) | (with_reducible apply ba) | (with_reducible refine bp ?_ (by first | omega | (simp [pad_size]; done) | (simp [pad_size]; omega)) _ _) | (with_reducible refine bs ?_ (by first | omega | (simp [pad_size]; done) | (simp [pad_size]; omega)) _) | (with_reducible refine bt ?_ (by assumption))))⟩
end Go.Proofs.Ytpdokkhpeoeebaa

/- Floats of numbers: finite, none below nothing. -/
namespace Go.Proofs.Ytpdokkhpeoeebaa
open Go.RowKit

theorem fI_fin {x0 x1 x2 x3 : Int} (hx : Lim x0 x1 x2 x3) : (fI (val x0 x1 x2 x3)) < 9218868437227405312 := fN_lt (by have := log_256 (n := (val x0 x1 x2 x3).toNat) (by have := val_hi hx; have := val_lo hx; omega); omega)
theorem fI_ps {x0 x1 x2 x3 : Int} (hx : Lim x0 x1 x2 x3) : Ps (fI (val x0 x1 x2 x3)) ∧ FinX (fI (val x0 x1 x2 x3)) := by
  have h := fI_fin hx
  refine ⟨ps_word (by omega), by omega, ?_⟩
  unfold rung; omega
theorem fI_eq {x0 x1 x2 x3 : Int} (hx : Lim x0 x1 x2 x3) : (FloatKind.f64.format.order (fI (val x0 x1 x2 x3)) (fI (val x0 x1 x2 x3)) == some Ordering.eq) = true := ps_eq (fI_ps hx).1
theorem fin_eq {a : Nat} (h : FinX a) : (FloatKind.f64.format.order a a == some Ordering.eq) = true := order_self h.fin
theorem tw_fin {a b : Nat} (ha : FinX a) (hb : FinX b) : ∀ q, FinX (tw q (a, b)).1 ∧ FinX (tw q (a, b)).2
  | 0 => ⟨ha, hb⟩
  | q + 1 => ⟨(tw_fin ha hb q).2.neg, (tw_fin ha hb q).1⟩
end Go.Proofs.Ytpdokkhpeoeebaa

/- Arguments as they come in: pairs of numbers; words. -/
namespace Go.Proofs.Ytpdokkhpeoeebaa
open Go.ChangeShapes Go.WideShapes Go.ChangeAt Go.RowKit
variable {H : Type} {enc : TypeId × Value → H} {w : World} {base : Nat} {spare : Nat → Bool} {held : Bool} {fuel : Nat} {cs : List Value} {x : DataW H × List MemPlace}

theorem Try.cellsTwo : Try.prog.cellsOf 48 = 8 := by kernel_rfl
theorem two_of_cells (h : DataW.trod enc Try.prog w base spare held fuel 48 cs = some x) : ∃ a0 a1 a2 a3 b0 b1 b2 b3 : Int, cs = [.int .u64 a0, .int .u64 a1, .int .u64 a2, .int .u64 a3, .int .u64 b0, .int .u64 b1, .int .u64 b2, .int .u64 b3] ∧ Lim a0 a1 a2 a3 ∧ Lim b0 b1 b2 b3 := by
  obtain ⟨xs, m, -, -, hl, hx, hi⟩ := DataW.trod_struct Try.underlying48 h
  rw [Try.cellsTwo] at hl
  have f0 : DataW.trod enc Try.prog w base spare held m 24 ((cs.drop 0).take (Try.prog.cellsOf 24)) = xs[0]? := hi 0 _ rfl
  have f1 : DataW.trod enc Try.prog w base spare held m 24 ((cs.drop 4).take (Try.prog.cellsOf 24)) = xs[1]? := hi 1 _ rfl
  rw [Try.cellsNum] at f0 f1
  match cs, hl with
  | [c0, c1, c2, c3, c4, c5, c6, c7], _ =>
    have hx2 : xs.length = 2 := hx
    obtain ⟨a0, a1, a2, a3, ea, hla⟩ := num_of_cells (f0.trans (List.getElem?_eq_getElem (by omega)))
    obtain ⟨b0, b1, b2, b3, eb, hlb⟩ := num_of_cells (f1.trans (List.getElem?_eq_getElem (by omega)))
    simp at ea eb
    obtain ⟨rfl, rfl, rfl, rfl⟩ := ea
    obtain ⟨rfl, rfl, rfl, rfl⟩ := eb
    exact ⟨a0, a1, a2, a3, b0, b1, b2, b3, rfl, hla, hlb⟩
theorem okWide_two {W : World} {r : Reach} {b : Nat} {v : Value} (h : Value.okWide Try.prog W r b 48 v) : ∃ cs, v = .agg cs := by
  unfold Value.okWide at h
  rw [Try.underlying48] at h
  obtain ⟨cs, e, -⟩ := h
  exact ⟨cs, e⟩
theorem two_in {W : World} {b : Nat} {r : Reach} {v : Value} (hv : Value.okWide Try.prog W r b 48 v) (h : ∃ fuel, DataW.trod enc Try.prog w base spare held fuel 48 v.cells.toList = some x) :
    ∃ a0 a1 a2 a3 b0 b1 b2 b3 : Int, v = .agg #[.int .u64 a0, .int .u64 a1, .int .u64 a2, .int .u64 a3, .int .u64 b0, .int .u64 b1, .int .u64 b2, .int .u64 b3] ∧ Lim a0 a1 a2 a3 ∧ Lim b0 b1 b2 b3 := by
  obtain ⟨cs, rfl⟩ := okWide_two hv
  obtain ⟨fuel, h⟩ := h
  obtain ⟨a0, a1, a2, a3, b0, b1, b2, b3, e, hl⟩ := two_of_cells h
  refine ⟨a0, a1, a2, a3, b0, b1, b2, b3, ?_, hl⟩
  cases cs
  simp [Value.cells] at e
  rw [e]
theorem u64_in {n : Int} (h : DataW.trod enc Try.prog w base spare held fuel 22 [.int .u64 n] = some x) : 0 ≤ n ∧ n < 18446744073709551616 := by
  obtain ⟨d, ed, -, wd⟩ := DataW.trod_int Try.underlying22 h
  simp at ed
  subst ed
  have := bounds_u64 wd
  omega
end Go.Proofs.Ytpdokkhpeoeebaa

/- How far apart: as far back; from itself not at all; turned both the same: plain. -/
namespace Go.Proofs.Ytpdokkhpeoeebaa
open Go.RowKit

theorem word_one {s t : Bool} {r q : Nat} (hr : r ≤ 2047 * 4503599627370496) (hq : q ≤ 2047 * 4503599627370496) (h : Ieee.double.word s r = Ieee.double.word t q) : r = q := by
  have h1 := (word_fin s hr).2.1
  have h2 := (word_fin t hq).2.1
  rw [h] at h1
  exact h1.symm.trans h2
/-- Two differences, as great as these, in either order. -/
def Df (p q : Nat × Nat) (r1 r2 : Nat) : Prop := (∃ s t, Ieee.double.sub p.1 q.1 = some (Ieee.double.word s r1) ∧ Ieee.double.sub p.2 q.2 = some (Ieee.double.word t r2)) ∨ (∃ s t, Ieee.double.sub p.1 q.1 = some (Ieee.double.word s r2) ∧ Ieee.double.sub p.2 q.2 = some (Ieee.double.word t r1))
theorem neg_word' {x y r : Nat} {t : Bool} (hx : FinX x) (hy : FinX y) (hr : r ≤ 2047 * 4503599627370496) (h : Ieee.double.sub x y = some (Ieee.double.word t r)) : ∃ s, Ieee.double.sub (neg x) (neg y) = some (Ieee.double.word s r) := by
  obtain ⟨q, hq, ⟨s1, e1⟩, -, ⟨s3, e3⟩⟩ := sub_fin hx hy
  rw [e1] at h
  have := word_one hq hr (Option.some.inj h)
  subst this
  exact ⟨s3, e3⟩
theorem df_tw {a b c d r1 r2 : Nat} (ha : FinX a) (hb : FinX b) (hc : FinX c) (hd : FinX d) (h1 : r1 ≤ 2047 * 4503599627370496) (h2 : r2 ≤ 2047 * 4503599627370496) (h : Df (a, b) (c, d) r1 r2) : ∀ q, Df (tw q (a, b)) (tw q (c, d)) r1 r2
  | 0 => h
  | q + 1 => by
    have f := tw_fin ha hb q
    have g := tw_fin hc hd q
    rcases df_tw ha hb hc hd h1 h2 h q with ⟨s, t, e1, e2⟩ | ⟨s, t, e1, e2⟩
    · obtain ⟨s', e⟩ := neg_word' f.2 g.2 h2 e2
      exact .inr ⟨s', s, e, e1⟩
    · obtain ⟨s', e⟩ := neg_word' f.2 g.2 h1 e2
      exact .inl ⟨s', s, e, e1⟩
theorem ap_all {a b c d : Nat} (ha : FinX a) (hb : FinX b) (hc : FinX c) (hd : FinX d) : ∃ r, Ps r ∧ Ap a b c d r ∧ Ap c d a b r ∧ ∀ q, Ap (tw q (a, b)).1 (tw q (a, b)).2 (tw q (c, d)).1 (tw q (c, d)).2 r := by
  obtain ⟨r1, h1, ⟨s1, e1⟩, ⟨s2, e2⟩, -⟩ := sub_fin ha hc
  obtain ⟨r2, h2, ⟨t1, g1⟩, ⟨t2, g2⟩, -⟩ := sub_fin hb hd
  obtain ⟨u, hu, su, mu⟩ := sq_word h1
  obtain ⟨v, hv, sv, mv⟩ := sq_word h2
  obtain ⟨r, er, fr, sr⟩ := add_pos hu hv su sv
  refine ⟨r, ⟨fr, sr⟩, ⟨_, _, u, v, e1, g1, mu _, mv _, er⟩, ⟨_, _, u, v, e2, g2, mu _, mv _, er⟩, fun q => ?_⟩
  rcases df_tw ha hb hc hd h1 h2 (.inl ⟨s1, t1, e1, g1⟩) q with ⟨s, t, k1, k2⟩ | ⟨s, t, k1, k2⟩
  · exact ⟨_, _, u, v, k1, k2, mu _, mv _, er⟩
  · exact ⟨_, _, v, u, k1, k2, mv _, mu _, by rw [add_swap]; exact er⟩
theorem ap_self {a b : Nat} (ha : FinX a) (hb : FinX b) : Ap a b a b 0 := ⟨0, 0, 0, 0, sub_self ha, sub_self hb, by decide +kernel, by decide +kernel, by decide +kernel⟩
end Go.Proofs.Ytpdokkhpeoeebaa

/- Lists of pairs of numbers as arguments; the law's points. -/
namespace Go.Proofs.Ytpdokkhpeoeebaa
open Go.ChangeShapes Go.WideShapes Go.ChangeAt Go.RowKit

structure Tw8 where
  a0 : Int
  a1 : Int
  a2 : Int
  a3 : Int
  b0 : Int
  b1 : Int
  b2 : Int
  b3 : Int
def t8V (t : Tw8) : List Value := [.int .u64 t.a0, .int .u64 t.a1, .int .u64 t.a2, .int .u64 t.a3, .int .u64 t.b0, .int .u64 t.b1, .int .u64 t.b2, .int .u64 t.b3]
def T8ok (t : Tw8) : Prop := Lim t.a0 t.a1 t.a2 t.a3 ∧ Lim t.b0 t.b1 t.b2 t.b3
/-- A pair's point. -/
def ptO (t : Tw8) : Nat × Nat := (fI (val t.a0 t.a1 t.a2 t.a3), fI (val t.b0 t.b1 t.b2 t.b3))
structure TwosIn (w : World) (a : Option Addr) (len : Nat) (l : List Tw8) : Prop where
  ln : l.length = len
  ok : ∀ y ∈ l, T8ok y
  cell : len = 0 ∨ ∃ blk off, a = some ⟨blk, off, none⟩ ∧ blk < w.heap.size ∧ ∀ i y, l[i]? = some y → ∀ j v, (t8V y)[j]? = some v → w.cell? ⟨blk, off + i * 8 + j, none⟩ = some v
theorem twos_open {H : Type} {enc : TypeId × Value → H} {w : World} {base : Nat} {spare : Nat → Bool} {held : Bool} {fuel : Nat} {x : DataW H × List MemPlace} {a : Option Addr} {len cap : Nat} (h : DataW.trod enc Try.prog w base spare held fuel 39 [.slice a len cap] = some x) : ∃ l, TwosIn w a len l := by
  obtain ⟨l, h1, h2, h3⟩ := @open_list H enc w base spare held fuel x Tw8 ⟨⟨0, 0, 0, 0, 0, 0, 0, 0⟩⟩ 39 48 8 (by omega) Try.underlying39 Try.cellsTwo t8V T8ok (fun m cs x h => by
    obtain ⟨a0, a1, a2, a3, b0, b1, b2, b3, e, ha, hb⟩ := two_of_cells h
    exact ⟨⟨a0, a1, a2, a3, b0, b1, b2, b3⟩, e, rfl, ha, hb⟩) a len cap h
  exact ⟨l, h1, h2, h3⟩

def cxV (l : List (Nat × Nat)) : List Value := l.map fun x => .complex .f64 x.1 x.2
def ptV (l : List (Nat × Nat)) : List Value := l.flatMap fun x => [.float .f64 x.1, .float .f64 x.2]
theorem cxV_len (l : List (Nat × Nat)) : (cxV l).length = l.length := by simp [cxV]
theorem cxV_app (l k : List (Nat × Nat)) : cxV (l ++ k) = cxV l ++ cxV k := by simp [cxV]
theorem ptV_app (l k : List (Nat × Nat)) : ptV (l ++ k) = ptV l ++ ptV k := by simp [ptV]
theorem cx_info : (Try.prog.info? 36).map (fun i => (i.zero, i.size, i.bytes)) = some (some (.complex .f64 0 0), 1, 16) := by kernel_rfl
theorem pt_info : (Try.prog.info? 35).map (fun i => (i.zero, i.size, i.bytes)) = some (some (.agg #[.float .f64 0, .float .f64 0]), 2, 16) := by kernel_rfl
/-- Both lists of points, as they are made. -/
structure PJ (w0 W : World) (p q : Value) (L M : List (Nat × Nat)) : Prop where
  rp : W.ownsRow w0.heap.size 36 1 p L.length (cxV L)
  rq : W.ownsRow w0.heap.size 35 2 q M.length (ptV M)
  below : Below w0.heap.size w0 W
section
variable {w0 W : World} {p q : Value} {L M : List (Nat × Nat)}
theorem PJ.le (h : PJ w0 W p q L M) : w0.heap.size ≤ W.heap.size := h.below.size
theorem PJ.call {W' : World} (h : PJ w0 W p q L M) (hb : Below W.heap.size W W') : PJ w0 W' p q L M := ⟨none_row h.rp (grown_none hb), none_row h.rq (grown_none hb), bt h.below hb⟩
theorem PJ.appP (h : PJ w0 W p q L M) {x : Nat × Nat} (hl : L.length ≤ 1000) {o : Oper} {a : Act} {K : Act → World → Prop} {Q : Exit → Act → World → Prop} (s y : Operand)
    (ho : o.op = .call { callee := .builtin .append, args := #[s, y], argTypes := #[40, 40] }) (hs : a.eval s = p) {g : Nat} (hx : a.eval y = .slice (some ⟨g, 0, none⟩) 1 1) (hc : W.cell? ⟨g, 0, none⟩ = some (.complex .f64 x.1 x.2))
    (k : ∀ p' w', PJ w0 w' p' q (L ++ [x]) M → K (a.put o.dst p') w') : o.wp Try.prog a W K Q := by
  obtain ⟨i0, hi, hz0, hz1, hz2⟩ := cx_info |> info_parts
  refine wp_append_own_at W s y 40 ho w0.heap.size 36 i0 _ 1 16 Try.underlying40 hi hz0 hz1 hz2 rfl (by decide) p L.length (cxV L) hs h.rp ⟨g, 0, none⟩ 1 1 [.complex .f64 x.1 x.2] hx rfl (fun j u hj => by rw [add_cell, Nat.zero_add]; match j, hj with | 0, hj => (simp at hj; subst hj; exact hc) | j + 1, hj => simp at hj) (by simp [Value.oneCell']) (by unfold maxLen; omega) (by omega) h.le ?_
  intro u' w' hown hg _ hat
  refine k u' w' ⟨by rw [List.length_append, cxV_app]; exact hown, h.rq.kept hg (rows_apart h.rq h.rp (by decide)), h.below.grown hg h.le (fun k hk => (h.rp.lt k hk).1)⟩
theorem PJ.appQ (h : PJ w0 W p q L M) {x : Nat × Nat} (hl : M.length ≤ 1000) {o : Oper} {a : Act} {K : Act → World → Prop} {Q : Exit → Act → World → Prop} (s y : Operand)
    (ho : o.op = .call { callee := .builtin .append, args := #[s, y], argTypes := #[41, 41] }) (hs : a.eval s = q) {g : Nat} (hx : a.eval y = .slice (some ⟨g, 0, none⟩) 1 1) (hc : W.cell? ⟨g, 0, none⟩ = some (.float .f64 x.1)) (hc1 : W.cell? ⟨g, 1, none⟩ = some (.float .f64 x.2))
    (k : ∀ q' w', PJ w0 w' p q' L (M ++ [x]) → K (a.put o.dst q') w') : o.wp Try.prog a W K Q := by
  obtain ⟨i0, hi, hz0, hz1, hz2⟩ := pt_info |> info_parts
  refine wp_append_own_at W s y 41 ho w0.heap.size 35 i0 _ 2 16 Try.underlying41 hi hz0 hz1 hz2 rfl (by decide) q M.length (ptV M) hs h.rq ⟨g, 0, none⟩ 1 1 [.float .f64 x.1, .float .f64 x.2] hx rfl (fun j u hj => by rw [add_cell, Nat.zero_add]; match j, hj with | 0, hj => (simp at hj; subst hj; exact hc) | 1, hj => (simp at hj; subst hj; exact hc1) | j + 2, hj => simp at hj) (by simp [Value.oneCell']) (by unfold maxLen; omega) (by omega) h.le ?_
  intro u' w' hown hg _ hat
  refine k u' w' ⟨h.rp.kept hg (rows_apart h.rp h.rq (by decide)), by rw [List.length_append, ptV_app]; exact hown, h.below.grown hg h.le (fun k hk => (h.rq.lt k hk).1)⟩
end
end Go.Proofs.Ytpdokkhpeoeebaa

/- The law's points: the walk. -/
namespace Go.Proofs.Ytpdokkhpeoeebaa
open Go.RowKit

set_option maxRecDepth 100000 in
set_option maxHeartbeats 8000000 in
theorem points_any {w0 : World} {a : Option Addr} {len cap : Nat} {l : List Tw8} (h : TwosIn w0 a len l) (hlen : len ≤ 50) :
    Calls Try.prog 18 #[.slice a len cap] w0 fun e w' => ∃ p q, e = .returned (.tuple #[p, q]) ∧ PJ w0 w' p q (l.map ptO) (l.map ptO) := by
  have hpad := pads
  have hst := st_float
  obtain ⟨hln, hok, hcell⟩ := h
  go_enter Try.func18, Try.ntmps18
  go_wp2
  go_loopw [4, 5, 6] (fun p q i wr => ∃ k : Nat, k ≤ len ∧ i = .int .i64 (k : Int) ∧ PJ w0 wr p q ((l.take k).map ptO) ((l.take k).map ptO)) (fun _ _ i _ => len - (intOf i).toNat)
  case atStart => exact ⟨0, by omega, rfl, ⟨⟨rfl, .inl ⟨rfl, rfl⟩⟩, ⟨rfl, .inl ⟨rfl, rfl⟩⟩, Below.refl _ _⟩⟩
  case round =>
    obtain ⟨k, hk, rfl, hJ⟩ := hrel
    by_cases hlt : k < len
    · have hkl : k < l.length := by omega
      have hy := List.getElem?_eq_getElem hkl
      have hyok := hok _ (List.getElem_mem hkl)
      generalize l[k] = y at *
      rcases hcell with h0 | ⟨blk, off, rfl, hblk, hc⟩
      · omega
      have hcy := hc k y hy
      clear hc
      have htake : l.take (k + 1) = l.take k ++ [y] := by rw [List.take_add_one, hy]; rfl
      have hnext : Hid ((l.take (k + 1)).map ptO = (l.take k).map ptO ++ [ptO y]) := by show _ = _; rw [htake]; simp
      have hL : ((l.take k).map ptO).length ≤ 1000 := by simp; omega
      generalize (l.take k).map ptO = L at *
      obtain ⟨a0, a1, a2, a3, b0, b1, b2, b3⟩ := y
      obtain ⟨ha, hb⟩ := hyok
      have hP := point_any ha hb
      have hA := floatR_any ha
      have hB := floatR_any hb
      have hpt : ptO ⟨a0, a1, a2, a3, b0, b1, b2, b3⟩ = (fI (val a0 a1 a2 a3), fI (val b0 b1 b2 b3)) := rfl
      rw [hpt] at hnext
      simp only at ha hb hP hA hB
      generalize fI (val a0 a1 a2 a3) = fa at *
      generalize fI (val b0 b1 b2 b3) = fb at *
      have hK : Hid (∀ X, Below w0.heap.size w0 X → (X.cell? ⟨blk, off + k * 8, none⟩ = some (.int .u64 a0) ∧ X.cell? ⟨blk, off + k * 8 + 1, none⟩ = some (.int .u64 a1) ∧ X.cell? ⟨blk, off + k * 8 + 2, none⟩ = some (.int .u64 a2) ∧ X.cell? ⟨blk, off + k * 8 + 3, none⟩ = some (.int .u64 a3) ∧ X.cell? ⟨blk, off + k * 8 + 4, none⟩ = some (.int .u64 b0) ∧ X.cell? ⟨blk, off + k * 8 + 5, none⟩ = some (.int .u64 b1) ∧ X.cell? ⟨blk, off + k * 8 + 6, none⟩ = some (.int .u64 b2) ∧ X.cell? ⟨blk, off + k * 8 + 7, none⟩ = some (.int .u64 b3))) := by
        intro X hX
        have cc : ∀ j v, (t8V ⟨a0, a1, a2, a3, b0, b1, b2, b3⟩)[j]? = some v → X.cell? ⟨blk, off + k * 8 + j, none⟩ = some v := fun j v hv => (hX.cell (p := ⟨blk, off + k * 8 + j, none⟩) hblk).trans (hcy j v hv)
        exact ⟨cc 0 _ rfl, cc 1 _ rfl, cc 2 _ rfl, cc 3 _ rfl, cc 4 _ rfl, cc 5 _ rfl, cc 6 _ rfl, cc 7 _ rfl⟩
      have hk0 := hK.out _ hJ.below
      obtain ⟨pa, pc, rfl⟩ := row_slice hJ.rp
      obtain ⟨qa, qc, rfl⟩ := row_slice hJ.rq
      have hdl : decide ((k : Int) < (len : Int)) = true := by simpa using hlt
      have hwk : IntKind.i64.wrap ((k : Int) + 1) = (k : Int) + 1 := by rw [IntKind.wrap_i64]; omega
      clear hcy ha hb hpt hok hy htake hln
      go_upto_region 6 with fail
      go_region_held2 (fun X => X.cell? ⟨blk, off + k * 8, none⟩ = some (.int .u64 a0) ∧ X.cell? ⟨blk, off + k * 8 + 1, none⟩ = some (.int .u64 a1) ∧ X.cell? ⟨blk, off + k * 8 + 2, none⟩ = some (.int .u64 a2) ∧ X.cell? ⟨blk, off + k * 8 + 3, none⟩ = some (.int .u64 a3) ∧ X.cell? ⟨blk, off + k * 8 + 4, none⟩ = some (.int .u64 b0) ∧ X.cell? ⟨blk, off + k * 8 + 5, none⟩ = some (.int .u64 b1) ∧ X.cell? ⟨blk, off + k * 8 + 6, none⟩ = some (.int .u64 b2) ∧ X.cell? ⟨blk, off + k * 8 + 7, none⟩ = some (.int .u64 b3)) (first | (with_reducible exact hK.out _ (PJ.below (by assumption))) | exact hK.out _ (bt hJ.below (by (repeat (first | (with_reducible exact Below.refl _ _) | (with_reducible assumption) | (with_reducible apply bd) | (with_reducible apply ba) | (with_reducible refine bp ?_ (by first | omega | (simp [pad_size]; done) | (simp [pad_size]; omega)) _ _) | (with_reducible refine bs ?_ (by first | omega | (simp [pad_size]; done) | (simp [pad_size]; omega)) _) | (with_reducible refine bt ?_ (by assumption))))))) (first
        | (go_at_call 17; with_reducible refine (hP _).mono ?_; rintro e w' ⟨rfl, hb⟩; obtain ⟨m1, g1, d1, hm1, rfl⟩ := pad_of hb; clear hb; (try simp [pad_size] at hm1))
        | (rw [if_pos (by rfl)]; refine PJ.appP (x := (fa, fb)) (hJ.call (by (repeat (first | (with_reducible exact Below.refl _ _) | (with_reducible assumption) | (with_reducible apply bd) | (with_reducible apply ba) | (with_reducible refine bp ?_ (by first | omega | (simp [pad_size]; done) | (simp [pad_size]; omega)) _ _) | (with_reducible refine bs ?_ (by first | omega | (simp [pad_size]; done) | (simp [pad_size]; omega)) _) | (with_reducible refine bt ?_ (by assumption)))))) hL _ _ rfl rfl (g := m1) rfl (((cells_of_block (al_at (by simp [pad_size]))).1 0).trans rfl) ?_; intro p1 w1 hJ1))
      obtain ⟨pa1, pc1, rfl⟩ := row_slice hJ1.rp
      have hJ2 := hJ1
      go_upto_region 7 with fail
      go_region_held2 (fun X => X.cell? ⟨blk, off + k * 8, none⟩ = some (.int .u64 a0) ∧ X.cell? ⟨blk, off + k * 8 + 1, none⟩ = some (.int .u64 a1) ∧ X.cell? ⟨blk, off + k * 8 + 2, none⟩ = some (.int .u64 a2) ∧ X.cell? ⟨blk, off + k * 8 + 3, none⟩ = some (.int .u64 a3) ∧ X.cell? ⟨blk, off + k * 8 + 4, none⟩ = some (.int .u64 b0) ∧ X.cell? ⟨blk, off + k * 8 + 5, none⟩ = some (.int .u64 b1) ∧ X.cell? ⟨blk, off + k * 8 + 6, none⟩ = some (.int .u64 b2) ∧ X.cell? ⟨blk, off + k * 8 + 7, none⟩ = some (.int .u64 b3)) (first | (with_reducible exact hK.out _ (PJ.below (by assumption))) | exact hK.out _ (bt hJ2.below (by (repeat (first | (with_reducible exact Below.refl _ _) | (with_reducible assumption) | (with_reducible apply bd) | (with_reducible apply ba) | (with_reducible refine bp ?_ (by first | omega | (simp [pad_size]; done) | (simp [pad_size]; omega)) _ _) | (with_reducible refine bs ?_ (by first | omega | (simp [pad_size]; done) | (simp [pad_size]; omega)) _) | (with_reducible refine bt ?_ (by assumption))))))) (first
        | (go_at_call 13; with_reducible refine (hA _).mono ?_; rintro e w' ⟨rfl, hb⟩; obtain ⟨m2, g2, d2, hm2, rfl⟩ := pad_of hb; clear hb; (try simp [pad_size] at hm2))
        | (go_at_call 13; with_reducible refine (hB _).mono ?_; rintro e w' ⟨rfl, hb⟩; obtain ⟨m3, g3, d3, hm3, rfl⟩ := pad_of hb; clear hb; (try simp [pad_size] at hm3))
        | (rw [if_pos (by rfl)]; refine PJ.appQ (x := (fa, fb)) (hJ2.call (by (repeat (first | (with_reducible exact Below.refl _ _) | (with_reducible assumption) | (with_reducible apply bd) | (with_reducible apply ba) | (with_reducible refine bp ?_ (by first | omega | (simp [pad_size]; done) | (simp [pad_size]; omega)) _ _) | (with_reducible refine bs ?_ (by first | omega | (simp [pad_size]; done) | (simp [pad_size]; omega)) _) | (with_reducible refine bt ?_ (by assumption)))))) hL _ _ rfl rfl (g := m3) rfl (((cells_of_block (al_at (by simp [pad_size]))).1 0).trans rfl) (((cells_of_block (al_at (by simp [pad_size]))).1 1).trans rfl) ?_; intro p2 w2 hJ3)
        | (rw [if_pos (by rfl)]; refine PJ.appQ (x := (fa, fb)) (hJ2.call (by (repeat (first | (with_reducible exact Below.refl _ _) | (with_reducible assumption) | (with_reducible apply bd) | (with_reducible apply ba) | (with_reducible refine bp ?_ (by first | omega | (simp [pad_size]; done) | (simp [pad_size]; omega)) _ _) | (with_reducible refine bs ?_ (by first | omega | (simp [pad_size]; done) | (simp [pad_size]; omega)) _) | (with_reducible refine bt ?_ (by assumption)))))) hL _ _ rfl rfl (g := m2) rfl (((cells_of_block (al_at (by simp [pad_size]))).1 0).trans rfl) (((cells_of_block (al_at (by simp [pad_size]))).1 1).trans rfl) ?_; intro p2 w2 hJ3))
      all_goals go_wp2
      all_goals go_roundw
      case rel => exact ⟨k + 1, by omega, by go_num, by rw [hnext.out]; have e : (L ++ [(fa, fb)]).length = L.length + 1 := (by simp); rw [e] at hJ3; exact hJ3⟩
      case measure => (simp [intOf] <;> omega)
    · have hkn : k = len := by omega
      have e : l.take k = l := by rw [hkn, ← hln, List.take_length]
      rw [e] at hJ
      have hdl : decide ((k : Int) < (len : Int)) = false := by simpa using hlt
      go_wp2
      refine bodyPost_ret (v := .tuple #[_, _]) (by simp only [results, Try.results18]; go_simp) rfl ⟨_, _, rfl, hJ⟩
end Go.Proofs.Ytpdokkhpeoeebaa

/- The first of the points that are nearest: plain facts. -/
namespace Go.Proofs.Ytpdokkhpeoeebaa
open Go.RowKit

/-- Of the first keys the place of the first of the least; of none -1. -/
def NF (q : Nat → Int) (n : Nat) (k : Int) : Prop := (n = 0 ∧ k = -1) ∨ ∃ i : Nat, k = (i : Int) ∧ i < n ∧ (∀ j, j < n → q i ≤ q j) ∧ ∀ j, j < i → q i < q j
theorem NF.start (q : Nat → Int) : NF q 0 (-1) := .inl ⟨rfl, rfl⟩
theorem NF.first {q : Nat → Int} {k : Int} (h : NF q 0 k) : NF q 1 0 := .inr ⟨0, rfl, by omega, fun j hj => (by have e : j = 0 := (by omega); subst e; exact Int.le_refl _), fun j hj => (by omega)⟩
theorem NF.less {q : Nat → Int} {n i : Nat} (h : NF q n (i : Int)) (hq : q n < q i) : NF q (n + 1) (n : Int) := by
  rcases h with ⟨-, e⟩ | ⟨i', e, hi, h1, h2⟩
  · omega
  · obtain rfl : i = i' := by omega
    refine .inr ⟨n, rfl, by omega, fun j hj => ?_, fun j hj => ?_⟩
    · by_cases e : j = n
      · subst e; exact Int.le_refl _
      · have := h1 j (by omega); omega
    · have := h1 j hj; omega
theorem NF.more {q : Nat → Int} {n i : Nat} (h : NF q n (i : Int)) (hq : q i ≤ q n) : NF q (n + 1) (i : Int) := by
  rcases h with ⟨-, e⟩ | ⟨i', e, hi, h1, h2⟩
  · omega
  · obtain rfl : i = i' := by omega
    refine .inr ⟨i, rfl, by omega, fun j hj => ?_, h2⟩
    by_cases e : j = n
    · subst e; exact hq
    · exact h1 j (by omega)
theorem NF.at {q : Nat → Int} {n : Nat} {k : Int} (h : NF q n k) (hn : 0 < n) : ∃ i : Nat, k = (i : Int) ∧ i < n ∧ (∀ j, j < n → q i ≤ q j) ∧ ∀ j, j < i → q i < q j := by
  rcases h with ⟨e, -⟩ | h
  · omega
  · exact h
theorem NF.one {q : Nat → Int} {n : Nat} {k k' : Int} (h : NF q n k) (h' : NF q n k') : k = k' := by
  rcases h with ⟨rfl, rfl⟩ | ⟨i, rfl, hi, h1, h2⟩
  · rcases h' with ⟨-, rfl⟩ | ⟨i', rfl, hi', -⟩
    · rfl
    · omega
  · rcases h' with ⟨rfl, -⟩ | ⟨i', rfl, hi', g1, g2⟩
    · omega
    · rcases Nat.lt_trichotomy i i' with h | h | h
      · have := g2 i h; have := h1 i' hi'; omega
      · rw [h]
      · have := h2 i' h; have := g1 i hi; omega
/-- The same from behind: of the keys from a place on. -/
def NB (q : Nat → Int) (n lo : Nat) (k : Int) : Prop := (lo = n ∧ k = -1) ∨ ∃ i : Nat, k = (i : Int) ∧ lo ≤ i ∧ i < n ∧ (∀ j, lo ≤ j → j < n → q i ≤ q j) ∧ ∀ j, lo ≤ j → j < i → q i < q j
theorem NB.start (q : Nat → Int) (n : Nat) : NB q n n (-1) := .inl ⟨rfl, rfl⟩
theorem NB.first {q : Nat → Int} {n lo : Nat} (h : lo + 1 = n) : NB q n lo (lo : Int) := .inr ⟨lo, rfl, Nat.le_refl _, by omega, fun j h1 h2 => (by have e : j = lo := (by omega); subst e; exact Int.le_refl _), fun j h1 h2 => (by omega)⟩
theorem NB.less {q : Nat → Int} {n lo i : Nat} (h : NB q n (lo + 1) (i : Int)) (hq : q lo ≤ q i) : NB q n lo (lo : Int) := by
  rcases h with ⟨-, e⟩ | ⟨i', e, h0, hi, h1, h2⟩
  · omega
  · obtain rfl : i = i' := by omega
    refine .inr ⟨lo, rfl, Nat.le_refl _, by omega, fun j h3 h4 => ?_, fun j h3 h4 => by omega⟩
    by_cases e : j = lo
    · subst e; exact Int.le_refl _
    · have := h1 j (by omega) h4; omega
theorem NB.more {q : Nat → Int} {n lo i : Nat} (h : NB q n (lo + 1) (i : Int)) (hq : q i < q lo) : NB q n lo (i : Int) := by
  rcases h with ⟨-, e⟩ | ⟨i', e, h0, hi, h1, h2⟩
  · omega
  · obtain rfl : i = i' := by omega
    refine .inr ⟨i, rfl, by omega, hi, fun j h3 h4 => ?_, fun j h3 h4 => ?_⟩
    · by_cases e : j = lo
      · subst e; omega
      · exact h1 j (by omega) h4
    · by_cases e : j = lo
      · subst e; exact hq
      · exact h2 j (by omega) h4
theorem NB.all {q : Nat → Int} {n : Nat} {k : Int} (h : NB q n 0 k) : NF q n k := by
  rcases h with ⟨rfl, rfl⟩ | ⟨i, rfl, -, hi, h1, h2⟩
  · exact .inl ⟨rfl, rfl⟩
  · exact .inr ⟨i, rfl, hi, fun j hj => h1 j (by omega) hj, fun j hj => h2 j (by omega) hj⟩
theorem ps_lt {x y : Nat} (hx : Ps x) (hy : Ps y) : (FloatKind.f64.format.order x y == some Ordering.lt) = decide (key x < key y) := by
  rw [show FloatKind.f64.format.order x y = Ieee.double.order x y from rfl, order_key hx.1 hy.1, cmp_nat_int]
  by_cases h1 : key x < key y
  · rw [if_pos h1, decide_eq_true h1]; rfl
  · rw [if_neg h1, decide_eq_false h1]
    by_cases h2 : key x = key y
    · rw [if_pos h2]; rfl
    · rw [if_neg h2]; rfl
theorem ps_le {x y : Nat} (hx : Ps x) (hy : Ps y) : (FloatKind.f64.format.order x y == some Ordering.lt || FloatKind.f64.format.order x y == some Ordering.eq) = decide (key x ≤ key y) := by
  rw [show FloatKind.f64.format.order x y = Ieee.double.order x y from rfl, order_key hx.1 hy.1, cmp_nat_int]
  by_cases h1 : key x < key y
  · rw [if_pos h1, decide_eq_true (show key x ≤ key y by omega)]; rfl
  · rw [if_neg h1]
    by_cases h2 : key x = key y
    · rw [if_pos h2, decide_eq_true (show key x ≤ key y by omega)]; rfl
    · rw [if_neg h2, decide_eq_false (show ¬ key x ≤ key y by omega)]; rfl
theorem ps_eqk {x y : Nat} (hx : Ps x) (hy : Ps y) : (FloatKind.f64.format.order x y == some Ordering.eq) = decide (key x = key y) := by
  rw [show FloatKind.f64.format.order x y = Ieee.double.order x y from rfl, order_key hx.1 hy.1, cmp_nat_int]
  by_cases h1 : key x < key y
  · rw [if_pos h1, decide_eq_false (show ¬ key x = key y by omega)]; rfl
  · rw [if_neg h1]
    by_cases h2 : key x = key y
    · rw [if_pos h2, decide_eq_true h2]; rfl
    · rw [if_neg h2, decide_eq_false h2]; rfl
end Go.Proofs.Ytpdokkhpeoeebaa

/- gauge.Nearest, the reference's Nearest. -/
namespace Go.Proofs.Ytpdokkhpeoeebaa
open Go.RowKit

theorem cx_at {W : World} {base : Nat} {p : Value} {L : List (Nat × Nat)} (h : W.ownsRow base 36 1 p L.length (cxV L)) {i : Nat} (hi : i < L.length) : ∃ g cap, p = .slice (some ⟨g, 0, none⟩) L.length cap ∧ g < W.heap.size ∧ W.cell? ⟨g, i, none⟩ = some (.complex .f64 L[i].1 L[i].2) := by
  rcases h.2 with ⟨e, h0⟩ | ⟨g, cap, cur, e, hb, hg, r⟩
  · omega
  · subst e
    refine ⟨g, cap, rfl, (Array.getElem?_eq_some_iff.1 hg).1, ?_⟩
    rw [World.ownsRow.cellAt h i (by omega)]
    simp [cxV, List.getElem?_eq_getElem hi]
set_option maxHeartbeats 4000000 in
theorem nearest_any {W : World} {base : Nat} {p : Value} {L : List (Nat × Nat)} {c d : Nat} {r : Nat → Nat} (hrow : W.ownsRow base 36 1 p L.length (cxV L)) (hl : L.length ≤ 100) (hr : ∀ i (h : i < L.length), Ps (r i) ∧ Ap L[i].1 L[i].2 c d (r i)) :
    Calls Try.prog 26 #[p, .complex .f64 c d] W fun e w' => ∃ k, e = .returned (.int .i64 k) ∧ NF (fun i => key (r i)) L.length k ∧ Below W.heap.size W w' := by
  obtain ⟨ap, cp, rfl⟩ := row_slice hrow
  go_enter Try.func26, Try.ntmps26
  go_wp2
  go_loopw [5, 6, 12] (fun pv lv iv X => ∃ (j : Nat) (k : Int) (m : Nat), j ≤ L.length ∧ iv = .int .i64 (j : Int) ∧ pv = .int .i64 k ∧ lv = .float .f64 m ∧ NF (fun i => key (r i)) j k ∧ (0 < j → m = r k.toNat) ∧ Below W.heap.size W X) (fun _ _ iv _ => L.length - (intOf iv).toNat)
  case atStart => exact ⟨0, -1, 0, by omega, rfl, rfl, rfl, NF.start _, by omega, Below.refl _ _⟩
  case round =>
    obtain ⟨j, k, m, hj, rfl, rfl, rfl, hN, hm, hX⟩ := hrel
    by_cases hlt : j < L.length
    · have hlt' : (j : Int) < (L.length : Int) := by omega
      obtain ⟨g, cap, ev, hg, c0⟩ := cx_at hrow hlt
      simp at ev
      obtain ⟨rfl, rfl⟩ := ev
      have c1 := (hX.cell (p := ⟨g, j, none⟩) hg).trans c0
      obtain ⟨hps, hap⟩ := hr j hlt
      have hA := fun Y => apart_any hap Y
      clear c0 hap
      generalize L[j] = x at *
      obtain ⟨x1, x2⟩ := x
      simp only at c1 hA
      by_cases h0 : j = 0
      · subst h0
        obtain rfl : k = -1 := by rcases hN with ⟨-, e⟩ | ⟨i, e, h, -⟩; exact e; omega
        have hN1 := hN.first
        go_wp2_with (go_at_call 24; refine (hA _).mono ?_; rintro e w1 ⟨rfl, hw⟩; obtain rfl := hw.symm)
        all_goals go_roundw
        case rel => exact ⟨1, 0, r 0, by omega, by go_num, rfl, rfl, hN1, fun _ => rfl, hX⟩
        case measure => (simp [intOf] <;> omega)
      · obtain ⟨i, rfl, hi, -, -⟩ := hN.at (by omega)
        have hmi : m = r i := by have := hm (by omega); simpa using this
        subst hmi
        have hi0 : ¬ (i : Int) < 0 := by omega
        have ho := ps_lt hps (hr i (by omega)).1
        by_cases hq : key (r j) < key (r i)
        · rw [decide_eq_true hq] at ho
          have hN1 := hN.less hq
          clear hq hm hN
          go_wp2_with (go_at_call 24; refine (hA _).mono ?_; rintro e w1 ⟨rfl, hw⟩; obtain rfl := hw.symm)
          all_goals go_roundw
          case rel => exact ⟨j + 1, j, r j, by omega, by go_num, rfl, rfl, hN1, fun _ => by simp, hX⟩
          case measure => (simp [intOf] <;> omega)
        · rw [decide_eq_false hq] at ho
          have hN1 := hN.more (show key (r i) ≤ key (r j) by omega)
          clear hq hm hN
          go_wp2_with (go_at_call 24; refine (hA _).mono ?_; rintro e w1 ⟨rfl, hw⟩; obtain rfl := hw.symm)
          all_goals go_roundw
          case rel => exact ⟨j + 1, i, r i, by omega, by go_num, rfl, rfl, hN1, fun _ => by simp, hX⟩
          case measure => (simp [intOf] <;> omega)
    · have hjn : j = L.length := by omega
      subst hjn
      go_wp2
      go_ret
      exact ⟨k, rfl, hN, hX⟩
theorem pt_at {W : World} {base : Nat} {p : Value} {L : List (Nat × Nat)} (h : W.ownsRow base 35 2 p L.length (ptV L)) {i : Nat} (hi : i < L.length) : ∃ g cap, p = .slice (some ⟨g, 0, none⟩) L.length cap ∧ g < W.heap.size ∧ W.cell? ⟨g, i * 2, none⟩ = some (.float .f64 L[i].1) ∧ W.cell? ⟨g, i * 2 + 1, none⟩ = some (.float .f64 L[i].2) := by
  have key : ∀ (L : List (Nat × Nat)) (i : Nat) (x : Nat × Nat), L[i]? = some x → (ptV L)[i * 2]? = some (.float .f64 x.1) ∧ (ptV L)[i * 2 + 1]? = some (.float .f64 x.2) := by
    intro L
    induction L with
    | nil => intro i x h; simp at h
    | cons y L ih =>
      intro i x h
      cases i with
      | zero => simp at h; subst h; exact ⟨rfl, rfl⟩
      | succ i =>
        simp at h
        have e1 : (i + 1) * 2 = i * 2 + 1 + 1 := by omega
        rw [e1]
        exact ih i x h
  rcases h.2 with ⟨e, h0⟩ | ⟨g, cap, cur, e, hb, hg, r⟩
  · omega
  · subst e
    obtain ⟨q1, q2⟩ := key L i _ (List.getElem?_eq_getElem hi)
    refine ⟨g, cap, rfl, (Array.getElem?_eq_some_iff.1 hg).1, ?_, ?_⟩
    · rw [World.ownsRow.cellAt h (i * 2) (by omega)]; exact q1
    · rw [World.ownsRow.cellAt h (i * 2 + 1) (by omega)]; exact q2
set_option maxRecDepth 100000 in
set_option maxHeartbeats 4000000 in
theorem nearR_any {W : World} {base : Nat} {p : Value} {L : List (Nat × Nat)} {c d : Nat} {r : Nat → Nat} (hrow : W.ownsRow base 35 2 p L.length (ptV L)) (hl : L.length ≤ 100) (hr : ∀ i (h : i < L.length), Ps (r i) ∧ Ap L[i].1 L[i].2 c d (r i)) :
    Calls Try.prog 27 #[p, .agg #[.float .f64 c, .float .f64 d]] W fun e w' => ∃ k, e = .returned (.int .i64 k) ∧ NF (fun i => key (r i)) L.length k ∧ Below W.heap.size W w' := by
  have hst := st_float
  obtain ⟨ap, cp, rfl⟩ := row_slice hrow
  have hwn : IntKind.i64.wrap ((L.length : Int) - 1) = (L.length : Int) - 1 := by rw [IntKind.wrap_i64]; omega
  have hW0 : Below W.heap.size W (W.alloc (.cells #[.float .f64 c, .float .f64 d] 35)) := ba (Below.refl _ _) _
  have hK : Hid (∀ X, Below (W.alloc (.cells #[.float .f64 c, .float .f64 d] 35)).heap.size (W.alloc (.cells #[.float .f64 c, .float .f64 d] 35)) X → X.cell? ⟨W.heap.size, 0, none⟩ = some (.float .f64 c) ∧ X.cell? ⟨W.heap.size, 1, none⟩ = some (.float .f64 d)) := fun X hX => by
    have q := (cells_of_block ((hX.block W.heap.size (by simp)).trans (al_at rfl))).1
    exact ⟨q 0, q 1⟩
  go_enter Try.func27, Try.ntmps27
  go_wp2
  generalize W.alloc (.cells #[.float .f64 c, .float .f64 d] 35) = W0 at hW0 hK ⊢
  go_loopw [5, 6] (fun bv iv X => ∃ (j : Nat) (k i : Int), j ≤ L.length ∧ iv = .int .i64 i ∧ i = (j : Int) - 1 ∧ bv = .int .i64 k ∧ NB (fun i => key (r i)) L.length j k ∧ Below W0.heap.size W0 X) (fun _ iv _ => (intOf iv + 1).toNat)
  case atStart => exact ⟨L.length, -1, _, Nat.le_refl _, rfl, rfl, rfl, NB.start _ _, Below.refl _ _⟩
  case round =>
    obtain ⟨j, k, i, hj, rfl, hi, rfl, hN, hX⟩ := hrel
    cases j with
    | zero =>
      obtain rfl : i = -1 := by omega
      have hN1 := hN.all
      clear hi hN
      go_wp2
      go_ret
      exact ⟨k, rfl, hN1, bt hW0 hX⟩
    | succ lo =>
      obtain rfl : i = (lo : Int) := by omega
      clear hi
      have hlo0 : (0 : Int) ≤ (lo : Int) := by omega
      have hlol : (lo : Int) < (L.length : Int) := by omega
      have hwl : IntKind.i64.wrap ((lo : Int) - 1) = (lo : Int) - 1 := by rw [IntKind.wrap_i64]; omega
      have hlt : lo < L.length := by omega
      by_cases h0 : lo + 1 = L.length
      · obtain rfl : k = -1 := by rcases hN with ⟨-, e⟩ | ⟨i, e, h, h2, -⟩; exact e; omega
        have hN1 := NB.first (q := fun i => key (r i)) h0
        go_upto_region 5 with fail
        go_quiet (fail)
        go_wp2
        all_goals go_roundw
        case rel => exact ⟨lo, lo, _, by omega, rfl, by omega, rfl, hN1, bt hX (by first | exact below_drewN (Below.refl _ _) _ | exact below_drewN _)⟩
        case measure => (simp [intOf] <;> omega)
      · obtain ⟨i, rfl, hi0, hin, -, -⟩ : ∃ i : Nat, k = (i : Int) ∧ lo + 1 ≤ i ∧ i < L.length ∧ (∀ j, lo + 1 ≤ j → j < L.length → key (r i) ≤ key (r j)) ∧ ∀ j, lo + 1 ≤ j → j < i → key (r i) < key (r j) := by
          rcases hN with ⟨e, -⟩ | h
          · exact absurd e h0
          · exact h
        obtain ⟨g, cap, ev, hg, c0, c1⟩ := pt_at hrow hlt
        simp at ev
        obtain ⟨rfl, rfl⟩ := ev
        obtain ⟨g2, cap, ev, -, d0, d1⟩ := pt_at hrow hin
        simp at ev
        obtain ⟨rfl, rfl⟩ := ev
        obtain ⟨hps, hap⟩ := hr lo hlt
        obtain ⟨hps2, hap2⟩ := hr i hin
        have ho := ps_le hps hps2
        have hA := fun Y => apartR_any hap Y
        have hA2 := fun Y => apartR_any hap2 Y
        clear hap hap2
        have hK5 : Hid (∀ Z, Below wr.heap.size wr Z → Z.cell? ⟨g, lo * 2, none⟩ = some (.float .f64 L[lo].1) ∧ Z.cell? ⟨g, lo * 2 + 1, none⟩ = some (.float .f64 L[lo].2) ∧ Z.cell? ⟨g, i * 2, none⟩ = some (.float .f64 L[i].1) ∧ Z.cell? ⟨g, i * 2 + 1, none⟩ = some (.float .f64 L[i].2) ∧ Z.cell? ⟨W.heap.size, 0, none⟩ = some (.float .f64 c) ∧ Z.cell? ⟨W.heap.size, 1, none⟩ = some (.float .f64 d)) := fun Z hZ => by
          have hXZ : Below W.heap.size W Z := bt hW0 (bt hX hZ)
          have q := hK.out Z (bt hX hZ)
          exact ⟨(hXZ.cell (p := ⟨g, lo * 2, none⟩) hg).trans c0, (hXZ.cell (p := ⟨g, lo * 2 + 1, none⟩) hg).trans c1, (hXZ.cell (p := ⟨g, i * 2, none⟩) hg).trans d0, (hXZ.cell (p := ⟨g, i * 2 + 1, none⟩) hg).trans d1, q.1, q.2⟩
        have hi0' : ¬ (i : Int) < 0 := by omega
        have hi1' : (0 : Int) ≤ (i : Int) := by omega
        have hin' : (i : Int) < (L.length : Int) := by omega
        have k5 := hK5.out _ (Below.refl _ _)
        have hLo := @NB.less (fun i => key (r i)) L.length lo i hN
        have hMo := @NB.more (fun i => key (r i)) L.length lo i hN
        clear c0 c1 d0 d1 hN hps hps2 hr hrow hK
        generalize L[lo] = x at *
        generalize L[i] = y at *
        obtain ⟨x1, x2⟩ := x
        obtain ⟨y1, y2⟩ := y
        simp only at hK5 k5 hA hA2
        generalize hS : decide (key (r lo) ≤ key (r i)) = S at *
        go_upto_region 5 with fail
        go_region_held2 (fun Z => Z.cell? ⟨g, lo * 2, none⟩ = some (.float .f64 x1) ∧ Z.cell? ⟨g, lo * 2 + 1, none⟩ = some (.float .f64 x2) ∧ Z.cell? ⟨g, i * 2, none⟩ = some (.float .f64 y1) ∧ Z.cell? ⟨g, i * 2 + 1, none⟩ = some (.float .f64 y2) ∧ Z.cell? ⟨W.heap.size, 0, none⟩ = some (.float .f64 c) ∧ Z.cell? ⟨W.heap.size, 1, none⟩ = some (.float .f64 d)) (first | (with_reducible assumption) | exact hK5.out _ (by (repeat (first | (with_reducible exact Below.refl _ _) | (with_reducible assumption) | (with_reducible apply bd) | (with_reducible apply ba) | (with_reducible refine bp ?_ (by first | omega | (simp [pad_size]; done) | (simp [pad_size]; omega)) _ _) | (with_reducible refine bs ?_ (by first | omega | (simp [pad_size]; done) | (simp [pad_size]; omega)) _) | (with_reducible refine bt ?_ (by assumption)))))) (first
          | (go_at_call 25; with_reducible refine (hA _).mono ?_; rintro e w1 ⟨rfl, hb1⟩)
          | (go_at_call 25; with_reducible refine (hA2 _).mono ?_; rintro e w2 ⟨rfl, hb2⟩))
        have hB2 : Below wr.heap.size wr w2 := (by first | exact bt hb1 hb2 | exact bt (bt (bd (Below.refl _ _)) hb1) hb2)
        clear hb1 hb2 hK5 k5 hA hA2
        cases S
        · have hMo' := hMo (by have := of_decide_eq_false hS; omega)
          go_wp2
          all_goals go_roundw
          case rel => exact ⟨lo, i, _, by omega, rfl, by omega, rfl, hMo', bt hX hB2⟩
          case measure => (simp [intOf] <;> omega)
        · have hLo' := hLo (of_decide_eq_true hS)
          go_wp2
          all_goals go_roundw
          case rel => exact ⟨lo, lo, _, by omega, rfl, by omega, rfl, hLo', bt hX hB2⟩
          case measure => (simp [intOf] <;> omega)
end Go.Proofs.Ytpdokkhpeoeebaa
