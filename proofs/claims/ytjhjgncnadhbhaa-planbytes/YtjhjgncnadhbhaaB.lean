
/- Walks of num.plus, minus, Of: what each call gives, as whole numbers. -/
import Derived.Test.YtjhjgncnadhbhaaRows
import Derived.Test.YtjhjgncnadhbhaaA
import Derived.WalkKit
import Derived.WalkSpells
import Derived.WalkLawsBesides
import Derived.BigRegion
import Derived.Test.YtjhjgncnadhbhaaP
set_option linter.unusedSimpArgs false
set_option linter.unusedVariables false
set_option maxRecDepth 20000
namespace Go.Proofs.Ytjhjgncnadhbhaa
open Go.RowKit

set_option maxRecDepth 20000 in
/-- Two numbers held against each other as a whole. -/
theorem eq_numD (dd : Nat) (x0 x1 x2 x3 y0 y1 y2 y3 : Int) (w : World) : (Op.equalIn (dd + 1 + 1) 64 (.agg #[.int .u64 x0, .int .u64 x1, .int .u64 x2, .int .u64 x3]) (.agg #[.int .u64 y0, .int .u64 y1, .int .u64 y2, .int .u64 y3])).run Try.prog w = .ok (eq4 x0 x1 x2 x3 y0 y1 y2 y3) w := by
  have hp : ∀ (c : Array Value) (i : Nat) v w, c[i]? = some v → (part 28 c i).run Try.prog w = .ok v w := by
    intro c i v w h
    have : (part 28 c i).run Try.prog w = (match c[i]? with | some v => (pure v : Sem Value) | none => stuck "part: no such cell").run Try.prog w := rfl
    rw [this, h]; rfl
  have he : ∀ (a b : Int) w, (Op.equalIn (dd + 1) 28 (.int .u64 a) (.int .u64 b)).run Try.prog w = .ok (a == b) w := fun a b w => run_equalIn_int w dd 28 .u64 .u64 a b Try.underlying28
  have p0 := fun (a b c d : Value) w => hp #[a, b, c, d] 0 a w rfl
  have p1 := fun (a b c d : Value) w => hp #[a, b, c, d] 1 b w rfl
  have p2 := fun (a b c d : Value) w => hp #[a, b, c, d] 2 c w rfl
  have p3 := fun (a b c d : Value) w => hp #[a, b, c, d] 3 d w rfl
  rw [Op.equalIn]
  simp only [Sem.run_bind, run_underlying Try.underlying64, Result.andThen_ok]
  rw [show (sizeOf 28).run Try.prog w = .ok 1 w from rfl]
  simp only [Result.andThen_ok]
  simp [Std.Legacy.Range.forIn_eq_forIn_range', List.range', p0, p1, p2, p3, he, eq4]
  by_cases h0 : x0 = y0 <;> by_cases h1 : x1 = y1 <;> by_cases h2 : x2 = y2 <;> by_cases h3 : x3 = y3 <;> simp [h0, h1, h2, h3]

theorem eq_num (x0 x1 x2 x3 y0 y1 y2 y3 : Int) (w : World) : (Op.equalIn 10000 64 (.agg #[.int .u64 x0, .int .u64 x1, .int .u64 x2, .int .u64 x3]) (.agg #[.int .u64 y0, .int .u64 y1, .int .u64 y2, .int .u64 y3])).run Try.prog w = .ok (eq4 x0 x1 x2 x3 y0 y1 y2 y3) w := eq_numD 9998 x0 x1 x2 x3 y0 y1 y2 y3 w

theorem add64_ex (x y c : Int) (hx : 0 ≤ x ∧ x < 18446744073709551616) (hy : 0 ≤ y ∧ y < 18446744073709551616) (hc0 : 0 ≤ c) (hc : c ≤ 1) :
    ∃ s d : Int, (0 ≤ s ∧ s < 18446744073709551616) ∧ 0 ≤ d ∧ d ≤ 1 ∧ Hid (x + y + c = s + d * 18446744073709551616) ∧
      ∀ w, (callFunc 108 #[.int .u64 x, .int .u64 y, .int .u64 c]).run Try.prog w = .ok (.value (.tuple #[.int .u64 s, .int .u64 d])) w := by
  refine ⟨(x + y + c) % 18446744073709551616, (x + y + c) / 18446744073709551616, by omega, by omega, by omega, show _ = _ by omega, fun w => ?_⟩
  rw [run_callFunc_extern Try.func108 (by kernel_rfl) (by kernel_rfl) (by kernel_rfl) (e := add64Entry) (by rfl)]
  rw [run_add64 x y c hx.1 hy.1 hc0 hc]
  rfl

def sub64Entry : Array Value → Sem Value := fun args => do
  let (x, y, b) ← Extern.MathBitsCarry.three "Sub64" args
  pure (Extern.MathBitsCarry.pair ((x + Extern.MathBitsCarry.m64 - y - b) % Extern.MathBitsCarry.m64) (if x < y + b then 1 else 0))

theorem run_sub64 {P : Program} (x y : Nat) (k : Nat) (hk : k ≤ 1) (w : World) :
    (sub64Entry #[.int .u64 (x : Int), .int .u64 (y : Int), .int .u64 (k : Int)]).run P w =
      .ok (.tuple #[.int .u64 (Int.ofNat ((x + Extern.MathBitsCarry.m64 - y - k) % Extern.MathBitsCarry.m64)), .int .u64 (Int.ofNat (if x < y + k then 1 else 0))]) w := by
  have : k = 0 ∨ k = 1 := by omega
  rcases this with rfl | rfl <;> rfl

theorem sub64_ex (x y c : Int) (hx : 0 ≤ x ∧ x < 18446744073709551616) (hy : 0 ≤ y ∧ y < 18446744073709551616) (hc0 : 0 ≤ c) (hc : c ≤ 1) :
    ∃ s d : Int, (0 ≤ s ∧ s < 18446744073709551616) ∧ 0 ≤ d ∧ d ≤ 1 ∧ Hid (x - y - c = s - d * 18446744073709551616) ∧
      ∀ w, (callFunc 113 #[.int .u64 x, .int .u64 y, .int .u64 c]).run Try.prog w = .ok (.value (.tuple #[.int .u64 s, .int .u64 d])) w := by
  obtain ⟨X, rfl⟩ := Int.eq_ofNat_of_zero_le hx.1
  obtain ⟨Y, rfl⟩ := Int.eq_ofNat_of_zero_le hy.1
  obtain ⟨k, rfl⟩ := Int.eq_ofNat_of_zero_le hc0
  have hm : Extern.MathBitsCarry.m64 = 18446744073709551616 := rfl
  refine ⟨Int.ofNat ((X + Extern.MathBitsCarry.m64 - Y - k) % Extern.MathBitsCarry.m64), Int.ofNat (if X < Y + k then 1 else 0), ?_, ?_, ?_, ?_, fun w => ?_⟩
  · rw [hm]; constructor <;> simp only [Int.ofNat_eq_natCast] <;> omega
  · split <;> simp
  · split <;> simp
  · show _ = _
    rw [hm]; simp only [Int.ofNat_eq_natCast]
    split <;> omega
  · rw [run_callFunc_extern Try.func113 (by kernel_rfl) (by kernel_rfl) (by kernel_rfl) (e := sub64Entry) (by rfl)]
    rw [run_sub64 X Y k (by omega)]
    rfl

set_option maxHeartbeats 400000 in
theorem of_any (n : Int) (w : World) :
    Calls Try.prog 65 #[.int .u64 n] w fun e w' => e = .returned (.agg #[.int .u64 n, .int .u64 0, .int .u64 0, .int .u64 0]) ∧ Below w.heap.size w w' := by
  go_enter Try.func65, Try.ntmps65
  go_wp2
  refine bodyPost_ret (v := .agg #[.int .u64 n, .int .u64 0, .int .u64 0, .int .u64 0]) (by simp [results, Try.results65, go_sem]) rfl ⟨rfl, ?_⟩
  exact (Below.refl _ _).alloc (Nat.le_refl _) _

set_option maxHeartbeats 1000000 in
theorem plus_any (x0 x1 x2 x3 y0 y1 y2 y3 : Int) (hx : Lim x0 x1 x2 x3) (hy : Lim y0 y1 y2 y3) (w : World) :
    Calls Try.prog 99 #[.agg #[.int .u64 x0, .int .u64 x1, .int .u64 x2, .int .u64 x3], .agg #[.int .u64 y0, .int .u64 y1, .int .u64 y2, .int .u64 y3]] w fun e w' =>
      ∃ z0 z1 z2 z3 c : Int, e = .returned (.tuple #[.agg #[.int .u64 z0, .int .u64 z1, .int .u64 z2, .int .u64 z3], .int .u64 c]) ∧ Lim z0 z1 z2 z3 ∧ 0 ≤ c ∧ c ≤ 1 ∧
        Hid (val x0 x1 x2 x3 + val y0 y1 y2 y3 = val z0 z1 z2 z3 + c * 115792089237316195423570985008687907853269984665640564039457584007913129639936) ∧ Below w.heap.size w w' := by
  obtain ⟨z0, c0, b0, l0, u0, e0, k0⟩ := add64_ex x0 y0 0 hx.1 hy.1 (by omega) (by omega)
  obtain ⟨z1, c1, b1, l1, u1, e1, k1⟩ := add64_ex x1 y1 c0 hx.2.1 hy.2.1 l0 u0
  obtain ⟨z2, c2, b2, l2, u2, e2, k2⟩ := add64_ex x2 y2 c1 hx.2.2.1 hy.2.2.1 l1 u1
  obtain ⟨z3, c3, b3, l3, u3, e3, k3⟩ := add64_ex x3 y3 c2 hx.2.2.2 hy.2.2.2 l2 u2
  go_enter Try.func99, Try.ntmps99
  go_wp2
  apply wp_loop_rounds 5
  simp only [Code.rounds]
  go_wp2
  go_region
  go_wp2
  go_region
  go_wp2
  go_region
  go_wp2
  go_region
  go_wp2
  refine bodyPost_ret (v := .tuple #[.agg #[.int .u64 z0, .int .u64 z1, .int .u64 z2, .int .u64 z3], .int .u64 c3]) (by simp [results, Try.results99, go_sem]) rfl ⟨z0, z1, z2, z3, c3, rfl, ⟨b0, b1, b2, b3⟩, l3, u3, ?_, ?_⟩
  · have := e0.out; have := e1.out; have := e2.out; have := e3.out
    unfold Hid val; omega
  · (repeat (first | (with_reducible exact Below.refl _ _) | (with_reducible assumption) | (with_reducible apply bd) | (with_reducible apply ba) | (with_reducible refine bp ?_ (by first | omega | (simp [pad_size]; done) | (simp [pad_size]; omega)) _ _) | (with_reducible refine bs ?_ (by first | omega | (simp [pad_size]; done) | (simp [pad_size]; omega)) _) | (with_reducible refine bt ?_ (by assumption))))
set_option maxHeartbeats 1000000 in
theorem minus_any (x0 x1 x2 x3 y0 y1 y2 y3 : Int) (hx : Lim x0 x1 x2 x3) (hy : Lim y0 y1 y2 y3) (w : World) :
    Calls Try.prog 106 #[.agg #[.int .u64 x0, .int .u64 x1, .int .u64 x2, .int .u64 x3], .agg #[.int .u64 y0, .int .u64 y1, .int .u64 y2, .int .u64 y3]] w fun e w' =>
      ∃ z0 z1 z2 z3 c : Int, e = .returned (.tuple #[.agg #[.int .u64 z0, .int .u64 z1, .int .u64 z2, .int .u64 z3], .int .u64 c]) ∧ Lim z0 z1 z2 z3 ∧ 0 ≤ c ∧ c ≤ 1 ∧
        Hid (val x0 x1 x2 x3 - val y0 y1 y2 y3 = val z0 z1 z2 z3 - c * 115792089237316195423570985008687907853269984665640564039457584007913129639936) ∧ Below w.heap.size w w' := by
  obtain ⟨z0, c0, b0, l0, u0, e0, k0⟩ := sub64_ex x0 y0 0 hx.1 hy.1 (by omega) (by omega)
  obtain ⟨z1, c1, b1, l1, u1, e1, k1⟩ := sub64_ex x1 y1 c0 hx.2.1 hy.2.1 l0 u0
  obtain ⟨z2, c2, b2, l2, u2, e2, k2⟩ := sub64_ex x2 y2 c1 hx.2.2.1 hy.2.2.1 l1 u1
  obtain ⟨z3, c3, b3, l3, u3, e3, k3⟩ := sub64_ex x3 y3 c2 hx.2.2.2 hy.2.2.2 l2 u2
  go_enter Try.func106, Try.ntmps106
  go_wp2
  apply wp_loop_rounds 5
  simp only [Code.rounds]
  go_wp2
  go_region
  go_wp2
  go_region
  go_wp2
  go_region
  go_wp2
  go_region
  go_wp2
  refine bodyPost_ret (v := .tuple #[.agg #[.int .u64 z0, .int .u64 z1, .int .u64 z2, .int .u64 z3], .int .u64 c3]) (by simp [results, Try.results106, go_sem]) rfl ⟨z0, z1, z2, z3, c3, rfl, ⟨b0, b1, b2, b3⟩, l3, u3, ?_, ?_⟩
  · have := e0.out; have := e1.out; have := e2.out; have := e3.out
    unfold Hid val; omega
  · (repeat (first | (with_reducible exact Below.refl _ _) | (with_reducible assumption) | (with_reducible apply bd) | (with_reducible apply ba) | (with_reducible refine bp ?_ (by first | omega | (simp [pad_size]; done) | (simp [pad_size]; omega)) _ _) | (with_reducible refine bs ?_ (by first | omega | (simp [pad_size]; done) | (simp [pad_size]; omega)) _) | (with_reducible refine bt ?_ (by assumption))))

set_option maxHeartbeats 1000000 in
theorem add_any (x0 x1 x2 x3 y0 y1 y2 y3 : Int) (hx : Lim x0 x1 x2 x3) (hy : Lim y0 y1 y2 y3) (w : World) :
    Calls Try.prog 88 #[.agg #[.int .u64 x0, .int .u64 x1, .int .u64 x2, .int .u64 x3], .agg #[.int .u64 y0, .int .u64 y1, .int .u64 y2, .int .u64 y3]] w fun e w' =>
      ∃ z0 z1 z2 z3 c : Int, e = .returned (.tuple #[.agg #[.int .u64 z0, .int .u64 z1, .int .u64 z2, .int .u64 z3], .int .i64 c]) ∧ Lim z0 z1 z2 z3 ∧ 
        AddS (val x0 x1 x2 x3) (val y0 y1 y2 y3) (val z0 z1 z2 z3) c ∧ Below w.heap.size w w' := by
  have hpad := pads
  go_enter Try.func88, Try.ntmps88
  go_wp2_with (go_at_call 99; refine (plus_any _ _ _ _ _ _ _ _ hx hy _).mono ?_; rintro e w1 ⟨z0, z1, z2, z3, c, rfl, hz, hc0, hc1, he, hb⟩; obtain ⟨m1, g1, d1, hm1, rfl⟩ := pad_of hb; clear hb; (try simp [pad_size] at hm1); have st1_w := sz3 (n := w.heap.size) (m := m1) (by omega); rcases (show c = 0 ∨ c = 1 by omega) with rfl | rfl)
  · refine bodyPost_ret (v := .tuple #[.agg #[.int .u64 z0, .int .u64 z1, .int .u64 z2, .int .u64 z3], .int .i64 0]) (by simp only [results, Try.results88]; go_simp) rfl ⟨z0, z1, z2, z3, 0, rfl, hz, .inl ⟨?_, rfl, ?_⟩, ?_⟩
    · have := val_hi hz; have := he.out; omega
    · have := he.out; omega
    · (repeat (first | (with_reducible exact Below.refl _ _) | (with_reducible assumption) | (with_reducible apply bd) | (with_reducible apply ba) | (with_reducible refine bp ?_ (by first | omega | (simp [pad_size]; done) | (simp [pad_size]; omega)) _ _) | (with_reducible refine bs ?_ (by first | omega | (simp [pad_size]; done) | (simp [pad_size]; omega)) _) | (with_reducible refine bt ?_ (by assumption))))
  · refine bodyPost_ret (v := .tuple #[.agg #[.int .u64 0, .int .u64 0, .int .u64 0, .int .u64 0], .int .i64 2]) (by simp only [results, Try.results88]; go_simp) rfl ⟨0, 0, 0, 0, 2, rfl, lim_zero, .inr ⟨?_, rfl, val0⟩, ?_⟩
    · have := val_lo hz; have := he.out; omega
    · (repeat (first | (with_reducible exact Below.refl _ _) | (with_reducible assumption) | (with_reducible apply bd) | (with_reducible apply ba) | (with_reducible refine bp ?_ (by first | omega | (simp [pad_size]; done) | (simp [pad_size]; omega)) _ _) | (with_reducible refine bs ?_ (by first | omega | (simp [pad_size]; done) | (simp [pad_size]; omega)) _) | (with_reducible refine bt ?_ (by assumption))))
set_option maxHeartbeats 1000000 in
theorem sub_any (x0 x1 x2 x3 y0 y1 y2 y3 : Int) (hx : Lim x0 x1 x2 x3) (hy : Lim y0 y1 y2 y3) (w : World) :
    Calls Try.prog 92 #[.agg #[.int .u64 x0, .int .u64 x1, .int .u64 x2, .int .u64 x3], .agg #[.int .u64 y0, .int .u64 y1, .int .u64 y2, .int .u64 y3]] w fun e w' =>
      ∃ z0 z1 z2 z3 c : Int, e = .returned (.tuple #[.agg #[.int .u64 z0, .int .u64 z1, .int .u64 z2, .int .u64 z3], .int .i64 c]) ∧ Lim z0 z1 z2 z3 ∧ 
        SubS (val x0 x1 x2 x3) (val y0 y1 y2 y3) (val z0 z1 z2 z3) c ∧ Below w.heap.size w w' := by
  have hpad := pads
  go_enter Try.func92, Try.ntmps92
  go_wp2_with (go_at_call 106; refine (minus_any _ _ _ _ _ _ _ _ hx hy _).mono ?_; rintro e w1 ⟨z0, z1, z2, z3, c, rfl, hz, hc0, hc1, he, hb⟩; obtain ⟨m1, g1, d1, hm1, rfl⟩ := pad_of hb; clear hb; (try simp [pad_size] at hm1); have st1_w := sz3 (n := w.heap.size) (m := m1) (by omega); rcases (show c = 0 ∨ c = 1 by omega) with rfl | rfl)
  · refine bodyPost_ret (v := .tuple #[.agg #[.int .u64 z0, .int .u64 z1, .int .u64 z2, .int .u64 z3], .int .i64 0]) (by simp only [results, Try.results92]; go_simp) rfl ⟨z0, z1, z2, z3, 0, rfl, hz, .inl ⟨?_, rfl, ?_⟩, ?_⟩
    · have := val_lo hz; have := he.out; omega
    · have := he.out; omega
    · (repeat (first | (with_reducible exact Below.refl _ _) | (with_reducible assumption) | (with_reducible apply bd) | (with_reducible apply ba) | (with_reducible refine bp ?_ (by first | omega | (simp [pad_size]; done) | (simp [pad_size]; omega)) _ _) | (with_reducible refine bs ?_ (by first | omega | (simp [pad_size]; done) | (simp [pad_size]; omega)) _) | (with_reducible refine bt ?_ (by assumption))))
  · refine bodyPost_ret (v := .tuple #[.agg #[.int .u64 0, .int .u64 0, .int .u64 0, .int .u64 0], .int .i64 3]) (by simp only [results, Try.results92]; go_simp) rfl ⟨0, 0, 0, 0, 3, rfl, lim_zero, .inr ⟨?_, rfl, val0⟩, ?_⟩
    · have := val_hi hz; have := he.out; omega
    · (repeat (first | (with_reducible exact Below.refl _ _) | (with_reducible assumption) | (with_reducible apply bd) | (with_reducible apply ba) | (with_reducible refine bp ?_ (by first | omega | (simp [pad_size]; done) | (simp [pad_size]; omega)) _ _) | (with_reducible refine bs ?_ (by first | omega | (simp [pad_size]; done) | (simp [pad_size]; omega)) _) | (with_reducible refine bt ?_ (by assumption))))
end Go.Proofs.Ytjhjgncnadhbhaa
