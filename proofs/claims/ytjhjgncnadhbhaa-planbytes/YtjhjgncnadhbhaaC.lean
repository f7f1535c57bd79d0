
/- Walks of bits.Mul64, num.scale, product, Mul. -/
import Derived.Test.YtjhjgncnadhbhaaB
import Derived.Lib.Mul64
import Derived.Laws.Bits64b
set_option linter.unusedSimpArgs false
set_option linter.unusedVariables false
set_option maxRecDepth 20000
namespace Go.Proofs.Ytjhjgncnadhbhaa
open Go.RowKit

theorem forget {P : Program} {c : Code} {Q : Exit → Act → World → Prop} {n : Nat} {a : Act} {W : World} (F : World → Prop) (hF : F W) (h : ∀ w', F w' → Code.rounds P c Q n a w') : Code.rounds P c Q n a W := h W hF
theorem forgetWp {P : Program} {c : Code} {Q : Exit → Act → World → Prop} {a : Act} {W : World} (F : World → Prop) (hF : F W) (h : ∀ w', F w' → Code.wp P c Q a w') : Code.wp P c Q a W := h W hF

theorem maskN (a : Nat) (ha : a < 18446744073709551616) : bits .and .u64 (a : Int) 4294967295 = ((a % 4294967296 : Nat) : Int) := by
  have h := bits_and_u64_nat a 4294967295 ha (by omega)
  rw [show a &&& 4294967295 = a % 4294967296 from Nat.and_two_pow_sub_one_eq_mod a 32] at h
  exact h
theorem wrapN (a : Nat) (ha : a < 18446744073709551616) : IntKind.u64.wrap (a : Int) = (a : Int) := by rw [IntKind.wrap_u64]; omega
theorem wrapM (a : Nat) : IntKind.u64.wrap (a : Int) = ((a % 18446744073709551616 : Nat) : Int) := by rw [IntKind.wrap_u64]; omega
theorem divN (a : Nat) : (a : Int) / 4294967296 = ((a / 4294967296 : Nat) : Int) := by omega
theorem mulN (a b : Nat) : (a : Int) * (b : Int) = ((a * b : Nat) : Int) := (Int.natCast_mul a b).symm
theorem addN (a b : Nat) : (a : Int) + (b : Int) = ((a + b : Nat) : Int) := (Int.natCast_add a b).symm

set_option maxHeartbeats 1000000 in
theorem mul64_any (X Y : Int) (hX : 0 ≤ X ∧ X < 18446744073709551616) (hY : 0 ≤ Y ∧ Y < 18446744073709551616) (w : World) :
    Calls Try.prog 107 #[.int .u64 X, .int .u64 Y] w fun e w' => ∃ h l : Int, e = .returned (.tuple #[.int .u64 h, .int .u64 l]) ∧ (0 ≤ h ∧ h < 18446744073709551616) ∧ (0 ≤ l ∧ l < 18446744073709551616) ∧ Hid (X * Y = h * 18446744073709551616 + l) ∧ w' = w := by
  obtain ⟨x, rfl⟩ := Int.eq_ofNat_of_zero_le hX.1
  obtain ⟨y, rfl⟩ := Int.eq_ofNat_of_zero_le hY.1
  have hx : x < 18446744073709551616 := by omega
  have hy : y < 18446744073709551616 := by omega
  obtain ⟨bd, bt, bw, hhi⟩ := Lib.mul64_hi x y hx hy
  have ba := Lib.half_mul_le (a := x / 4294967296) (b := y / 4294967296) (by omega) (by omega)
  have bb := Lib.half_mul_le (a := x / 4294967296) (b := y % 4294967296) (by omega) (by omega)
  have bc := Lib.half_mul_le (a := x % 4294967296) (b := y / 4294967296) (by omega) (by omega)
  have ba' : x / 4294967296 * (y / 4294967296) < 18446744073709551616 := by omega
  have bb' : x / 4294967296 * (y % 4294967296) < 18446744073709551616 := by omega
  have bc' : x % 4294967296 * (y / 4294967296) < 18446744073709551616 := by omega
  have bh1 : x / 4294967296 * (y / 4294967296) + (x / 4294967296 * (y % 4294967296) + x % 4294967296 * (y % 4294967296) / 4294967296) / 4294967296 < 18446744073709551616 := by omega
  have bh : x / 4294967296 * (y / 4294967296) + (x / 4294967296 * (y % 4294967296) + x % 4294967296 * (y % 4294967296) / 4294967296) / 4294967296 + ((x / 4294967296 * (y % 4294967296) + x % 4294967296 * (y % 4294967296) / 4294967296) % 4294967296 + x % 4294967296 * (y / 4294967296)) / 4294967296 < 18446744073709551616 := by omega
  go_enter Try.func107, Try.ntmps107
  go_wp2
  simp only [maskN x hx, maskN y hy, divN, mulN, addN, wrapN _ bd, wrapN _ bb', wrapN _ bt, maskN _ bt, wrapN _ bc', wrapN _ bw, wrapN _ ba', wrapN _ bh1, wrapN _ bh, wrapM (x * y)]
  rw [hhi]
  go_ret2
  have hlt : x * y / 18446744073709551616 < 18446744073709551616 := by
    rw [Nat.div_lt_iff_lt_mul (by omega)]; exact Nat.mul_lt_mul'' hx hy
  have hml : x * y % 18446744073709551616 < 18446744073709551616 := Nat.mod_lt _ (by omega)
  refine ⟨_, _, rfl, ⟨by omega, by omega⟩, ⟨by omega, by omega⟩, ?_, rfl⟩
  show _ = _
  have := Nat.div_add_mod (x * y) 18446744073709551616
  omega

theorem scale_step {X Y o h l s c : Int} (hX : 0 ≤ X ∧ X < 18446744073709551616) (hY : 0 ≤ Y ∧ Y < 18446744073709551616) (ho : 0 ≤ o ∧ o < 18446744073709551616) (hh : 0 ≤ h ∧ h < 18446744073709551616) (hs : 0 ≤ s ∧ s < 18446744073709551616) (c0 : 0 ≤ c) (c1 : c ≤ 1)
    (e1 : Hid (X * Y = h * 18446744073709551616 + l)) (e2 : Hid (l + o + 0 = s + c * 18446744073709551616)) : (0 ≤ h + c ∧ h + c < 18446744073709551616) ∧ Hid (X * Y + o = (h + c) * 18446744073709551616 + s) := by
  have e1 := e1.out; have e2 := e2.out
  have hp : X * Y ≤ 18446744073709551615 * 18446744073709551615 := Int.mul_le_mul (by omega) (by omega) (by omega) (by omega)
  generalize X * Y = p at *
  refine ⟨⟨by omega, by omega⟩, show _ = _ by omega⟩

theorem scale_sum {x0 x1 x2 x3 y m o1 o2 o3 o4 s0 s1 s2 s3 : Int} (e0 : Hid (x0 * y + m = o1 * 18446744073709551616 + s0)) (e1 : Hid (x1 * y + o1 = o2 * 18446744073709551616 + s1)) (e2 : Hid (x2 * y + o2 = o3 * 18446744073709551616 + s2)) (e3 : Hid (x3 * y + o3 = o4 * 18446744073709551616 + s3)) :
    val x0 x1 x2 x3 * y + m = val s0 s1 s2 s3 + o4 * 115792089237316195423570985008687907853269984665640564039457584007913129639936 := by
  have e0 := e0.out; have e1 := e1.out; have e2 := e2.out; have e3 := e3.out
  have e : val x0 x1 x2 x3 * y = x0 * y + x1 * y * 18446744073709551616 + x2 * y * 340282366920938463463374607431768211456 + x3 * y * 6277101735386680763835789423207666416102355444464034512896 := by
    unfold val; simp only [Int.add_mul, Int.mul_right_comm]
  rw [e]; unfold val
  generalize x0 * y = p0 at *; generalize x1 * y = p1 at *; generalize x2 * y = p2 at *; generalize x3 * y = p3 at *
  omega

theorem ix_num (a b c d : Value) (w : World) : (Instr.index 64 (.agg #[a, b, c, d]) (.int .i64 0)).run Try.prog w = .ok a w ∧ (Instr.index 64 (.agg #[a, b, c, d]) (.int .i64 1)).run Try.prog w = .ok b w ∧
    (Instr.index 64 (.agg #[a, b, c, d]) (.int .i64 2)).run Try.prog w = .ok c w ∧ (Instr.index 64 (.agg #[a, b, c, d]) (.int .i64 3)).run Try.prog w = .ok d w := by
  refine ⟨?_, ?_, ?_, ?_⟩ <;> kernel_rfl

set_option maxHeartbeats 1000000 in
theorem scale_any (x0 x1 x2 x3 y m : Int) (hx : Lim x0 x1 x2 x3) (hy : 0 ≤ y ∧ y < 18446744073709551616) (hm : 0 ≤ m ∧ m < 18446744073709551616) (w : World) :
    Calls Try.prog 98 #[.agg #[.int .u64 x0, .int .u64 x1, .int .u64 x2, .int .u64 x3], .int .u64 y, .int .u64 m] w fun e w' =>
      ∃ z0 z1 z2 z3 c : Int, e = .returned (.tuple #[.agg #[.int .u64 z0, .int .u64 z1, .int .u64 z2, .int .u64 z3], .int .u64 c]) ∧ Lim z0 z1 z2 z3 ∧ (0 ≤ c ∧ c < 18446744073709551616) ∧
        Hid (val x0 x1 x2 x3 * y + m = val z0 z1 z2 z3 + c * 115792089237316195423570985008687907853269984665640564039457584007913129639936) ∧ Below w.heap.size w w' := by
  obtain ⟨hx0, hx1, hx2, hx3⟩ := hx
  have ix := ix_num
  go_enter Try.func98, Try.ntmps98
  go_wp2
  apply wp_loop_rounds 5
  simp only [Code.rounds]
  go_wp2_with (first
    | (go_at_call 107; with_reducible refine (mul64_any x0 y hx0 hy _).mono ?_; rintro e w' ⟨h0, l0, rfl, bh0, bl0, eh0, rfl⟩; obtain ⟨s0, c0, bs0, c00, c01, es0, ks0⟩ := add64_ex l0 m 0 bl0 hm (by omega) (by omega); obtain ⟨bo1, eo1⟩ := scale_step hx0 hy hm bh0 bs0 c00 c01 eh0 es0)
    | (go_at_call 107; with_reducible refine (mul64_any x1 y hx1 hy _).mono ?_; rintro e w' ⟨h1, l1, rfl, bh1, bl1, eh1, rfl⟩; obtain ⟨s1, c1, bs1, c10, c11, es1, ks1⟩ := add64_ex l1 _ 0 bl1 bo1 (by omega) (by omega); obtain ⟨bo2, eo2⟩ := scale_step hx1 hy bo1 bh1 bs1 c10 c11 eh1 es1)
    | (go_at_call 107; with_reducible refine (mul64_any x2 y hx2 hy _).mono ?_; rintro e w' ⟨h2, l2, rfl, bh2, bl2, eh2, rfl⟩; obtain ⟨s2, c2, bs2, c20, c21, es2, ks2⟩ := add64_ex l2 _ 0 bl2 bo2 (by omega) (by omega); obtain ⟨bo3, eo3⟩ := scale_step hx2 hy bo2 bh2 bs2 c20 c21 eh2 es2)
    | (go_at_call 107; with_reducible refine (mul64_any x3 y hx3 hy _).mono ?_; rintro e w' ⟨h3, l3, rfl, bh3, bl3, eh3, rfl⟩; obtain ⟨s3, c3, bs3, c30, c31, es3, ks3⟩ := add64_ex l3 _ 0 bl3 bo3 (by omega) (by omega); obtain ⟨bo4, eo4⟩ := scale_step hx3 hy bo3 bh3 bs3 c30 c31 eh3 es3))
  refine bodyPost_ret (v := .tuple #[.agg #[.int .u64 s0, .int .u64 s1, .int .u64 s2, .int .u64 s3], .int .u64 (h3 + c3)]) (by simp only [results, Try.results98]; go_simp) rfl ⟨s0, s1, s2, s3, _, rfl, ⟨bs0, bs1, bs2, bs3⟩, bo4, scale_sum eo1 eo2 eo3 eo4, ?_⟩
  (repeat (first | (with_reducible exact Below.refl _ _) | (with_reducible assumption) | (with_reducible apply bd) | (with_reducible apply ba) | (with_reducible refine bp ?_ (by first | omega | (simp [pad_size]; done) | (simp [pad_size]; omega)) _ _) | (with_reducible refine bs ?_ (by first | omega | (simp [pad_size]; done) | (simp [pad_size]; omega)) _) | (with_reducible refine bt ?_ (by assumption))))
end Go.Proofs.Ytjhjgncnadhbhaa
