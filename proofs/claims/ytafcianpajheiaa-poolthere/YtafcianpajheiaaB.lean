
/- Walks of num.plus, minus, Of: what each call gives, as whole numbers. -/
import Derived.Test.YtafcianpajheiaaRows
import Derived.Test.YtafcianpajheiaaA
import Derived.WalkKit
import Derived.WalkSpells
import Derived.WalkLawsBesides
import Derived.BigRegion
import Derived.Test.YtafcianpajheiaaP
set_option linter.unusedSimpArgs false
set_option linter.unusedVariables false
set_option maxRecDepth 20000
namespace Go.Proofs.Ytafcianpajheiaa
open Go.RowKit

set_option maxRecDepth 20000 in
/-- Two numbers held against each other as a whole. -/
theorem eq_numD (dd : Nat) (x0 x1 x2 x3 y0 y1 y2 y3 : Int) (w : World) : (Op.equalIn (dd + 1 + 1) 41 (.agg #[.int .u64 x0, .int .u64 x1, .int .u64 x2, .int .u64 x3]) (.agg #[.int .u64 y0, .int .u64 y1, .int .u64 y2, .int .u64 y3])).run Try.prog w = .ok (eq4 x0 x1 x2 x3 y0 y1 y2 y3) w := by
  have hp : ∀ (c : Array Value) (i : Nat) v w, c[i]? = some v → (part 28 c i).run Try.prog w = .ok v w := by
    intro c i v w h
    have : (part 28 c i).run Try.prog w = (match c[i]? with | some v => (pure v : Sem Value) | none => stuck "part: no such cell").run Try.prog w := rfl
    rw [this, h]; rfl
  have he : ∀ (a b : Int) w, (Op.equalIn (dd + 1) 28 (.int .u64 a) (.int .u64 b)).run Try.prog w = .ok (a == b) w := fun a b w => run_equalIn_int w dd 28 .u64 .u64 a b Try.underlying28
  have p0 := fun (a b c d : Value) w => hp #[a, b, c, d] 0 a w rfl
  have p1 := fun (a b c d : Value) w => hp #[a, b, c, d] 1 b w rfl
  have p2 := fun (a b c d : Value) w => hp #[a, b, c, d] 2 c w rfl
  have p3 := fun (a b c d : Value) w => hp #[a, b, c, d] 3 d w rfl
  rw [Op.equalIn]
  simp only [Sem.run_bind, run_underlying Try.underlying41, Result.andThen_ok]
  rw [show (sizeOf 28).run Try.prog w = .ok 1 w from rfl]
  simp only [Result.andThen_ok]
  simp [Std.Legacy.Range.forIn_eq_forIn_range', List.range', p0, p1, p2, p3, he, eq4]
  by_cases h0 : x0 = y0 <;> by_cases h1 : x1 = y1 <;> by_cases h2 : x2 = y2 <;> by_cases h3 : x3 = y3 <;> simp [h0, h1, h2, h3]

theorem eq_num (x0 x1 x2 x3 y0 y1 y2 y3 : Int) (w : World) : (Op.equalIn 10000 41 (.agg #[.int .u64 x0, .int .u64 x1, .int .u64 x2, .int .u64 x3]) (.agg #[.int .u64 y0, .int .u64 y1, .int .u64 y2, .int .u64 y3])).run Try.prog w = .ok (eq4 x0 x1 x2 x3 y0 y1 y2 y3) w := eq_numD 9998 x0 x1 x2 x3 y0 y1 y2 y3 w

def sub64Entry : Array Value → Sem Value := fun args => do
  let (x, y, b) ← Extern.MathBitsCarry.three "Sub64" args
  pure (Extern.MathBitsCarry.pair ((x + Extern.MathBitsCarry.m64 - y - b) % Extern.MathBitsCarry.m64) (if x < y + b then 1 else 0))

theorem run_sub64 {P : Program} (x y : Nat) (k : Nat) (hk : k ≤ 1) (w : World) :
    (sub64Entry #[.int .u64 (x : Int), .int .u64 (y : Int), .int .u64 (k : Int)]).run P w =
      .ok (.tuple #[.int .u64 (Int.ofNat ((x + Extern.MathBitsCarry.m64 - y - k) % Extern.MathBitsCarry.m64)), .int .u64 (Int.ofNat (if x < y + k then 1 else 0))]) w := by
  have : k = 0 ∨ k = 1 := by omega
  rcases this with rfl | rfl <;> rfl

end Go.Proofs.Ytafcianpajheiaa
