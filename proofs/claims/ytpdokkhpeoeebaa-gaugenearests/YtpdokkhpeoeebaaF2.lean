
/- Calls whose answer is known, as facts; the reference's Add, Rest where the answer is known. -/
import Derived.Test.YtpdokkhpeoeebaaF1
import Derived.Test.YtpdokkhpeoeebaaD7
import Derived.Test.YtpdokkhpeoeebaaV1
set_option linter.unusedSimpArgs false
set_option linter.unusedVariables false
set_option maxRecDepth 20000
namespace Go.Proofs.Ytpdokkhpeoeebaa
open Go.RowKit

/-- A call answers this, and writes nothing that was there. -/
def Says (f : Nat) (args : Array Value) (v : Value) : Prop := ∀ w, Calls Try.prog f args w fun e w' => e = .returned v ∧ Below w.heap.size w w'
theorem Says.at {f : Nat} {args : Array Value} {v : Value} (h : Says f args v) (w : World) : Calls Try.prog f args w fun e w' => e = .returned v ∧ Below w.heap.size w w' := h w

theorem says_addR {x0 x1 x2 x3 y0 y1 y2 y3 z0 z1 z2 z3 : Int} (hx : Lim x0 x1 x2 x3) (hy : Lim y0 y1 y2 y3) (hz : Lim z0 z1 z2 z3) (he : val z0 z1 z2 z3 = val x0 x1 x2 x3 + val y0 y1 y2 y3) : Says 15 #[.agg #[.int .u64 x0, .int .u64 x1, .int .u64 x2, .int .u64 x3], .agg #[.int .u64 y0, .int .u64 y1, .int .u64 y2, .int .u64 y3]] (.tuple #[.agg #[.int .u64 z0, .int .u64 z1, .int .u64 z2, .int .u64 z3], .bool true]) := by
  intro w
  refine (addR_any _ _ _ _ _ _ _ _ hx hy w).mono ?_
  rintro e w' ⟨dq, hq, hs, h, hb⟩
  have hz1 := val_hi hz
  have e16 : (65536 : Int) ^ 16 = 115792089237316195423570985008687907853269984665640564039457584007913129639936 := by decide
  have hl := sm_lim 16 (fun i hi => hq i (by omega))
  simp only [show sm dq 17 = sm dq 16 + dq 16 * 65536 ^ 16 from rfl, e16] at hs
  rcases h with ⟨h, rfl⟩ | ⟨h, -⟩
  · rw [h] at hs
    obtain ⟨h0, h1, h2, h3⟩ := val_inj (lim_Lp (fun i hi => hq i (by omega))) hz (by rw [val_Lp]; omega)
    rw [h0, h1, h2, h3]
    exact ⟨rfl, hb⟩
  · omega
theorem says_addR_over {x0 x1 x2 x3 y0 y1 y2 y3 : Int} (hx : Lim x0 x1 x2 x3) (hy : Lim y0 y1 y2 y3) (he : 115792089237316195423570985008687907853269984665640564039457584007913129639936 ≤ val x0 x1 x2 x3 + val y0 y1 y2 y3) : Says 15 #[.agg #[.int .u64 x0, .int .u64 x1, .int .u64 x2, .int .u64 x3], .agg #[.int .u64 y0, .int .u64 y1, .int .u64 y2, .int .u64 y3]] (.tuple #[.agg #[.int .u64 0, .int .u64 0, .int .u64 0, .int .u64 0], .bool false]) := by
  intro w
  refine (addR_any _ _ _ _ _ _ _ _ hx hy w).mono ?_
  rintro e w' ⟨dq, hq, hs, h, hb⟩
  have e16 : (65536 : Int) ^ 16 = 115792089237316195423570985008687907853269984665640564039457584007913129639936 := by decide
  have hl := sm_lim 16 (fun i hi => hq i (by omega))
  simp only [show sm dq 17 = sm dq 16 + dq 16 * 65536 ^ 16 from rfl, e16] at hs
  rw [e16] at hl
  rcases h with ⟨h, -⟩ | ⟨h, rfl⟩
  · rw [h] at hs; omega
  · exact ⟨rfl, hb⟩
theorem says_cmpR {x0 x1 x2 x3 y0 y1 y2 y3 c : Int} (hx : Lim x0 x1 x2 x3) (hy : Lim y0 y1 y2 y3) (h : cmpI (val x0 x1 x2 x3) (val y0 y1 y2 y3) = c) : Says 14 #[.agg #[.int .u64 x0, .int .u64 x1, .int .u64 x2, .int .u64 x3], .agg #[.int .u64 y0, .int .u64 y1, .int .u64 y2, .int .u64 y3]] (.int .i64 c) := by
  subst h; exact fun w => cmpR_any _ _ _ _ _ _ _ _ hx hy w
end Go.Proofs.Ytpdokkhpeoeebaa
