
/- The reference's Add, Rest, Least, Within of coins. -/
import Derived.Test.YtjhjgncnadhbhaaC8
import Derived.Test.YtjhjgncnadhbhaaD7
set_option linter.unusedSimpArgs false
set_option linter.unusedVariables false
set_option maxRecDepth 20000
namespace Go.Proofs.Ytjhjgncnadhbhaa
open Go.RowKit

/-- A purse in which the first places are another one's. -/
def mixP (s z : Nat → Cn) (k : Nat) : Nat → Cn := fun d => if d < k then s d else z d
theorem mix_0 (s z : Nat → Cn) (d : Nat) : mixP s z 0 d = z d := if_neg (by omega)
theorem mix_8 (s z : Nat → Cn) : lst (mixP s z 8) 8 = lst s 8 := lst_congr 8 (fun d hd => if_pos hd)
theorem purse_mix {s z : Nat → Cn} (hs : Purse s) (hz : Purse z) (k : Nat) : Purse (mixP s z k) := by
  intro d hd; unfold mixP; split
  · exact hs d hd
  · exact hz d hd
theorem addR_cn {x y : Cn} (hx : LimC x) (hy : LimC y) (h : vl x + vl y < 115792089237316195423570985008687907853269984665640564039457584007913129639936) (d : Nat) (w : World) :
    Calls Try.prog 61 #[.agg #[.int .u64 x.a, .int .u64 x.b, .int .u64 x.c, .int .u64 x.e], .agg #[.int .u64 y.a, .int .u64 y.b, .int .u64 y.c, .int .u64 y.e]] w fun e w' => e = .returned (.tuple #[.agg #[.int .u64 (cnOf d (vl x + vl y)).a, .int .u64 (cnOf d (vl x + vl y)).b, .int .u64 (cnOf d (vl x + vl y)).c, .int .u64 (cnOf d (vl x + vl y)).e], .bool true]) ∧ Below w.heap.size w w' := by
  refine (addR_any _ _ _ _ _ _ _ _ hx hy w).mono ?_
  rintro e w' ⟨dq, hq, hs, h1, hb⟩
  have e16 : (65536 : Int) ^ 16 = 115792089237316195423570985008687907853269984665640564039457584007913129639936 := by decide
  have hl := sm_lim 16 (fun i hi => hq i (by omega))
  have hs' : sm dq 16 + dq 16 * 115792089237316195423570985008687907853269984665640564039457584007913129639936 = vl x + vl y := by rw [← e16]; exact hs
  rcases h1 with ⟨h1, rfl⟩ | ⟨h1, -⟩
  · rw [h1] at hs'
    have e1 := cn_one (x := ⟨d, Lp dq 16 0, Lp dq 16 1, Lp dq 16 2, Lp dq 16 3⟩) (d := d) (n := vl x + vl y) (lim_Lp (fun i hi => hq i (by omega))) rfl (by rw [show vl (⟨d, Lp dq 16 0, Lp dq 16 1, Lp dq 16 2, Lp dq 16 3⟩ : Cn) = sm dq 16 from val_Lp dq]; omega)
    rw [← e1]
    exact ⟨rfl, hb⟩
  · omega
theorem addR_no {x y : Cn} (hx : LimC x) (hy : LimC y) (h : 115792089237316195423570985008687907853269984665640564039457584007913129639936 ≤ vl x + vl y) (w : World) :
    Calls Try.prog 61 #[.agg #[.int .u64 x.a, .int .u64 x.b, .int .u64 x.c, .int .u64 x.e], .agg #[.int .u64 y.a, .int .u64 y.b, .int .u64 y.c, .int .u64 y.e]] w fun e w' => e = .returned (.tuple #[.agg #[.int .u64 0, .int .u64 0, .int .u64 0, .int .u64 0], .bool false]) ∧ Below w.heap.size w w' := by
  refine (addR_any _ _ _ _ _ _ _ _ hx hy w).mono ?_
  rintro e w' ⟨dq, hq, hs, h1, hb⟩
  have e16 : (65536 : Int) ^ 16 = 115792089237316195423570985008687907853269984665640564039457584007913129639936 := by decide
  have hl := sm_lim 16 (fun i hi => hq i (by omega))
  rw [e16] at hl
  have hs' : sm dq 16 + dq 16 * 115792089237316195423570985008687907853269984665640564039457584007913129639936 = vl x + vl y := by rw [← e16]; exact hs
  rcases h1 with ⟨h1, -⟩ | ⟨h1, rfl⟩
  · rw [h1] at hs'; omega
  · exact ⟨rfl, hb⟩
end Go.Proofs.Ytjhjgncnadhbhaa
