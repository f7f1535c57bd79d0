
/- The law's of, the reference's Of: lists as purses. -/
import Derived.Test.YtjhjgncnadhbhaaC1
set_option linter.unusedSimpArgs false
set_option linter.unusedVariables false
set_option maxRecDepth 20000
namespace Go.Proofs.Ytjhjgncnadhbhaa
open Go.RowKit

def zeroP : Nat → Cn := fun d => ⟨d, 0, 0, 0, 0⟩
def putP (z : Nat → Cn) (k : Nat) (x : Cn) : Nat → Cn := fun d => if d = k then ⟨d, x.a, x.b, x.c, x.e⟩ else z d
/-- What a list's numbers make, one behind the other, by places modulo 8. -/
def ofP (l : List Cn) : Nat → Cn := l.foldl (fun z x => putP z (x.d % 8).toNat x) zeroP
theorem ofP_snoc (l : List Cn) (x : Cn) : ofP (l ++ [x]) = putP (ofP l) (x.d % 8).toNat x := by simp [ofP]
theorem vl_zero (d : Nat) : vl (zeroP d) = 0 := by show val 0 0 0 0 = 0; exact val0
theorem purse_zero : Purse zeroP := fun d _ => ⟨lim_zero, rfl⟩
theorem purse_put {z : Nat → Cn} (h : Purse z) (k : Nat) {x : Cn} (hx : LimC x) : Purse (putP z k x) := by
  intro d hd
  unfold putP
  by_cases e : d = k
  · simp only [e, if_true]; exact ⟨hx, trivial⟩
  · simp only [e, if_false]; exact h d hd
theorem purse_of (l : List Cn) (h : ∀ x ∈ l, LimC x) : Purse (ofP l) := by
  have key : ∀ (l : List Cn) (z : Nat → Cn), Purse z → (∀ x ∈ l, LimC x) → Purse (l.foldl (fun z x => putP z (x.d % 8).toNat x) z) := by
    intro l
    induction l with
    | nil => intro z hz _; exact hz
    | cons y l ih => intro z hz hl; exact ih _ (purse_put hz _ (hl y (by simp))) (fun x hx => hl x (by simp [hx]))
  exact key l zeroP purse_zero h

theorem zeroP_a (d : Nat) : (zeroP d).a = 0 ∧ (zeroP d).b = 0 ∧ (zeroP d).c = 0 ∧ (zeroP d).e = 0 := ⟨rfl, rfl, rfl, rfl⟩
theorem listR_zero (w : World) : Calls Try.prog 59 #[.agg #[.int .u64 0, .int .u64 0, .int .u64 0, .int .u64 0, .int .u64 0, .int .u64 0, .int .u64 0, .int .u64 0, .int .u64 0, .int .u64 0, .int .u64 0, .int .u64 0, .int .u64 0, .int .u64 0, .int .u64 0, .int .u64 0, .int .u64 0, .int .u64 0, .int .u64 0, .int .u64 0, .int .u64 0, .int .u64 0, .int .u64 0, .int .u64 0, .int .u64 0, .int .u64 0, .int .u64 0, .int .u64 0, .int .u64 0, .int .u64 0, .int .u64 0, .int .u64 0]] w fun e w' => ∃ v, e = .returned v ∧ w'.ownsRow w.heap.size 66 5 v (lst zeroP 8).length (cellsL (lst zeroP 8)) ∧ Below w.heap.size w w' := by
  have h := listR_any zeroP purse_zero w
  simpa only [zeroP_a] using h

end Go.Proofs.Ytjhjgncnadhbhaa
