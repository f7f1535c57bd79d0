/-
  No cell of these rows narrows 'for every input' (looked for: loops, veiled, ifaces, maps, wideKeys, modest, calm, conditions, laid).
  DERIVED. THE GIVEN ROWS OF THIS SEAT. 6 by the template 'for every input the law returns true; each argument reads behind the call as it read before'; 0 by the template 'total and deterministic' (their statements: YtgphdioolcfmmaaTotals.lean).
  GIVEN WITH THE SEED: the statements are not yours to turn. If you find one false, say at which input.
  Laid BY PROGRAM, IN A SANDBOX (cutbox-rows.mjs): the forced cells as the released guide's own fill.sh prints them over the translation 979f11189ae85f62… (all of the seat's roots in one cut). By AI agents, Wed Nov 11 2026. No macro, syntax, notation, axiom, sorry.
-/
import Derived.Test.YtgphdioolcfmmaaChecked
import GoSem.Claim
import GoSem.ClaimJoined
import GoSem.ClaimMapViews
import Derived.JoinedTies
import Derived.KernelRfl
namespace Go.Proofs.Ytgphdioolcfmmaa
/- THE CELL 'sum', in the pinned program and in every row, IS THE sha256 OF THE DUMP (.gsa) THAT YtgphdioolcfmmaaProg.lean LOADS. Nothing in Lean hashes anything: it is a label: what it is worth is what the hold of that sum in a sandbox is worth. -/
noncomputable def Try.pinned : Pinned := { name := "ytgphdioolcfmmaa", sum := "979f11189ae85f625d53934edf39368cbdc4cbd83f9bb3a7e760433eaab37d9f", checked := Try.checked }
namespace Rows
def none {H : Type} : Left H := { results := [], args := [] }

/-- 'jointurelaw09.BankActs': WHATEVER THE INPUT: true; the input reads as it did. -/
def bankActsSpec : ChangeSpec := { name := "bankActs", fn := fun _ => fun
  | [d] => { results := [.lit (.bool true)], args := [d] }
  | _ => none }
def bankActsRow : OpenClaim := { program := "ytgphdioolcfmmaa", sum := "979f11189ae85f625d53934edf39368cbdc4cbd83f9bb3a7e760433eaab37d9f", func := "jointure/jointurelaw09.BankActs", spec := "bankActs", inPlace := ["internal/bytealg.Compare", "slices.overlaps[jointure/store.pair]", "math/bits.Add64", "math/bits.Sub64"], unfollowed := true, recurses := true, apart := false }
def BankActsSaid : Prop := bankActsRow.holds Try.pinned (OpenSpec.ofChange bankActsSpec)

/-- ITS FALSE NEIGHBOUR: 'it returns false'. Refute it at one input. -/
def bankActsWrong : ChangeSpec := { name := "bankActs", fn := fun _ => fun
  | [d] => { results := [.lit (.bool false)], args := [d] }
  | _ => none }
def BankActsWrongFalsely : Prop := bankActsRow.holds Try.pinned (OpenSpec.ofChange bankActsWrong)

/-- 'jointurelaw09.BankSums': WHATEVER THE INPUT: true; the input reads as it did. -/
def bankSumsSpec : ChangeSpec := { name := "bankSums", fn := fun _ => fun
  | [d] => { results := [.lit (.bool true)], args := [d] }
  | _ => none }
def bankSumsRow : OpenClaim := { program := "ytgphdioolcfmmaa", sum := "979f11189ae85f625d53934edf39368cbdc4cbd83f9bb3a7e760433eaab37d9f", func := "jointure/jointurelaw09.BankSums", spec := "bankSums", inPlace := ["internal/bytealg.Compare", "slices.overlaps[jointure/store.pair]", "math/bits.Add64", "math/bits.Sub64"], unfollowed := true, recurses := true, apart := false }
def BankSumsSaid : Prop := bankSumsRow.holds Try.pinned (OpenSpec.ofChange bankSumsSpec)

/-- ITS FALSE NEIGHBOUR: 'it returns false'. Refute it at one input. -/
def bankSumsWrong : ChangeSpec := { name := "bankSums", fn := fun _ => fun
  | [d] => { results := [.lit (.bool false)], args := [d] }
  | _ => none }
def BankSumsWrongFalsely : Prop := bankSumsRow.holds Try.pinned (OpenSpec.ofChange bankSumsWrong)

/-- 'jointurelaw09.BankBalances': WHATEVER THE INPUT: true; the input reads as it did. -/
def bankBalancesSpec : ChangeSpec := { name := "bankBalances", fn := fun _ => fun
  | [d1, d2, d3] => { results := [.lit (.bool true)], args := [d1, d2, d3] }
  | _ => none }
def bankBalancesRow : OpenClaim := { program := "ytgphdioolcfmmaa", sum := "979f11189ae85f625d53934edf39368cbdc4cbd83f9bb3a7e760433eaab37d9f", func := "jointure/jointurelaw09.BankBalances", spec := "bankBalances", inPlace := ["internal/bytealg.Compare", "slices.overlaps[jointure/store.pair]", "math/bits.Add64", "math/bits.Sub64"], unfollowed := true, recurses := true, apart := false }
def BankBalancesSaid : Prop := bankBalancesRow.holds Try.pinned (OpenSpec.ofChange bankBalancesSpec)

/-- ITS FALSE NEIGHBOUR: 'it returns false'. Refute it at one input. -/
def bankBalancesWrong : ChangeSpec := { name := "bankBalances", fn := fun _ => fun
  | [d1, d2, d3] => { results := [.lit (.bool false)], args := [d1, d2, d3] }
  | _ => none }
def BankBalancesWrongFalsely : Prop := bankBalancesRow.holds Try.pinned (OpenSpec.ofChange bankBalancesWrong)

/-- 'jointurelaw09.BankBack': WHATEVER THE INPUT: true; the input reads as it did. -/
def bankBackSpec : ChangeSpec := { name := "bankBack", fn := fun _ => fun
  | [d1, d2] => { results := [.lit (.bool true)], args := [d1, d2] }
  | _ => none }
def bankBackRow : OpenClaim := { program := "ytgphdioolcfmmaa", sum := "979f11189ae85f625d53934edf39368cbdc4cbd83f9bb3a7e760433eaab37d9f", func := "jointure/jointurelaw09.BankBack", spec := "bankBack", inPlace := ["internal/bytealg.Compare", "slices.overlaps[jointure/store.pair]", "math/bits.Add64", "math/bits.Sub64"], unfollowed := true, recurses := true, apart := false }
def BankBackSaid : Prop := bankBackRow.holds Try.pinned (OpenSpec.ofChange bankBackSpec)

/-- ITS FALSE NEIGHBOUR: 'it returns false'. Refute it at one input. -/
def bankBackWrong : ChangeSpec := { name := "bankBack", fn := fun _ => fun
  | [d1, d2] => { results := [.lit (.bool false)], args := [d1, d2] }
  | _ => none }
def BankBackWrongFalsely : Prop := bankBackRow.holds Try.pinned (OpenSpec.ofChange bankBackWrong)

/-- 'jointurelaw09.BankIs': WHATEVER THE INPUT: true; the input reads as it did. -/
def bankIsSpec : ChangeSpec := { name := "bankIs", fn := fun _ => fun
  | [d] => { results := [.lit (.bool true)], args := [d] }
  | _ => none }
def bankIsRow : OpenClaim := { program := "ytgphdioolcfmmaa", sum := "979f11189ae85f625d53934edf39368cbdc4cbd83f9bb3a7e760433eaab37d9f", func := "jointure/jointurelaw09.BankIs", spec := "bankIs", inPlace := ["internal/bytealg.Compare", "slices.overlaps[jointure/store.pair]", "math/bits.Add64", "math/bits.Sub64"], unfollowed := true, recurses := true, apart := false }
def BankIsSaid : Prop := bankIsRow.holds Try.pinned (OpenSpec.ofChange bankIsSpec)

/-- ITS FALSE NEIGHBOUR: 'it returns false'. Refute it at one input. -/
def bankIsWrong : ChangeSpec := { name := "bankIs", fn := fun _ => fun
  | [d] => { results := [.lit (.bool false)], args := [d] }
  | _ => none }
def BankIsWrongFalsely : Prop := bankIsRow.holds Try.pinned (OpenSpec.ofChange bankIsWrong)

/-- 'jointurelaw09.BankNil': WHATEVER THE INPUT: true; the input reads as it did. -/
def bankNilSpec : ChangeSpec := { name := "bankNil", fn := fun _ => fun
  | [d1, d2, d3] => { results := [.lit (.bool true)], args := [d1, d2, d3] }
  | _ => none }
def bankNilRow : OpenClaim := { program := "ytgphdioolcfmmaa", sum := "979f11189ae85f625d53934edf39368cbdc4cbd83f9bb3a7e760433eaab37d9f", func := "jointure/jointurelaw09.BankNil", spec := "bankNil", inPlace := ["internal/bytealg.Compare", "slices.overlaps[jointure/store.pair]", "math/bits.Add64", "math/bits.Sub64"], unfollowed := true, recurses := true, apart := false }
def BankNilSaid : Prop := bankNilRow.holds Try.pinned (OpenSpec.ofChange bankNilSpec)

/-- ITS FALSE NEIGHBOUR: 'it returns false'. Refute it at one input. -/
def bankNilWrong : ChangeSpec := { name := "bankNil", fn := fun _ => fun
  | [d1, d2, d3] => { results := [.lit (.bool false)], args := [d1, d2, d3] }
  | _ => none }
def BankNilWrongFalsely : Prop := bankNilRow.holds Try.pinned (OpenSpec.ofChange bankNilWrong)

/- THE SECOND FORM. 'bulk': how many values and letters a reading holds, each counted each time it is reached (what is shared counts as often as it is met; a slice's spare places count too). A statement '..UptoSaid' is the law's where the arguments, and the package variables that the reading takes, are together of bulk at most 1048576: NARROWER than '..Said'. Prove '..Said' where nothing that the law and all that it calls make is longer than what came in: it says more and counts as full. Else prove '..UptoSaid'. A law counts once. -/
mutual
def uptoBulk {H : Type} : DataW H → Nat
  | .lit (.string bytes) => bytes.length + 1
  | .lit _ => 1
  | .nil => 1
  | .ptr d => uptoBulk d + 1
  | .slice elems spare => uptoBulkAll elems + uptoBulkAll spare + 1
  | .agg parts => uptoBulkAll parts + 1
  | .iface _ d => uptoBulk d + 1
  | .map entries => uptoBulkEntries entries + 1
  | .held _ => 1
def uptoBulkAll {H : Type} : List (DataW H) → Nat
  | [] => 0
  | d :: r => uptoBulk d + uptoBulkAll r
def uptoBulkEntries {H : Type} : List (Lit × DataW H) → Nat
  | [] => 0
  | x :: r => uptoBulkEntry x + uptoBulkEntries r
def uptoBulkEntry {H : Type} : Lit × DataW H → Nat
  | (.string bytes, d) => bytes.length + uptoBulk d + 1
  | (_, d) => uptoBulk d + 1
 end
def uptoSmall : (H : Type) → List (DataW H) → Bool := fun _ ds => decide (uptoBulkAll ds ≤ 1048576)
def OpenSpec.upto (s : _root_.Go.ChangeSpec) : _root_.Go.OpenSpec := { _root_.Go.OpenSpec.ofChange s with cond := some uptoSmall }

/-- 'jointurelaw09.BankActs', WHERE WHAT IT READS IS OF BULK AT MOST 1048576: true; the input reads as it did. -/
def bankActsUptoRow : OpenClaim := { program := "ytgphdioolcfmmaa", sum := "979f11189ae85f625d53934edf39368cbdc4cbd83f9bb3a7e760433eaab37d9f", func := "jointure/jointurelaw09.BankActs", spec := "bankActs", inPlace := ["internal/bytealg.Compare", "slices.overlaps[jointure/store.pair]", "math/bits.Add64", "math/bits.Sub64"], unfollowed := true, recurses := true, apart := false, narrowed := true }
def BankActsUptoSaid : Prop := bankActsUptoRow.holds Try.pinned (OpenSpec.upto bankActsSpec)

/-- 'jointurelaw09.BankSums', WHERE WHAT IT READS IS OF BULK AT MOST 1048576: true; the input reads as it did. -/
def bankSumsUptoRow : OpenClaim := { program := "ytgphdioolcfmmaa", sum := "979f11189ae85f625d53934edf39368cbdc4cbd83f9bb3a7e760433eaab37d9f", func := "jointure/jointurelaw09.BankSums", spec := "bankSums", inPlace := ["internal/bytealg.Compare", "slices.overlaps[jointure/store.pair]", "math/bits.Add64", "math/bits.Sub64"], unfollowed := true, recurses := true, apart := false, narrowed := true }
def BankSumsUptoSaid : Prop := bankSumsUptoRow.holds Try.pinned (OpenSpec.upto bankSumsSpec)

/-- 'jointurelaw09.BankBalances', WHERE WHAT IT READS IS OF BULK AT MOST 1048576: true; the input reads as it did. -/
def bankBalancesUptoRow : OpenClaim := { program := "ytgphdioolcfmmaa", sum := "979f11189ae85f625d53934edf39368cbdc4cbd83f9bb3a7e760433eaab37d9f", func := "jointure/jointurelaw09.BankBalances", spec := "bankBalances", inPlace := ["internal/bytealg.Compare", "slices.overlaps[jointure/store.pair]", "math/bits.Add64", "math/bits.Sub64"], unfollowed := true, recurses := true, apart := false, narrowed := true }
def BankBalancesUptoSaid : Prop := bankBalancesUptoRow.holds Try.pinned (OpenSpec.upto bankBalancesSpec)

/-- 'jointurelaw09.BankBack', WHERE WHAT IT READS IS OF BULK AT MOST 1048576: true; the input reads as it did. -/
def bankBackUptoRow : OpenClaim := { program := "ytgphdioolcfmmaa", sum := "979f11189ae85f625d53934edf39368cbdc4cbd83f9bb3a7e760433eaab37d9f", func := "jointure/jointurelaw09.BankBack", spec := "bankBack", inPlace := ["internal/bytealg.Compare", "slices.overlaps[jointure/store.pair]", "math/bits.Add64", "math/bits.Sub64"], unfollowed := true, recurses := true, apart := false, narrowed := true }
def BankBackUptoSaid : Prop := bankBackUptoRow.holds Try.pinned (OpenSpec.upto bankBackSpec)

/-- 'jointurelaw09.BankIs', WHERE WHAT IT READS IS OF BULK AT MOST 1048576: true; the input reads as it did. -/
def bankIsUptoRow : OpenClaim := { program := "ytgphdioolcfmmaa", sum := "979f11189ae85f625d53934edf39368cbdc4cbd83f9bb3a7e760433eaab37d9f", func := "jointure/jointurelaw09.BankIs", spec := "bankIs", inPlace := ["internal/bytealg.Compare", "slices.overlaps[jointure/store.pair]", "math/bits.Add64", "math/bits.Sub64"], unfollowed := true, recurses := true, apart := false, narrowed := true }
def BankIsUptoSaid : Prop := bankIsUptoRow.holds Try.pinned (OpenSpec.upto bankIsSpec)

/-- 'jointurelaw09.BankNil', WHERE WHAT IT READS IS OF BULK AT MOST 1048576: true; the input reads as it did. -/
def bankNilUptoRow : OpenClaim := { program := "ytgphdioolcfmmaa", sum := "979f11189ae85f625d53934edf39368cbdc4cbd83f9bb3a7e760433eaab37d9f", func := "jointure/jointurelaw09.BankNil", spec := "bankNil", inPlace := ["internal/bytealg.Compare", "slices.overlaps[jointure/store.pair]", "math/bits.Add64", "math/bits.Sub64"], unfollowed := true, recurses := true, apart := false, narrowed := true }
def BankNilUptoSaid : Prop := bankNilUptoRow.holds Try.pinned (OpenSpec.upto bankNilSpec)

end Rows
end Go.Proofs.Ytgphdioolcfmmaa
