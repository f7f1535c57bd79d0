/-
  No cell of these rows narrows 'for every input' (looked for: loops, veiled, ifaces, maps, wideKeys, modest, calm, conditions, laid).
  DERIVED. THE GIVEN ROWS OF THIS SEAT. 7 by the template 'for every input the law returns true; each argument reads behind the call as it read before'; 0 by the template 'total and deterministic' (their statements: YtligkenemocdbaaTotals.lean).
  GIVEN WITH THE SEED: the statements are not yours to turn. If you find one false, say at which input.
  Laid BY PROGRAM, IN A SANDBOX (cutbox-rows.mjs): the forced cells as the released guide's own fill.sh prints them over the translation 9f7985ba4acfcf1b… (all of the seat's roots in one cut). By AI agents, Wed Nov 11 2026. No macro, syntax, notation, axiom, sorry.
-/
import Derived.Test.YtligkenemocdbaaChecked
import GoSem.Claim
import GoSem.ClaimJoined
import GoSem.ClaimMapViews
import Derived.JoinedTies
import Derived.KernelRfl
namespace Go.Proofs.Ytligkenemocdbaa
/- THE CELL 'sum', in the pinned program and in every row, IS THE sha256 OF THE DUMP (.gsa) THAT YtligkenemocdbaaProg.lean LOADS. Nothing in Lean hashes anything: it is a label: what it is worth is what the hold of that sum in a sandbox is worth. -/
noncomputable def Try.pinned : Pinned := { name := "ytligkenemocdbaa", sum := "9f7985ba4acfcf1bc613132114adf2fa7a5ecc03607569c540c5f866f2a2698d", checked := Try.checked }
namespace Rows
def none {H : Type} : Left H := { results := [], args := [] }

/-- 'jointurelaw08.ShareWorths': WHATEVER THE INPUT: true; the input reads as it did. -/
def shareWorthsSpec : ChangeSpec := { name := "shareWorths", fn := fun _ => fun
  | [d1, d2, d3] => { results := [.lit (.bool true)], args := [d1, d2, d3] }
  | _ => none }
def shareWorthsRow : OpenClaim := { program := "ytligkenemocdbaa", sum := "9f7985ba4acfcf1bc613132114adf2fa7a5ecc03607569c540c5f866f2a2698d", func := "jointure/jointurelaw08.ShareWorths", spec := "shareWorths", inPlace := ["math/bits.Add64", "math/bits.Sub64"], unfollowed := true, recurses := true, named := ["math/bits.divideError", "math/bits.overflowError"], apart := false }
def ShareWorthsSaid : Prop := shareWorthsRow.holds Try.pinned (OpenSpec.ofChange shareWorthsSpec)

/-- ITS FALSE NEIGHBOUR: 'it returns false'. Refute it at one input. -/
def shareWorthsWrong : ChangeSpec := { name := "shareWorths", fn := fun _ => fun
  | [d1, d2, d3] => { results := [.lit (.bool false)], args := [d1, d2, d3] }
  | _ => none }
def ShareWorthsWrongFalsely : Prop := shareWorthsRow.holds Try.pinned (OpenSpec.ofChange shareWorthsWrong)

/-- 'jointurelaw08.ShareNews': WHATEVER THE INPUT: true; the input reads as it did. -/
def shareNewsSpec : ChangeSpec := { name := "shareNews", fn := fun _ => fun
  | [d1, d2, d3] => { results := [.lit (.bool true)], args := [d1, d2, d3] }
  | _ => none }
def shareNewsRow : OpenClaim := { program := "ytligkenemocdbaa", sum := "9f7985ba4acfcf1bc613132114adf2fa7a5ecc03607569c540c5f866f2a2698d", func := "jointure/jointurelaw08.ShareNews", spec := "shareNews", inPlace := ["math/bits.Add64", "math/bits.Sub64"], unfollowed := true, recurses := true, named := ["math/bits.divideError", "math/bits.overflowError"], apart := false }
def ShareNewsSaid : Prop := shareNewsRow.holds Try.pinned (OpenSpec.ofChange shareNewsSpec)

/-- ITS FALSE NEIGHBOUR: 'it returns false'. Refute it at one input. -/
def shareNewsWrong : ChangeSpec := { name := "shareNews", fn := fun _ => fun
  | [d1, d2, d3] => { results := [.lit (.bool false)], args := [d1, d2, d3] }
  | _ => none }
def ShareNewsWrongFalsely : Prop := shareNewsRow.holds Try.pinned (OpenSpec.ofChange shareNewsWrong)

/-- 'jointurelaw08.ShareFewests': WHATEVER THE INPUT: true; the input reads as it did. -/
def shareFewestsSpec : ChangeSpec := { name := "shareFewests", fn := fun _ => fun
  | [d1, d2, d3] => { results := [.lit (.bool true)], args := [d1, d2, d3] }
  | _ => none }
def shareFewestsRow : OpenClaim := { program := "ytligkenemocdbaa", sum := "9f7985ba4acfcf1bc613132114adf2fa7a5ecc03607569c540c5f866f2a2698d", func := "jointure/jointurelaw08.ShareFewests", spec := "shareFewests", inPlace := ["math/bits.Add64", "math/bits.Sub64"], unfollowed := true, recurses := true, named := ["math/bits.divideError", "math/bits.overflowError"], apart := false }
def ShareFewestsSaid : Prop := shareFewestsRow.holds Try.pinned (OpenSpec.ofChange shareFewestsSpec)

/-- ITS FALSE NEIGHBOUR: 'it returns false'. Refute it at one input. -/
def shareFewestsWrong : ChangeSpec := { name := "shareFewests", fn := fun _ => fun
  | [d1, d2, d3] => { results := [.lit (.bool false)], args := [d1, d2, d3] }
  | _ => none }
def ShareFewestsWrongFalsely : Prop := shareFewestsRow.holds Try.pinned (OpenSpec.ofChange shareFewestsWrong)

/-- 'jointurelaw08.ShareParts': WHATEVER THE INPUT: true; the input reads as it did. -/
def sharePartsSpec : ChangeSpec := { name := "shareParts", fn := fun _ => fun
  | [d1, d2, d3] => { results := [.lit (.bool true)], args := [d1, d2, d3] }
  | _ => none }
def sharePartsRow : OpenClaim := { program := "ytligkenemocdbaa", sum := "9f7985ba4acfcf1bc613132114adf2fa7a5ecc03607569c540c5f866f2a2698d", func := "jointure/jointurelaw08.ShareParts", spec := "shareParts", inPlace := ["math/bits.Add64", "math/bits.Sub64"], unfollowed := true, recurses := true, named := ["math/bits.divideError", "math/bits.overflowError"], apart := false }
def SharePartsSaid : Prop := sharePartsRow.holds Try.pinned (OpenSpec.ofChange sharePartsSpec)

/-- ITS FALSE NEIGHBOUR: 'it returns false'. Refute it at one input. -/
def sharePartsWrong : ChangeSpec := { name := "shareParts", fn := fun _ => fun
  | [d1, d2, d3] => { results := [.lit (.bool false)], args := [d1, d2, d3] }
  | _ => none }
def SharePartsWrongFalsely : Prop := sharePartsRow.holds Try.pinned (OpenSpec.ofChange sharePartsWrong)

/-- 'jointurelaw08.ShareSplits': WHATEVER THE INPUT: true; the input reads as it did. -/
def shareSplitsSpec : ChangeSpec := { name := "shareSplits", fn := fun _ => fun
  | [d1, d2, d3, d4] => { results := [.lit (.bool true)], args := [d1, d2, d3, d4] }
  | _ => none }
def shareSplitsRow : OpenClaim := { program := "ytligkenemocdbaa", sum := "9f7985ba4acfcf1bc613132114adf2fa7a5ecc03607569c540c5f866f2a2698d", func := "jointure/jointurelaw08.ShareSplits", spec := "shareSplits", inPlace := ["math/bits.Add64", "math/bits.Sub64"], unfollowed := true, recurses := true, named := ["math/bits.divideError", "math/bits.overflowError"], apart := false }
def ShareSplitsSaid : Prop := shareSplitsRow.holds Try.pinned (OpenSpec.ofChange shareSplitsSpec)

/-- ITS FALSE NEIGHBOUR: 'it returns false'. Refute it at one input. -/
def shareSplitsWrong : ChangeSpec := { name := "shareSplits", fn := fun _ => fun
  | [d1, d2, d3, d4] => { results := [.lit (.bool false)], args := [d1, d2, d3, d4] }
  | _ => none }
def ShareSplitsWrongFalsely : Prop := shareSplitsRow.holds Try.pinned (OpenSpec.ofChange shareSplitsWrong)

/-- 'jointurelaw08.ShareLoss': WHATEVER THE INPUT: true; the input reads as it did. -/
def shareLossSpec : ChangeSpec := { name := "shareLoss", fn := fun _ => fun
  | [d1, d2, d3] => { results := [.lit (.bool true)], args := [d1, d2, d3] }
  | _ => none }
def shareLossRow : OpenClaim := { program := "ytligkenemocdbaa", sum := "9f7985ba4acfcf1bc613132114adf2fa7a5ecc03607569c540c5f866f2a2698d", func := "jointure/jointurelaw08.ShareLoss", spec := "shareLoss", inPlace := ["math/bits.Add64", "math/bits.Sub64"], unfollowed := true, recurses := true, named := ["math/bits.divideError", "math/bits.overflowError"], apart := false }
def ShareLossSaid : Prop := shareLossRow.holds Try.pinned (OpenSpec.ofChange shareLossSpec)

/-- ITS FALSE NEIGHBOUR: 'it returns false'. Refute it at one input. -/
def shareLossWrong : ChangeSpec := { name := "shareLoss", fn := fun _ => fun
  | [d1, d2, d3] => { results := [.lit (.bool false)], args := [d1, d2, d3] }
  | _ => none }
def ShareLossWrongFalsely : Prop := shareLossRow.holds Try.pinned (OpenSpec.ofChange shareLossWrong)

/-- 'jointurelaw08.ShareRest': WHATEVER THE INPUT: true; the input reads as it did. -/
def shareRestSpec : ChangeSpec := { name := "shareRest", fn := fun _ => fun
  | [d1, d2, d3, d4] => { results := [.lit (.bool true)], args := [d1, d2, d3, d4] }
  | _ => none }
def shareRestRow : OpenClaim := { program := "ytligkenemocdbaa", sum := "9f7985ba4acfcf1bc613132114adf2fa7a5ecc03607569c540c5f866f2a2698d", func := "jointure/jointurelaw08.ShareRest", spec := "shareRest", inPlace := ["math/bits.Add64", "math/bits.Sub64"], unfollowed := true, recurses := true, named := ["math/bits.divideError", "math/bits.overflowError"], apart := false }
def ShareRestSaid : Prop := shareRestRow.holds Try.pinned (OpenSpec.ofChange shareRestSpec)

/-- ITS FALSE NEIGHBOUR: 'it returns false'. Refute it at one input. -/
def shareRestWrong : ChangeSpec := { name := "shareRest", fn := fun _ => fun
  | [d1, d2, d3, d4] => { results := [.lit (.bool false)], args := [d1, d2, d3, d4] }
  | _ => none }
def ShareRestWrongFalsely : Prop := shareRestRow.holds Try.pinned (OpenSpec.ofChange shareRestWrong)

/- THE SECOND FORM. 'bulk': how many values and letters a reading holds, each counted each time it is reached (what is shared counts as often as it is met; a slice's spare places count too). A statement '..UptoSaid' is the law's where the arguments, and the package variables that the reading takes, are together of bulk at most 1048576: NARROWER than '..Said'. Prove '..Said' where nothing that the law and all that it calls make is longer than what came in: it says more and counts as full. Else prove '..UptoSaid'. A law counts once. -/
mutual
def uptoBulk {H : Type} : DataW H → Nat
  | .lit (.string bytes) => bytes.length + 1
  | .lit _ => 1
  | .nil => 1
  | .ptr d => uptoBulk d + 1
  | .slice elems spare => uptoBulkAll elems + uptoBulkAll spare + 1
  | .agg parts => uptoBulkAll parts + 1
  | .iface _ d => uptoBulk d + 1
  | .map entries => uptoBulkEntries entries + 1
  | .held _ => 1
def uptoBulkAll {H : Type} : List (DataW H) → Nat
  | [] => 0
  | d :: r => uptoBulk d + uptoBulkAll r
def uptoBulkEntries {H : Type} : List (Lit × DataW H) → Nat
  | [] => 0
  | x :: r => uptoBulkEntry x + uptoBulkEntries r
def uptoBulkEntry {H : Type} : Lit × DataW H → Nat
  | (.string bytes, d) => bytes.length + uptoBulk d + 1
  | (_, d) => uptoBulk d + 1
 end
def uptoSmall : (H : Type) → List (DataW H) → Bool := fun _ ds => decide (uptoBulkAll ds ≤ 1048576)
def OpenSpec.upto (s : _root_.Go.ChangeSpec) : _root_.Go.OpenSpec := { _root_.Go.OpenSpec.ofChange s with cond := some uptoSmall }

/-- 'jointurelaw08.ShareWorths', WHERE WHAT IT READS IS OF BULK AT MOST 1048576: true; the input reads as it did. -/
def shareWorthsUptoRow : OpenClaim := { program := "ytligkenemocdbaa", sum := "9f7985ba4acfcf1bc613132114adf2fa7a5ecc03607569c540c5f866f2a2698d", func := "jointure/jointurelaw08.ShareWorths", spec := "shareWorths", inPlace := ["math/bits.Add64", "math/bits.Sub64"], unfollowed := true, recurses := true, named := ["math/bits.divideError", "math/bits.overflowError"], apart := false, narrowed := true }
def ShareWorthsUptoSaid : Prop := shareWorthsUptoRow.holds Try.pinned (OpenSpec.upto shareWorthsSpec)

/-- 'jointurelaw08.ShareNews', WHERE WHAT IT READS IS OF BULK AT MOST 1048576: true; the input reads as it did. -/
def shareNewsUptoRow : OpenClaim := { program := "ytligkenemocdbaa", sum := "9f7985ba4acfcf1bc613132114adf2fa7a5ecc03607569c540c5f866f2a2698d", func := "jointure/jointurelaw08.ShareNews", spec := "shareNews", inPlace := ["math/bits.Add64", "math/bits.Sub64"], unfollowed := true, recurses := true, named := ["math/bits.divideError", "math/bits.overflowError"], apart := false, narrowed := true }
def ShareNewsUptoSaid : Prop := shareNewsUptoRow.holds Try.pinned (OpenSpec.upto shareNewsSpec)

/-- 'jointurelaw08.ShareFewests', WHERE WHAT IT READS IS OF BULK AT MOST 1048576: true; the input reads as it did. -/
def shareFewestsUptoRow : OpenClaim := { program := "ytligkenemocdbaa", sum := "9f7985ba4acfcf1bc613132114adf2fa7a5ecc03607569c540c5f866f2a2698d", func := "jointure/jointurelaw08.ShareFewests", spec := "shareFewests", inPlace := ["math/bits.Add64", "math/bits.Sub64"], unfollowed := true, recurses := true, named := ["math/bits.divideError", "math/bits.overflowError"], apart := false, narrowed := true }
def ShareFewestsUptoSaid : Prop := shareFewestsUptoRow.holds Try.pinned (OpenSpec.upto shareFewestsSpec)

/-- 'jointurelaw08.ShareParts', WHERE WHAT IT READS IS OF BULK AT MOST 1048576: true; the input reads as it did. -/
def sharePartsUptoRow : OpenClaim := { program := "ytligkenemocdbaa", sum := "9f7985ba4acfcf1bc613132114adf2fa7a5ecc03607569c540c5f866f2a2698d", func := "jointure/jointurelaw08.ShareParts", spec := "shareParts", inPlace := ["math/bits.Add64", "math/bits.Sub64"], unfollowed := true, recurses := true, named := ["math/bits.divideError", "math/bits.overflowError"], apart := false, narrowed := true }
def SharePartsUptoSaid : Prop := sharePartsUptoRow.holds Try.pinned (OpenSpec.upto sharePartsSpec)

/-- 'jointurelaw08.ShareSplits', WHERE WHAT IT READS IS OF BULK AT MOST 1048576: true; the input reads as it did. -/
def shareSplitsUptoRow : OpenClaim := { program := "ytligkenemocdbaa", sum := "9f7985ba4acfcf1bc613132114adf2fa7a5ecc03607569c540c5f866f2a2698d", func := "jointure/jointurelaw08.ShareSplits", spec := "shareSplits", inPlace := ["math/bits.Add64", "math/bits.Sub64"], unfollowed := true, recurses := true, named := ["math/bits.divideError", "math/bits.overflowError"], apart := false, narrowed := true }
def ShareSplitsUptoSaid : Prop := shareSplitsUptoRow.holds Try.pinned (OpenSpec.upto shareSplitsSpec)

/-- 'jointurelaw08.ShareLoss', WHERE WHAT IT READS IS OF BULK AT MOST 1048576: true; the input reads as it did. -/
def shareLossUptoRow : OpenClaim := { program := "ytligkenemocdbaa", sum := "9f7985ba4acfcf1bc613132114adf2fa7a5ecc03607569c540c5f866f2a2698d", func := "jointure/jointurelaw08.ShareLoss", spec := "shareLoss", inPlace := ["math/bits.Add64", "math/bits.Sub64"], unfollowed := true, recurses := true, named := ["math/bits.divideError", "math/bits.overflowError"], apart := false, narrowed := true }
def ShareLossUptoSaid : Prop := shareLossUptoRow.holds Try.pinned (OpenSpec.upto shareLossSpec)

/-- 'jointurelaw08.ShareRest', WHERE WHAT IT READS IS OF BULK AT MOST 1048576: true; the input reads as it did. -/
def shareRestUptoRow : OpenClaim := { program := "ytligkenemocdbaa", sum := "9f7985ba4acfcf1bc613132114adf2fa7a5ecc03607569c540c5f866f2a2698d", func := "jointure/jointurelaw08.ShareRest", spec := "shareRest", inPlace := ["math/bits.Add64", "math/bits.Sub64"], unfollowed := true, recurses := true, named := ["math/bits.divideError", "math/bits.overflowError"], apart := false, narrowed := true }
def ShareRestUptoSaid : Prop := shareRestUptoRow.holds Try.pinned (OpenSpec.upto shareRestSpec)

end Rows
end Go.Proofs.Ytligkenemocdbaa
