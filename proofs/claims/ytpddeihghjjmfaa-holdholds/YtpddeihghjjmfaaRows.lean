/-
  No cell of these rows narrows 'for every input' (looked for: loops, veiled, ifaces, maps, wideKeys, modest, calm, conditions, laid).
  DERIVED. THE GIVEN ROWS OF THIS SEAT. 5 by the template 'for every input the law returns true; each argument reads behind the call as it read before'; 0 by the template 'total and deterministic' (their statements: YtpddeihghjjmfaaTotals.lean).
  GIVEN WITH THE SEED: the statements are not yours to turn. If you find one false, say at which input.
  Laid BY PROGRAM, IN A SANDBOX (cutbox-rows.mjs): the forced cells as the released guide's own fill.sh prints them over the translation 79616fae7addb47e… (all of the seat's roots in one cut). By AI agents, Wed Nov 11 2026. No macro, syntax, notation, axiom, sorry.
-/
import Derived.Test.YtpddeihghjjmfaaChecked
import GoSem.Claim
import GoSem.ClaimJoined
import GoSem.ClaimMapViews
import Derived.JoinedTies
import Derived.KernelRfl
namespace Go.Proofs.Ytpddeihghjjmfaa
/- THE CELL 'sum', in the pinned program and in every row, IS THE sha256 OF THE DUMP (.gsa) THAT YtpddeihghjjmfaaProg.lean LOADS. Nothing in Lean hashes anything: it is a label: what it is worth is what the hold of that sum in a sandbox is worth. -/
noncomputable def Try.pinned : Pinned := { name := "ytpddeihghjjmfaa", sum := "79616fae7addb47ec49bb5033cc71ac7cd227621594a5e4aa3bcf5f6c3c4dc78", checked := Try.checked }
namespace Rows
def none {H : Type} : Left H := { results := [], args := [] }

/-- 'jointurelaw07.HoldTracks': WHATEVER THE INPUT: true; the input reads as it did. -/
def holdTracksSpec : ChangeSpec := { name := "holdTracks", fn := fun _ => fun
  | [d1, d2, d3] => { results := [.lit (.bool true)], args := [d1, d2, d3] }
  | _ => none }
def holdTracksRow : OpenClaim := { program := "ytpddeihghjjmfaa", sum := "79616fae7addb47ec49bb5033cc71ac7cd227621594a5e4aa3bcf5f6c3c4dc78", func := "jointure/jointurelaw07.HoldTracks", spec := "holdTracks", inPlace := ["math/bits.Sub64", "math/bits.Add64"], unfollowed := true, recurses := true, apart := false }
def HoldTracksSaid : Prop := holdTracksRow.holds Try.pinned (OpenSpec.ofChange holdTracksSpec)

/-- ITS FALSE NEIGHBOUR: 'it returns false'. Refute it at one input. -/
def holdTracksWrong : ChangeSpec := { name := "holdTracks", fn := fun _ => fun
  | [d1, d2, d3] => { results := [.lit (.bool false)], args := [d1, d2, d3] }
  | _ => none }
def HoldTracksWrongFalsely : Prop := holdTracksRow.holds Try.pinned (OpenSpec.ofChange holdTracksWrong)

/-- 'jointurelaw07.HoldBacks': WHATEVER THE INPUT: true; the input reads as it did. -/
def holdBacksSpec : ChangeSpec := { name := "holdBacks", fn := fun _ => fun
  | [d1, d2] => { results := [.lit (.bool true)], args := [d1, d2] }
  | _ => none }
def holdBacksRow : OpenClaim := { program := "ytpddeihghjjmfaa", sum := "79616fae7addb47ec49bb5033cc71ac7cd227621594a5e4aa3bcf5f6c3c4dc78", func := "jointure/jointurelaw07.HoldBacks", spec := "holdBacks", inPlace := ["math/bits.Sub64", "math/bits.Add64"], unfollowed := true, recurses := true, apart := false }
def HoldBacksSaid : Prop := holdBacksRow.holds Try.pinned (OpenSpec.ofChange holdBacksSpec)

/-- ITS FALSE NEIGHBOUR: 'it returns false'. Refute it at one input. -/
def holdBacksWrong : ChangeSpec := { name := "holdBacks", fn := fun _ => fun
  | [d1, d2] => { results := [.lit (.bool false)], args := [d1, d2] }
  | _ => none }
def HoldBacksWrongFalsely : Prop := holdBacksRow.holds Try.pinned (OpenSpec.ofChange holdBacksWrong)

/-- 'jointurelaw07.HoldSpends': WHATEVER THE INPUT: true; the input reads as it did. -/
def holdSpendsSpec : ChangeSpec := { name := "holdSpends", fn := fun _ => fun
  | [d1, d2, d3] => { results := [.lit (.bool true)], args := [d1, d2, d3] }
  | _ => none }
def holdSpendsRow : OpenClaim := { program := "ytpddeihghjjmfaa", sum := "79616fae7addb47ec49bb5033cc71ac7cd227621594a5e4aa3bcf5f6c3c4dc78", func := "jointure/jointurelaw07.HoldSpends", spec := "holdSpends", inPlace := ["math/bits.Sub64", "math/bits.Add64"], unfollowed := true, recurses := true, apart := false }
def HoldSpendsSaid : Prop := holdSpendsRow.holds Try.pinned (OpenSpec.ofChange holdSpendsSpec)

/-- ITS FALSE NEIGHBOUR: 'it returns false'. Refute it at one input. -/
def holdSpendsWrong : ChangeSpec := { name := "holdSpends", fn := fun _ => fun
  | [d1, d2, d3] => { results := [.lit (.bool false)], args := [d1, d2, d3] }
  | _ => none }
def HoldSpendsWrongFalsely : Prop := holdSpendsRow.holds Try.pinned (OpenSpec.ofChange holdSpendsWrong)

/-- 'jointurelaw07.HoldAll': WHATEVER THE INPUT: true; the input reads as it did. -/
def holdAllSpec : ChangeSpec := { name := "holdAll", fn := fun _ => fun
  | [d1, d2, d3] => { results := [.lit (.bool true)], args := [d1, d2, d3] }
  | _ => none }
def holdAllRow : OpenClaim := { program := "ytpddeihghjjmfaa", sum := "79616fae7addb47ec49bb5033cc71ac7cd227621594a5e4aa3bcf5f6c3c4dc78", func := "jointure/jointurelaw07.HoldAll", spec := "holdAll", inPlace := ["math/bits.Sub64", "math/bits.Add64"], unfollowed := true, recurses := true, apart := false }
def HoldAllSaid : Prop := holdAllRow.holds Try.pinned (OpenSpec.ofChange holdAllSpec)

/-- ITS FALSE NEIGHBOUR: 'it returns false'. Refute it at one input. -/
def holdAllWrong : ChangeSpec := { name := "holdAll", fn := fun _ => fun
  | [d1, d2, d3] => { results := [.lit (.bool false)], args := [d1, d2, d3] }
  | _ => none }
def HoldAllWrongFalsely : Prop := holdAllRow.holds Try.pinned (OpenSpec.ofChange holdAllWrong)

/-- 'jointurelaw07.HoldHolds': WHATEVER THE INPUT: true; the input reads as it did. -/
def holdHoldsSpec : ChangeSpec := { name := "holdHolds", fn := fun _ => fun
  | [d1, d2, d3, d4] => { results := [.lit (.bool true)], args := [d1, d2, d3, d4] }
  | _ => none }
def holdHoldsRow : OpenClaim := { program := "ytpddeihghjjmfaa", sum := "79616fae7addb47ec49bb5033cc71ac7cd227621594a5e4aa3bcf5f6c3c4dc78", func := "jointure/jointurelaw07.HoldHolds", spec := "holdHolds", inPlace := ["math/bits.Sub64", "math/bits.Add64"], unfollowed := true, recurses := true, apart := false }
def HoldHoldsSaid : Prop := holdHoldsRow.holds Try.pinned (OpenSpec.ofChange holdHoldsSpec)

/-- ITS FALSE NEIGHBOUR: 'it returns false'. Refute it at one input. -/
def holdHoldsWrong : ChangeSpec := { name := "holdHolds", fn := fun _ => fun
  | [d1, d2, d3, d4] => { results := [.lit (.bool false)], args := [d1, d2, d3, d4] }
  | _ => none }
def HoldHoldsWrongFalsely : Prop := holdHoldsRow.holds Try.pinned (OpenSpec.ofChange holdHoldsWrong)

/- THE SECOND FORM. 'bulk': how many values and letters a reading holds, each counted each time it is reached (what is shared counts as often as it is met; a slice's spare places count too). A statement '..UptoSaid' is the law's where the arguments, and the package variables that the reading takes, are together of bulk at most 1048576: NARROWER than '..Said'. Prove '..Said' where nothing that the law and all that it calls make is longer than what came in: it says more and counts as full. Else prove '..UptoSaid'. A law counts once. -/
mutual
def uptoBulk {H : Type} : DataW H → Nat
  | .lit (.string bytes) => bytes.length + 1
  | .lit _ => 1
  | .nil => 1
  | .ptr d => uptoBulk d + 1
  | .slice elems spare => uptoBulkAll elems + uptoBulkAll spare + 1
  | .agg parts => uptoBulkAll parts + 1
  | .iface _ d => uptoBulk d + 1
  | .map entries => uptoBulkEntries entries + 1
  | .held _ => 1
def uptoBulkAll {H : Type} : List (DataW H) → Nat
  | [] => 0
  | d :: r => uptoBulk d + uptoBulkAll r
def uptoBulkEntries {H : Type} : List (Lit × DataW H) → Nat
  | [] => 0
  | x :: r => uptoBulkEntry x + uptoBulkEntries r
def uptoBulkEntry {H : Type} : Lit × DataW H → Nat
  | (.string bytes, d) => bytes.length + uptoBulk d + 1
  | (_, d) => uptoBulk d + 1
 end
def uptoSmall : (H : Type) → List (DataW H) → Bool := fun _ ds => decide (uptoBulkAll ds ≤ 1048576)
def OpenSpec.upto (s : _root_.Go.ChangeSpec) : _root_.Go.OpenSpec := { _root_.Go.OpenSpec.ofChange s with cond := some uptoSmall }

/-- 'jointurelaw07.HoldTracks', WHERE WHAT IT READS IS OF BULK AT MOST 1048576: true; the input reads as it did. -/
def holdTracksUptoRow : OpenClaim := { program := "ytpddeihghjjmfaa", sum := "79616fae7addb47ec49bb5033cc71ac7cd227621594a5e4aa3bcf5f6c3c4dc78", func := "jointure/jointurelaw07.HoldTracks", spec := "holdTracks", inPlace := ["math/bits.Sub64", "math/bits.Add64"], unfollowed := true, recurses := true, apart := false, narrowed := true }
def HoldTracksUptoSaid : Prop := holdTracksUptoRow.holds Try.pinned (OpenSpec.upto holdTracksSpec)

/-- 'jointurelaw07.HoldBacks', WHERE WHAT IT READS IS OF BULK AT MOST 1048576: true; the input reads as it did. -/
def holdBacksUptoRow : OpenClaim := { program := "ytpddeihghjjmfaa", sum := "79616fae7addb47ec49bb5033cc71ac7cd227621594a5e4aa3bcf5f6c3c4dc78", func := "jointure/jointurelaw07.HoldBacks", spec := "holdBacks", inPlace := ["math/bits.Sub64", "math/bits.Add64"], unfollowed := true, recurses := true, apart := false, narrowed := true }
def HoldBacksUptoSaid : Prop := holdBacksUptoRow.holds Try.pinned (OpenSpec.upto holdBacksSpec)

/-- 'jointurelaw07.HoldSpends', WHERE WHAT IT READS IS OF BULK AT MOST 1048576: true; the input reads as it did. -/
def holdSpendsUptoRow : OpenClaim := { program := "ytpddeihghjjmfaa", sum := "79616fae7addb47ec49bb5033cc71ac7cd227621594a5e4aa3bcf5f6c3c4dc78", func := "jointure/jointurelaw07.HoldSpends", spec := "holdSpends", inPlace := ["math/bits.Sub64", "math/bits.Add64"], unfollowed := true, recurses := true, apart := false, narrowed := true }
def HoldSpendsUptoSaid : Prop := holdSpendsUptoRow.holds Try.pinned (OpenSpec.upto holdSpendsSpec)

/-- 'jointurelaw07.HoldAll', WHERE WHAT IT READS IS OF BULK AT MOST 1048576: true; the input reads as it did. -/
def holdAllUptoRow : OpenClaim := { program := "ytpddeihghjjmfaa", sum := "79616fae7addb47ec49bb5033cc71ac7cd227621594a5e4aa3bcf5f6c3c4dc78", func := "jointure/jointurelaw07.HoldAll", spec := "holdAll", inPlace := ["math/bits.Sub64", "math/bits.Add64"], unfollowed := true, recurses := true, apart := false, narrowed := true }
def HoldAllUptoSaid : Prop := holdAllUptoRow.holds Try.pinned (OpenSpec.upto holdAllSpec)

/-- 'jointurelaw07.HoldHolds', WHERE WHAT IT READS IS OF BULK AT MOST 1048576: true; the input reads as it did. -/
def holdHoldsUptoRow : OpenClaim := { program := "ytpddeihghjjmfaa", sum := "79616fae7addb47ec49bb5033cc71ac7cd227621594a5e4aa3bcf5f6c3c4dc78", func := "jointure/jointurelaw07.HoldHolds", spec := "holdHolds", inPlace := ["math/bits.Sub64", "math/bits.Add64"], unfollowed := true, recurses := true, apart := false, narrowed := true }
def HoldHoldsUptoSaid : Prop := holdHoldsUptoRow.holds Try.pinned (OpenSpec.upto holdHoldsSpec)

end Rows
end Go.Proofs.Ytpddeihghjjmfaa
