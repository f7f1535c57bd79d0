/-
  No cell of these rows narrows 'for every input' (looked for: loops, veiled, ifaces, maps, wideKeys, modest, calm, conditions, laid).
  DERIVED. THE GIVEN ROWS OF THIS SEAT. 7 by the template 'for every input the law returns true; each argument reads behind the call as it read before'; 0 by the template 'total and deterministic' (their statements: YtcpnmdpnpphfnaaTotals.lean).
  GIVEN WITH THE SEED: the statements are not yours to turn. If you find one false, say at which input.
  Laid BY PROGRAM, IN A SANDBOX (cutbox-rows.mjs): the forced cells as the released guide's own fill.sh prints them over the translation 891781577ccb60d5… (all of the seat's roots in one cut). By AI agents, Wed Nov 11 2026. No macro, syntax, notation, axiom, sorry.
-/
import Derived.Test.YtcpnmdpnpphfnaaChecked
import GoSem.Claim
import GoSem.ClaimJoined
import GoSem.ClaimMapViews
import Derived.JoinedTies
import Derived.KernelRfl
namespace Go.Proofs.Ytcpnmdpnpphfnaa
/- THE CELL 'sum', in the pinned program and in every row, IS THE sha256 OF THE DUMP (.gsa) THAT YtcpnmdpnpphfnaaProg.lean LOADS. Nothing in Lean hashes anything: it is a label: what it is worth is what the hold of that sum in a sandbox is worth. -/
noncomputable def Try.pinned : Pinned := { name := "ytcpnmdpnpphfnaa", sum := "891781577ccb60d5e789b028d26b65a58da535cef254f370f371ebfa2cafb680", checked := Try.checked }
namespace Rows
def none {H : Type} : Left H := { results := [], args := [] }

/-- 'jointurelaw02.CoinsRights': WHATEVER THE INPUT: true; the input reads as it did. -/
def coinsRightsSpec : ChangeSpec := { name := "coinsRights", fn := fun _ => fun
  | [d] => { results := [.lit (.bool true)], args := [d] }
  | _ => none }
def coinsRightsRow : OpenClaim := { program := "ytcpnmdpnpphfnaa", sum := "891781577ccb60d5e789b028d26b65a58da535cef254f370f371ebfa2cafb680", func := "jointure/jointurelaw02.CoinsRights", spec := "coinsRights", inPlace := ["math/bits.Sub64"], unfollowed := true, recurses := true, apart := false }
def CoinsRightsSaid : Prop := coinsRightsRow.holds Try.pinned (OpenSpec.ofChange coinsRightsSpec)

/-- ITS FALSE NEIGHBOUR: 'it returns false'. Refute it at one input. -/
def coinsRightsWrong : ChangeSpec := { name := "coinsRights", fn := fun _ => fun
  | [d] => { results := [.lit (.bool false)], args := [d] }
  | _ => none }
def CoinsRightsWrongFalsely : Prop := coinsRightsRow.holds Try.pinned (OpenSpec.ofChange coinsRightsWrong)

/-- 'jointurelaw02.CoinsAmounts': WHATEVER THE INPUT: true; the input reads as it did. -/
def coinsAmountsSpec : ChangeSpec := { name := "coinsAmounts", fn := fun _ => fun
  | [d1, d2, d3] => { results := [.lit (.bool true)], args := [d1, d2, d3] }
  | _ => none }
def coinsAmountsRow : OpenClaim := { program := "ytcpnmdpnpphfnaa", sum := "891781577ccb60d5e789b028d26b65a58da535cef254f370f371ebfa2cafb680", func := "jointure/jointurelaw02.CoinsAmounts", spec := "coinsAmounts", inPlace := ["math/bits.Sub64"], unfollowed := true, recurses := true, apart := false }
def CoinsAmountsSaid : Prop := coinsAmountsRow.holds Try.pinned (OpenSpec.ofChange coinsAmountsSpec)

/-- ITS FALSE NEIGHBOUR: 'it returns false'. Refute it at one input. -/
def coinsAmountsWrong : ChangeSpec := { name := "coinsAmounts", fn := fun _ => fun
  | [d1, d2, d3] => { results := [.lit (.bool false)], args := [d1, d2, d3] }
  | _ => none }
def CoinsAmountsWrongFalsely : Prop := coinsAmountsRow.holds Try.pinned (OpenSpec.ofChange coinsAmountsWrong)

/-- 'jointurelaw02.CoinsAdds': WHATEVER THE INPUT: true; the input reads as it did. -/
def coinsAddsSpec : ChangeSpec := { name := "coinsAdds", fn := fun _ => fun
  | [d1, d2] => { results := [.lit (.bool true)], args := [d1, d2] }
  | _ => none }
def coinsAddsRow : OpenClaim := { program := "ytcpnmdpnpphfnaa", sum := "891781577ccb60d5e789b028d26b65a58da535cef254f370f371ebfa2cafb680", func := "jointure/jointurelaw02.CoinsAdds", spec := "coinsAdds", inPlace := ["math/bits.Sub64", "math/bits.Add64"], unfollowed := true, recurses := true, apart := false }
def CoinsAddsSaid : Prop := coinsAddsRow.holds Try.pinned (OpenSpec.ofChange coinsAddsSpec)

/-- ITS FALSE NEIGHBOUR: 'it returns false'. Refute it at one input. -/
def coinsAddsWrong : ChangeSpec := { name := "coinsAdds", fn := fun _ => fun
  | [d1, d2] => { results := [.lit (.bool false)], args := [d1, d2] }
  | _ => none }
def CoinsAddsWrongFalsely : Prop := coinsAddsRow.holds Try.pinned (OpenSpec.ofChange coinsAddsWrong)

/-- 'jointurelaw02.CoinsTakes': WHATEVER THE INPUT: true; the input reads as it did. -/
def coinsTakesSpec : ChangeSpec := { name := "coinsTakes", fn := fun _ => fun
  | [d1, d2] => { results := [.lit (.bool true)], args := [d1, d2] }
  | _ => none }
def coinsTakesRow : OpenClaim := { program := "ytcpnmdpnpphfnaa", sum := "891781577ccb60d5e789b028d26b65a58da535cef254f370f371ebfa2cafb680", func := "jointure/jointurelaw02.CoinsTakes", spec := "coinsTakes", inPlace := ["math/bits.Sub64"], unfollowed := true, recurses := true, apart := false }
def CoinsTakesSaid : Prop := coinsTakesRow.holds Try.pinned (OpenSpec.ofChange coinsTakesSpec)

/-- ITS FALSE NEIGHBOUR: 'it returns false'. Refute it at one input. -/
def coinsTakesWrong : ChangeSpec := { name := "coinsTakes", fn := fun _ => fun
  | [d1, d2] => { results := [.lit (.bool false)], args := [d1, d2] }
  | _ => none }
def CoinsTakesWrongFalsely : Prop := coinsTakesRow.holds Try.pinned (OpenSpec.ofChange coinsTakesWrong)

/-- 'jointurelaw02.CoinsBack': WHATEVER THE INPUT: true; the input reads as it did. -/
def coinsBackSpec : ChangeSpec := { name := "coinsBack", fn := fun _ => fun
  | [d1, d2] => { results := [.lit (.bool true)], args := [d1, d2] }
  | _ => none }
def coinsBackRow : OpenClaim := { program := "ytcpnmdpnpphfnaa", sum := "891781577ccb60d5e789b028d26b65a58da535cef254f370f371ebfa2cafb680", func := "jointure/jointurelaw02.CoinsBack", spec := "coinsBack", inPlace := ["math/bits.Sub64", "math/bits.Add64"], unfollowed := true, recurses := true, apart := false }
def CoinsBackSaid : Prop := coinsBackRow.holds Try.pinned (OpenSpec.ofChange coinsBackSpec)

/-- ITS FALSE NEIGHBOUR: 'it returns false'. Refute it at one input. -/
def coinsBackWrong : ChangeSpec := { name := "coinsBack", fn := fun _ => fun
  | [d1, d2] => { results := [.lit (.bool false)], args := [d1, d2] }
  | _ => none }
def CoinsBackWrongFalsely : Prop := coinsBackRow.holds Try.pinned (OpenSpec.ofChange coinsBackWrong)

/-- 'jointurelaw02.CoinsParts': WHATEVER THE INPUT: true; the input reads as it did. -/
def coinsPartsSpec : ChangeSpec := { name := "coinsParts", fn := fun _ => fun
  | [d1, d2] => { results := [.lit (.bool true)], args := [d1, d2] }
  | _ => none }
def coinsPartsRow : OpenClaim := { program := "ytcpnmdpnpphfnaa", sum := "891781577ccb60d5e789b028d26b65a58da535cef254f370f371ebfa2cafb680", func := "jointure/jointurelaw02.CoinsParts", spec := "coinsParts", inPlace := ["math/bits.Sub64", "math/bits.Add64"], unfollowed := true, recurses := true, apart := false }
def CoinsPartsSaid : Prop := coinsPartsRow.holds Try.pinned (OpenSpec.ofChange coinsPartsSpec)

/-- ITS FALSE NEIGHBOUR: 'it returns false'. Refute it at one input. -/
def coinsPartsWrong : ChangeSpec := { name := "coinsParts", fn := fun _ => fun
  | [d1, d2] => { results := [.lit (.bool false)], args := [d1, d2] }
  | _ => none }
def CoinsPartsWrongFalsely : Prop := coinsPartsRow.holds Try.pinned (OpenSpec.ofChange coinsPartsWrong)

/-- 'jointurelaw02.CoinsOwn': WHATEVER THE INPUT: true; the input reads as it did. -/
def coinsOwnSpec : ChangeSpec := { name := "coinsOwn", fn := fun _ => fun
  | [d1, d2, d3] => { results := [.lit (.bool true)], args := [d1, d2, d3] }
  | _ => none }
def coinsOwnRow : OpenClaim := { program := "ytcpnmdpnpphfnaa", sum := "891781577ccb60d5e789b028d26b65a58da535cef254f370f371ebfa2cafb680", func := "jointure/jointurelaw02.CoinsOwn", spec := "coinsOwn", inPlace := ["math/bits.Sub64", "math/bits.Add64"], unfollowed := true, recurses := true, apart := false }
def CoinsOwnSaid : Prop := coinsOwnRow.holds Try.pinned (OpenSpec.ofChange coinsOwnSpec)

/-- ITS FALSE NEIGHBOUR: 'it returns false'. Refute it at one input. -/
def coinsOwnWrong : ChangeSpec := { name := "coinsOwn", fn := fun _ => fun
  | [d1, d2, d3] => { results := [.lit (.bool false)], args := [d1, d2, d3] }
  | _ => none }
def CoinsOwnWrongFalsely : Prop := coinsOwnRow.holds Try.pinned (OpenSpec.ofChange coinsOwnWrong)

/- THE SECOND FORM. 'bulk': how many values and letters a reading holds, each counted each time it is reached (what is shared counts as often as it is met; a slice's spare places count too). A statement '..UptoSaid' is the law's where the arguments, and the package variables that the reading takes, are together of bulk at most 1048576: NARROWER than '..Said'. Prove '..Said' where nothing that the law and all that it calls make is longer than what came in: it says more and counts as full. Else prove '..UptoSaid'. A law counts once. -/
mutual
def uptoBulk {H : Type} : DataW H → Nat
  | .lit (.string bytes) => bytes.length + 1
  | .lit _ => 1
  | .nil => 1
  | .ptr d => uptoBulk d + 1
  | .slice elems spare => uptoBulkAll elems + uptoBulkAll spare + 1
  | .agg parts => uptoBulkAll parts + 1
  | .iface _ d => uptoBulk d + 1
  | .map entries => uptoBulkEntries entries + 1
  | .held _ => 1
def uptoBulkAll {H : Type} : List (DataW H) → Nat
  | [] => 0
  | d :: r => uptoBulk d + uptoBulkAll r
def uptoBulkEntries {H : Type} : List (Lit × DataW H) → Nat
  | [] => 0
  | x :: r => uptoBulkEntry x + uptoBulkEntries r
def uptoBulkEntry {H : Type} : Lit × DataW H → Nat
  | (.string bytes, d) => bytes.length + uptoBulk d + 1
  | (_, d) => uptoBulk d + 1
 end
def uptoSmall : (H : Type) → List (DataW H) → Bool := fun _ ds => decide (uptoBulkAll ds ≤ 1048576)
def OpenSpec.upto (s : _root_.Go.ChangeSpec) : _root_.Go.OpenSpec := { _root_.Go.OpenSpec.ofChange s with cond := some uptoSmall }

/-- 'jointurelaw02.CoinsRights', WHERE WHAT IT READS IS OF BULK AT MOST 1048576: true; the input reads as it did. -/
def coinsRightsUptoRow : OpenClaim := { program := "ytcpnmdpnpphfnaa", sum := "891781577ccb60d5e789b028d26b65a58da535cef254f370f371ebfa2cafb680", func := "jointure/jointurelaw02.CoinsRights", spec := "coinsRights", inPlace := ["math/bits.Sub64"], unfollowed := true, recurses := true, apart := false, narrowed := true }
def CoinsRightsUptoSaid : Prop := coinsRightsUptoRow.holds Try.pinned (OpenSpec.upto coinsRightsSpec)

/-- 'jointurelaw02.CoinsAmounts', WHERE WHAT IT READS IS OF BULK AT MOST 1048576: true; the input reads as it did. -/
def coinsAmountsUptoRow : OpenClaim := { program := "ytcpnmdpnpphfnaa", sum := "891781577ccb60d5e789b028d26b65a58da535cef254f370f371ebfa2cafb680", func := "jointure/jointurelaw02.CoinsAmounts", spec := "coinsAmounts", inPlace := ["math/bits.Sub64"], unfollowed := true, recurses := true, apart := false, narrowed := true }
def CoinsAmountsUptoSaid : Prop := coinsAmountsUptoRow.holds Try.pinned (OpenSpec.upto coinsAmountsSpec)

/-- 'jointurelaw02.CoinsAdds', WHERE WHAT IT READS IS OF BULK AT MOST 1048576: true; the input reads as it did. -/
def coinsAddsUptoRow : OpenClaim := { program := "ytcpnmdpnpphfnaa", sum := "891781577ccb60d5e789b028d26b65a58da535cef254f370f371ebfa2cafb680", func := "jointure/jointurelaw02.CoinsAdds", spec := "coinsAdds", inPlace := ["math/bits.Sub64", "math/bits.Add64"], unfollowed := true, recurses := true, apart := false, narrowed := true }
def CoinsAddsUptoSaid : Prop := coinsAddsUptoRow.holds Try.pinned (OpenSpec.upto coinsAddsSpec)

/-- 'jointurelaw02.CoinsTakes', WHERE WHAT IT READS IS OF BULK AT MOST 1048576: true; the input reads as it did. -/
def coinsTakesUptoRow : OpenClaim := { program := "ytcpnmdpnpphfnaa", sum := "891781577ccb60d5e789b028d26b65a58da535cef254f370f371ebfa2cafb680", func := "jointure/jointurelaw02.CoinsTakes", spec := "coinsTakes", inPlace := ["math/bits.Sub64"], unfollowed := true, recurses := true, apart := false, narrowed := true }
def CoinsTakesUptoSaid : Prop := coinsTakesUptoRow.holds Try.pinned (OpenSpec.upto coinsTakesSpec)

/-- 'jointurelaw02.CoinsBack', WHERE WHAT IT READS IS OF BULK AT MOST 1048576: true; the input reads as it did. -/
def coinsBackUptoRow : OpenClaim := { program := "ytcpnmdpnpphfnaa", sum := "891781577ccb60d5e789b028d26b65a58da535cef254f370f371ebfa2cafb680", func := "jointure/jointurelaw02.CoinsBack", spec := "coinsBack", inPlace := ["math/bits.Sub64", "math/bits.Add64"], unfollowed := true, recurses := true, apart := false, narrowed := true }
def CoinsBackUptoSaid : Prop := coinsBackUptoRow.holds Try.pinned (OpenSpec.upto coinsBackSpec)

/-- 'jointurelaw02.CoinsParts', WHERE WHAT IT READS IS OF BULK AT MOST 1048576: true; the input reads as it did. -/
def coinsPartsUptoRow : OpenClaim := { program := "ytcpnmdpnpphfnaa", sum := "891781577ccb60d5e789b028d26b65a58da535cef254f370f371ebfa2cafb680", func := "jointure/jointurelaw02.CoinsParts", spec := "coinsParts", inPlace := ["math/bits.Sub64", "math/bits.Add64"], unfollowed := true, recurses := true, apart := false, narrowed := true }
def CoinsPartsUptoSaid : Prop := coinsPartsUptoRow.holds Try.pinned (OpenSpec.upto coinsPartsSpec)

/-- 'jointurelaw02.CoinsOwn', WHERE WHAT IT READS IS OF BULK AT MOST 1048576: true; the input reads as it did. -/
def coinsOwnUptoRow : OpenClaim := { program := "ytcpnmdpnpphfnaa", sum := "891781577ccb60d5e789b028d26b65a58da535cef254f370f371ebfa2cafb680", func := "jointure/jointurelaw02.CoinsOwn", spec := "coinsOwn", inPlace := ["math/bits.Sub64", "math/bits.Add64"], unfollowed := true, recurses := true, apart := false, narrowed := true }
def CoinsOwnUptoSaid : Prop := coinsOwnUptoRow.holds Try.pinned (OpenSpec.upto coinsOwnSpec)

end Rows
end Go.Proofs.Ytcpnmdpnpphfnaa
