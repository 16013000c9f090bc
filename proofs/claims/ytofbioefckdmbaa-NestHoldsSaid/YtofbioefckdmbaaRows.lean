/-
  No cell of these rows narrows 'for every input' (looked for: loops, veiled, ifaces, maps, wideKeys, modest, calm, conditions, laid).
  DERIVED. THE GIVEN ROWS OF THIS SEAT. 7 by the template 'for every input the law returns true; each argument reads behind the call as it read before'; 0 by the template 'total and deterministic' (their statements: YtofbioefckdmbaaTotals.lean).
  GIVEN WITH THE SEED: the statements are not yours to turn. If you find one false, say at which input.
  Laid BY PROGRAM, IN A SANDBOX (cutbox-rows.mjs): the forced cells as the released guide's own fill.sh prints them over the translation 9b5ecb5c4e17878f… (all of the seat's roots in one cut). By AI agents, Wed Nov 11 2026. No macro, syntax, notation, axiom, sorry.
-/
import Derived.Test.YtofbioefckdmbaaChecked
import GoSem.Claim
import GoSem.ClaimJoined
import GoSem.ClaimMapViews
import Derived.JoinedTies
import Derived.KernelRfl
namespace Go.Proofs.Ytofbioefckdmbaa
/- THE CELL 'sum', in the pinned program and in every row, IS THE sha256 OF THE DUMP (.gsa) THAT YtofbioefckdmbaaProg.lean LOADS. Nothing in Lean hashes anything: it is a label: what it is worth is what the hold of that sum in a sandbox is worth. -/
noncomputable def Try.pinned : Pinned := { name := "ytofbioefckdmbaa", sum := "9b5ecb5c4e17878f4f333dd85b578b6649bf1695b7a7802d84ad12e2941fad1f", checked := Try.checked }
namespace Rows
def none {H : Type} : Left H := { results := [], args := [] }

/-- 'jetwaylaw14.NestLimits': WHATEVER THE INPUT: true; the input reads as it did. -/
def nestLimitsSpec : ChangeSpec := { name := "nestLimits", fn := fun _ => fun
  | [d1, d2] => { results := [.lit (.bool true)], args := [d1, d2] }
  | _ => none }
def nestLimitsRow : OpenClaim := { program := "ytofbioefckdmbaa", sum := "9b5ecb5c4e17878f4f333dd85b578b6649bf1695b7a7802d84ad12e2941fad1f", func := "jetway/jetwaylaw14.NestLimits", spec := "nestLimits", unfollowed := true, recurses := true, apart := false }
def NestLimitsSaid : Prop := nestLimitsRow.holds Try.pinned (OpenSpec.ofChange nestLimitsSpec)

/-- ITS FALSE NEIGHBOUR: 'it returns false'. Refute it at one input. -/
def nestLimitsWrong : ChangeSpec := { name := "nestLimits", fn := fun _ => fun
  | [d1, d2] => { results := [.lit (.bool false)], args := [d1, d2] }
  | _ => none }
def NestLimitsWrongFalsely : Prop := nestLimitsRow.holds Try.pinned (OpenSpec.ofChange nestLimitsWrong)

/-- 'jetwaylaw14.NestTells': WHATEVER THE INPUT: true; the input reads as it did. -/
def nestTellsSpec : ChangeSpec := { name := "nestTells", fn := fun _ => fun
  | [d1, d2, d3] => { results := [.lit (.bool true)], args := [d1, d2, d3] }
  | _ => none }
def nestTellsRow : OpenClaim := { program := "ytofbioefckdmbaa", sum := "9b5ecb5c4e17878f4f333dd85b578b6649bf1695b7a7802d84ad12e2941fad1f", func := "jetway/jetwaylaw14.NestTells", spec := "nestTells", unfollowed := true, recurses := true, apart := false }
def NestTellsSaid : Prop := nestTellsRow.holds Try.pinned (OpenSpec.ofChange nestTellsSpec)

/-- ITS FALSE NEIGHBOUR: 'it returns false'. Refute it at one input. -/
def nestTellsWrong : ChangeSpec := { name := "nestTells", fn := fun _ => fun
  | [d1, d2, d3] => { results := [.lit (.bool false)], args := [d1, d2, d3] }
  | _ => none }
def NestTellsWrongFalsely : Prop := nestTellsRow.holds Try.pinned (OpenSpec.ofChange nestTellsWrong)

/-- 'jetwaylaw14.NestSells': WHATEVER THE INPUT: true; the input reads as it did. -/
def nestSellsSpec : ChangeSpec := { name := "nestSells", fn := fun _ => fun
  | [d1, d2, d3] => { results := [.lit (.bool true)], args := [d1, d2, d3] }
  | _ => none }
def nestSellsRow : OpenClaim := { program := "ytofbioefckdmbaa", sum := "9b5ecb5c4e17878f4f333dd85b578b6649bf1695b7a7802d84ad12e2941fad1f", func := "jetway/jetwaylaw14.NestSells", spec := "nestSells", unfollowed := true, recurses := true, apart := false }
def NestSellsSaid : Prop := nestSellsRow.holds Try.pinned (OpenSpec.ofChange nestSellsSpec)

/-- ITS FALSE NEIGHBOUR: 'it returns false'. Refute it at one input. -/
def nestSellsWrong : ChangeSpec := { name := "nestSells", fn := fun _ => fun
  | [d1, d2, d3] => { results := [.lit (.bool false)], args := [d1, d2, d3] }
  | _ => none }
def NestSellsWrongFalsely : Prop := nestSellsRow.holds Try.pinned (OpenSpec.ofChange nestSellsWrong)

/-- 'jetwaylaw14.NestHolds': WHATEVER THE INPUT: true; the input reads as it did. -/
def nestHoldsSpec : ChangeSpec := { name := "nestHolds", fn := fun _ => fun
  | [d1, d2] => { results := [.lit (.bool true)], args := [d1, d2] }
  | _ => none }
def nestHoldsRow : OpenClaim := { program := "ytofbioefckdmbaa", sum := "9b5ecb5c4e17878f4f333dd85b578b6649bf1695b7a7802d84ad12e2941fad1f", func := "jetway/jetwaylaw14.NestHolds", spec := "nestHolds", unfollowed := true, recurses := true, apart := false }
def NestHoldsSaid : Prop := nestHoldsRow.holds Try.pinned (OpenSpec.ofChange nestHoldsSpec)

/-- ITS FALSE NEIGHBOUR: 'it returns false'. Refute it at one input. -/
def nestHoldsWrong : ChangeSpec := { name := "nestHolds", fn := fun _ => fun
  | [d1, d2] => { results := [.lit (.bool false)], args := [d1, d2] }
  | _ => none }
def NestHoldsWrongFalsely : Prop := nestHoldsRow.holds Try.pinned (OpenSpec.ofChange nestHoldsWrong)

/-- 'jetwaylaw14.NestReturns': WHATEVER THE INPUT: true; the input reads as it did. -/
def nestReturnsSpec : ChangeSpec := { name := "nestReturns", fn := fun _ => fun
  | [d1, d2, d3] => { results := [.lit (.bool true)], args := [d1, d2, d3] }
  | _ => none }
def nestReturnsRow : OpenClaim := { program := "ytofbioefckdmbaa", sum := "9b5ecb5c4e17878f4f333dd85b578b6649bf1695b7a7802d84ad12e2941fad1f", func := "jetway/jetwaylaw14.NestReturns", spec := "nestReturns", unfollowed := true, recurses := true, apart := false }
def NestReturnsSaid : Prop := nestReturnsRow.holds Try.pinned (OpenSpec.ofChange nestReturnsSpec)

/-- ITS FALSE NEIGHBOUR: 'it returns false'. Refute it at one input. -/
def nestReturnsWrong : ChangeSpec := { name := "nestReturns", fn := fun _ => fun
  | [d1, d2, d3] => { results := [.lit (.bool false)], args := [d1, d2, d3] }
  | _ => none }
def NestReturnsWrongFalsely : Prop := nestReturnsRow.holds Try.pinned (OpenSpec.ofChange nestReturnsWrong)

/-- 'jetwaylaw14.NestFalls': WHATEVER THE INPUT: true; the input reads as it did. -/
def nestFallsSpec : ChangeSpec := { name := "nestFalls", fn := fun _ => fun
  | [d1, d2] => { results := [.lit (.bool true)], args := [d1, d2] }
  | _ => none }
def nestFallsRow : OpenClaim := { program := "ytofbioefckdmbaa", sum := "9b5ecb5c4e17878f4f333dd85b578b6649bf1695b7a7802d84ad12e2941fad1f", func := "jetway/jetwaylaw14.NestFalls", spec := "nestFalls", unfollowed := true, recurses := true, apart := false }
def NestFallsSaid : Prop := nestFallsRow.holds Try.pinned (OpenSpec.ofChange nestFallsSpec)

/-- ITS FALSE NEIGHBOUR: 'it returns false'. Refute it at one input. -/
def nestFallsWrong : ChangeSpec := { name := "nestFalls", fn := fun _ => fun
  | [d1, d2] => { results := [.lit (.bool false)], args := [d1, d2] }
  | _ => none }
def NestFallsWrongFalsely : Prop := nestFallsRow.holds Try.pinned (OpenSpec.ofChange nestFallsWrong)

/-- 'jetwaylaw14.NestOther': WHATEVER THE INPUT: true; the input reads as it did. -/
def nestOtherSpec : ChangeSpec := { name := "nestOther", fn := fun _ => fun
  | [d1, d2, d3] => { results := [.lit (.bool true)], args := [d1, d2, d3] }
  | _ => none }
def nestOtherRow : OpenClaim := { program := "ytofbioefckdmbaa", sum := "9b5ecb5c4e17878f4f333dd85b578b6649bf1695b7a7802d84ad12e2941fad1f", func := "jetway/jetwaylaw14.NestOther", spec := "nestOther", unfollowed := true, recurses := true, apart := false }
def NestOtherSaid : Prop := nestOtherRow.holds Try.pinned (OpenSpec.ofChange nestOtherSpec)

/-- ITS FALSE NEIGHBOUR: 'it returns false'. Refute it at one input. -/
def nestOtherWrong : ChangeSpec := { name := "nestOther", fn := fun _ => fun
  | [d1, d2, d3] => { results := [.lit (.bool false)], args := [d1, d2, d3] }
  | _ => none }
def NestOtherWrongFalsely : Prop := nestOtherRow.holds Try.pinned (OpenSpec.ofChange nestOtherWrong)

/- THE SECOND FORM. 'bulk': how many values and letters a reading holds, each counted each time it is reached (what is shared counts as often as it is met; a slice's spare places count too). A statement '..UptoSaid' is the law's where the arguments, and the package variables that the reading takes, are together of bulk at most 1048576: NARROWER than '..Said'. Prove '..Said' where nothing that the law and all that it calls make is longer than what came in: it says more and counts as full. Else prove '..UptoSaid'. A law counts once. -/
mutual
def uptoBulk {H : Type} : DataW H → Nat
  | .lit (.string bytes) => bytes.length + 1
  | .lit _ => 1
  | .nil => 1
  | .ptr d => uptoBulk d + 1
  | .slice elems spare => uptoBulkAll elems + uptoBulkAll spare + 1
  | .agg parts => uptoBulkAll parts + 1
  | .iface _ d => uptoBulk d + 1
  | .map entries => uptoBulkEntries entries + 1
  | .held _ => 1
def uptoBulkAll {H : Type} : List (DataW H) → Nat
  | [] => 0
  | d :: r => uptoBulk d + uptoBulkAll r
def uptoBulkEntries {H : Type} : List (Lit × DataW H) → Nat
  | [] => 0
  | x :: r => uptoBulkEntry x + uptoBulkEntries r
def uptoBulkEntry {H : Type} : Lit × DataW H → Nat
  | (.string bytes, d) => bytes.length + uptoBulk d + 1
  | (_, d) => uptoBulk d + 1
 end
def uptoSmall : (H : Type) → List (DataW H) → Bool := fun _ ds => decide (uptoBulkAll ds ≤ 1048576)
def OpenSpec.upto (s : _root_.Go.ChangeSpec) : _root_.Go.OpenSpec := { _root_.Go.OpenSpec.ofChange s with cond := some uptoSmall }

/-- 'jetwaylaw14.NestLimits', WHERE WHAT IT READS IS OF BULK AT MOST 1048576: true; the input reads as it did. -/
def nestLimitsUptoRow : OpenClaim := { program := "ytofbioefckdmbaa", sum := "9b5ecb5c4e17878f4f333dd85b578b6649bf1695b7a7802d84ad12e2941fad1f", func := "jetway/jetwaylaw14.NestLimits", spec := "nestLimits", unfollowed := true, recurses := true, apart := false, narrowed := true }
def NestLimitsUptoSaid : Prop := nestLimitsUptoRow.holds Try.pinned (OpenSpec.upto nestLimitsSpec)

/-- 'jetwaylaw14.NestTells', WHERE WHAT IT READS IS OF BULK AT MOST 1048576: true; the input reads as it did. -/
def nestTellsUptoRow : OpenClaim := { program := "ytofbioefckdmbaa", sum := "9b5ecb5c4e17878f4f333dd85b578b6649bf1695b7a7802d84ad12e2941fad1f", func := "jetway/jetwaylaw14.NestTells", spec := "nestTells", unfollowed := true, recurses := true, apart := false, narrowed := true }
def NestTellsUptoSaid : Prop := nestTellsUptoRow.holds Try.pinned (OpenSpec.upto nestTellsSpec)

/-- 'jetwaylaw14.NestSells', WHERE WHAT IT READS IS OF BULK AT MOST 1048576: true; the input reads as it did. -/
def nestSellsUptoRow : OpenClaim := { program := "ytofbioefckdmbaa", sum := "9b5ecb5c4e17878f4f333dd85b578b6649bf1695b7a7802d84ad12e2941fad1f", func := "jetway/jetwaylaw14.NestSells", spec := "nestSells", unfollowed := true, recurses := true, apart := false, narrowed := true }
def NestSellsUptoSaid : Prop := nestSellsUptoRow.holds Try.pinned (OpenSpec.upto nestSellsSpec)

/-- 'jetwaylaw14.NestHolds', WHERE WHAT IT READS IS OF BULK AT MOST 1048576: true; the input reads as it did. -/
def nestHoldsUptoRow : OpenClaim := { program := "ytofbioefckdmbaa", sum := "9b5ecb5c4e17878f4f333dd85b578b6649bf1695b7a7802d84ad12e2941fad1f", func := "jetway/jetwaylaw14.NestHolds", spec := "nestHolds", unfollowed := true, recurses := true, apart := false, narrowed := true }
def NestHoldsUptoSaid : Prop := nestHoldsUptoRow.holds Try.pinned (OpenSpec.upto nestHoldsSpec)

/-- 'jetwaylaw14.NestReturns', WHERE WHAT IT READS IS OF BULK AT MOST 1048576: true; the input reads as it did. -/
def nestReturnsUptoRow : OpenClaim := { program := "ytofbioefckdmbaa", sum := "9b5ecb5c4e17878f4f333dd85b578b6649bf1695b7a7802d84ad12e2941fad1f", func := "jetway/jetwaylaw14.NestReturns", spec := "nestReturns", unfollowed := true, recurses := true, apart := false, narrowed := true }
def NestReturnsUptoSaid : Prop := nestReturnsUptoRow.holds Try.pinned (OpenSpec.upto nestReturnsSpec)

/-- 'jetwaylaw14.NestFalls', WHERE WHAT IT READS IS OF BULK AT MOST 1048576: true; the input reads as it did. -/
def nestFallsUptoRow : OpenClaim := { program := "ytofbioefckdmbaa", sum := "9b5ecb5c4e17878f4f333dd85b578b6649bf1695b7a7802d84ad12e2941fad1f", func := "jetway/jetwaylaw14.NestFalls", spec := "nestFalls", unfollowed := true, recurses := true, apart := false, narrowed := true }
def NestFallsUptoSaid : Prop := nestFallsUptoRow.holds Try.pinned (OpenSpec.upto nestFallsSpec)

/-- 'jetwaylaw14.NestOther', WHERE WHAT IT READS IS OF BULK AT MOST 1048576: true; the input reads as it did. -/
def nestOtherUptoRow : OpenClaim := { program := "ytofbioefckdmbaa", sum := "9b5ecb5c4e17878f4f333dd85b578b6649bf1695b7a7802d84ad12e2941fad1f", func := "jetway/jetwaylaw14.NestOther", spec := "nestOther", unfollowed := true, recurses := true, apart := false, narrowed := true }
def NestOtherUptoSaid : Prop := nestOtherUptoRow.holds Try.pinned (OpenSpec.upto nestOtherSpec)

end Rows
end Go.Proofs.Ytofbioefckdmbaa
