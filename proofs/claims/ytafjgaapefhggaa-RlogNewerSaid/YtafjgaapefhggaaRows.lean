/-
  No cell of these rows narrows 'for every input' (looked for: loops, veiled, ifaces, maps, wideKeys, modest, calm, conditions, laid).
  DERIVED. THE GIVEN ROWS OF THIS SEAT. 7 by the template 'for every input the law returns true; each argument reads behind the call as it read before'; 0 by the template 'total and deterministic' (their statements: YtafjgaapefhggaaTotals.lean).
  GIVEN WITH THE SEED: the statements are not yours to turn. If you find one false, say at which input.
  Laid BY PROGRAM, IN A SANDBOX (cutbox-rows.mjs): the forced cells as the released guide's own fill.sh prints them over the translation 3a7ee507646986a4… (all of the seat's roots in one cut). By AI agents, Wed Nov 11 2026. No macro, syntax, notation, axiom, sorry.
-/
import Derived.Test.YtafjgaapefhggaaChecked
import GoSem.Claim
import GoSem.ClaimJoined
import GoSem.ClaimMapViews
import Derived.JoinedTies
import Derived.KernelRfl
namespace Go.Proofs.Ytafjgaapefhggaa
/- THE CELL 'sum', in the pinned program and in every row, IS THE sha256 OF THE DUMP (.gsa) THAT YtafjgaapefhggaaProg.lean LOADS. Nothing in Lean hashes anything: it is a label: what it is worth is what the hold of that sum in a sandbox is worth. -/
noncomputable def Try.pinned : Pinned := { name := "ytafjgaapefhggaa", sum := "3a7ee507646986a46df1c85e9c19095cf58ba4d1ee5b8c74e56a9d06016e3bed", checked := Try.checked }
namespace Rows
def none {H : Type} : Left H := { results := [], args := [] }

/-- 'jetwaylaw08.RlogNews': WHATEVER THE INPUT: true; the input reads as it did. -/
def rlogNewsSpec : ChangeSpec := { name := "rlogNews", fn := fun _ => fun
  | [d1, d2] => { results := [.lit (.bool true)], args := [d1, d2] }
  | _ => none }
def rlogNewsRow : OpenClaim := { program := "ytafjgaapefhggaa", sum := "3a7ee507646986a46df1c85e9c19095cf58ba4d1ee5b8c74e56a9d06016e3bed", func := "jetway/jetwaylaw08.RlogNews", spec := "rlogNews", apart := false }
def RlogNewsSaid : Prop := rlogNewsRow.holds Try.pinned (OpenSpec.ofChange rlogNewsSpec)

/-- ITS FALSE NEIGHBOUR: 'it returns false'. Refute it at one input. -/
def rlogNewsWrong : ChangeSpec := { name := "rlogNews", fn := fun _ => fun
  | [d1, d2] => { results := [.lit (.bool false)], args := [d1, d2] }
  | _ => none }
def RlogNewsWrongFalsely : Prop := rlogNewsRow.holds Try.pinned (OpenSpec.ofChange rlogNewsWrong)

/-- 'jetwaylaw08.RlogScripts': WHATEVER THE INPUT: true; the input reads as it did. -/
def rlogScriptsSpec : ChangeSpec := { name := "rlogScripts", fn := fun _ => fun
  | [d1, d2] => { results := [.lit (.bool true)], args := [d1, d2] }
  | _ => none }
def rlogScriptsRow : OpenClaim := { program := "ytafjgaapefhggaa", sum := "3a7ee507646986a46df1c85e9c19095cf58ba4d1ee5b8c74e56a9d06016e3bed", func := "jetway/jetwaylaw08.RlogScripts", spec := "rlogScripts", unfollowed := true, recurses := true, apart := false }
def RlogScriptsSaid : Prop := rlogScriptsRow.holds Try.pinned (OpenSpec.ofChange rlogScriptsSpec)

/-- ITS FALSE NEIGHBOUR: 'it returns false'. Refute it at one input. -/
def rlogScriptsWrong : ChangeSpec := { name := "rlogScripts", fn := fun _ => fun
  | [d1, d2] => { results := [.lit (.bool false)], args := [d1, d2] }
  | _ => none }
def RlogScriptsWrongFalsely : Prop := rlogScriptsRow.holds Try.pinned (OpenSpec.ofChange rlogScriptsWrong)

/-- 'jetwaylaw08.RlogAsks': WHATEVER THE INPUT: true; the input reads as it did. -/
def rlogAsksSpec : ChangeSpec := { name := "rlogAsks", fn := fun _ => fun
  | [d1, d2] => { results := [.lit (.bool true)], args := [d1, d2] }
  | _ => none }
def rlogAsksRow : OpenClaim := { program := "ytafjgaapefhggaa", sum := "3a7ee507646986a46df1c85e9c19095cf58ba4d1ee5b8c74e56a9d06016e3bed", func := "jetway/jetwaylaw08.RlogAsks", spec := "rlogAsks", unfollowed := true, recurses := true, apart := false }
def RlogAsksSaid : Prop := rlogAsksRow.holds Try.pinned (OpenSpec.ofChange rlogAsksSpec)

/-- ITS FALSE NEIGHBOUR: 'it returns false'. Refute it at one input. -/
def rlogAsksWrong : ChangeSpec := { name := "rlogAsks", fn := fun _ => fun
  | [d1, d2] => { results := [.lit (.bool false)], args := [d1, d2] }
  | _ => none }
def RlogAsksWrongFalsely : Prop := rlogAsksRow.holds Try.pinned (OpenSpec.ofChange rlogAsksWrong)

/-- 'jetwaylaw08.RlogKept': WHATEVER THE INPUT: true; the input reads as it did. -/
def rlogKeptSpec : ChangeSpec := { name := "rlogKept", fn := fun _ => fun
  | [d] => { results := [.lit (.bool true)], args := [d] }
  | _ => none }
def rlogKeptRow : OpenClaim := { program := "ytafjgaapefhggaa", sum := "3a7ee507646986a46df1c85e9c19095cf58ba4d1ee5b8c74e56a9d06016e3bed", func := "jetway/jetwaylaw08.RlogKept", spec := "rlogKept", unfollowed := true, recurses := true, apart := false }
def RlogKeptSaid : Prop := rlogKeptRow.holds Try.pinned (OpenSpec.ofChange rlogKeptSpec)

/-- ITS FALSE NEIGHBOUR: 'it returns false'. Refute it at one input. -/
def rlogKeptWrong : ChangeSpec := { name := "rlogKept", fn := fun _ => fun
  | [d] => { results := [.lit (.bool false)], args := [d] }
  | _ => none }
def RlogKeptWrongFalsely : Prop := rlogKeptRow.holds Try.pinned (OpenSpec.ofChange rlogKeptWrong)

/-- 'jetwaylaw08.RlogMerged': WHATEVER THE INPUT: true; the input reads as it did. -/
def rlogMergedSpec : ChangeSpec := { name := "rlogMerged", fn := fun _ => fun
  | [d1, d2] => { results := [.lit (.bool true)], args := [d1, d2] }
  | _ => none }
def rlogMergedRow : OpenClaim := { program := "ytafjgaapefhggaa", sum := "3a7ee507646986a46df1c85e9c19095cf58ba4d1ee5b8c74e56a9d06016e3bed", func := "jetway/jetwaylaw08.RlogMerged", spec := "rlogMerged", unfollowed := true, recurses := true, apart := false }
def RlogMergedSaid : Prop := rlogMergedRow.holds Try.pinned (OpenSpec.ofChange rlogMergedSpec)

/-- ITS FALSE NEIGHBOUR: 'it returns false'. Refute it at one input. -/
def rlogMergedWrong : ChangeSpec := { name := "rlogMerged", fn := fun _ => fun
  | [d1, d2] => { results := [.lit (.bool false)], args := [d1, d2] }
  | _ => none }
def RlogMergedWrongFalsely : Prop := rlogMergedRow.holds Try.pinned (OpenSpec.ofChange rlogMergedWrong)

/-- 'jetwaylaw08.RlogNewer': WHATEVER THE INPUT: true; the input reads as it did. -/
def rlogNewerSpec : ChangeSpec := { name := "rlogNewer", fn := fun _ => fun
  | [d1, d2, d3] => { results := [.lit (.bool true)], args := [d1, d2, d3] }
  | _ => none }
def rlogNewerRow : OpenClaim := { program := "ytafjgaapefhggaa", sum := "3a7ee507646986a46df1c85e9c19095cf58ba4d1ee5b8c74e56a9d06016e3bed", func := "jetway/jetwaylaw08.RlogNewer", spec := "rlogNewer", apart := false }
def RlogNewerSaid : Prop := rlogNewerRow.holds Try.pinned (OpenSpec.ofChange rlogNewerSpec)

/-- ITS FALSE NEIGHBOUR: 'it returns false'. Refute it at one input. -/
def rlogNewerWrong : ChangeSpec := { name := "rlogNewer", fn := fun _ => fun
  | [d1, d2, d3] => { results := [.lit (.bool false)], args := [d1, d2, d3] }
  | _ => none }
def RlogNewerWrongFalsely : Prop := rlogNewerRow.holds Try.pinned (OpenSpec.ofChange rlogNewerWrong)

/-- 'jetwaylaw08.RlogCompacts': WHATEVER THE INPUT: true; the input reads as it did. -/
def rlogCompactsSpec : ChangeSpec := { name := "rlogCompacts", fn := fun _ => fun
  | [d1, d2] => { results := [.lit (.bool true)], args := [d1, d2] }
  | _ => none }
def rlogCompactsRow : OpenClaim := { program := "ytafjgaapefhggaa", sum := "3a7ee507646986a46df1c85e9c19095cf58ba4d1ee5b8c74e56a9d06016e3bed", func := "jetway/jetwaylaw08.RlogCompacts", spec := "rlogCompacts", unfollowed := true, recurses := true, apart := false }
def RlogCompactsSaid : Prop := rlogCompactsRow.holds Try.pinned (OpenSpec.ofChange rlogCompactsSpec)

/-- ITS FALSE NEIGHBOUR: 'it returns false'. Refute it at one input. -/
def rlogCompactsWrong : ChangeSpec := { name := "rlogCompacts", fn := fun _ => fun
  | [d1, d2] => { results := [.lit (.bool false)], args := [d1, d2] }
  | _ => none }
def RlogCompactsWrongFalsely : Prop := rlogCompactsRow.holds Try.pinned (OpenSpec.ofChange rlogCompactsWrong)

/- THE SECOND FORM. 'bulk': how many values and letters a reading holds, each counted each time it is reached (what is shared counts as often as it is met; a slice's spare places count too). A statement '..UptoSaid' is the law's where the arguments, and the package variables that the reading takes, are together of bulk at most 1048576: NARROWER than '..Said'. Prove '..Said' where nothing that the law and all that it calls make is longer than what came in: it says more and counts as full. Else prove '..UptoSaid'. A law counts once. -/
mutual
def uptoBulk {H : Type} : DataW H → Nat
  | .lit (.string bytes) => bytes.length + 1
  | .lit _ => 1
  | .nil => 1
  | .ptr d => uptoBulk d + 1
  | .slice elems spare => uptoBulkAll elems + uptoBulkAll spare + 1
  | .agg parts => uptoBulkAll parts + 1
  | .iface _ d => uptoBulk d + 1
  | .map entries => uptoBulkEntries entries + 1
  | .held _ => 1
def uptoBulkAll {H : Type} : List (DataW H) → Nat
  | [] => 0
  | d :: r => uptoBulk d + uptoBulkAll r
def uptoBulkEntries {H : Type} : List (Lit × DataW H) → Nat
  | [] => 0
  | x :: r => uptoBulkEntry x + uptoBulkEntries r
def uptoBulkEntry {H : Type} : Lit × DataW H → Nat
  | (.string bytes, d) => bytes.length + uptoBulk d + 1
  | (_, d) => uptoBulk d + 1
 end
def uptoSmall : (H : Type) → List (DataW H) → Bool := fun _ ds => decide (uptoBulkAll ds ≤ 1048576)
def OpenSpec.upto (s : _root_.Go.ChangeSpec) : _root_.Go.OpenSpec := { _root_.Go.OpenSpec.ofChange s with cond := some uptoSmall }

/-- 'jetwaylaw08.RlogNews', WHERE WHAT IT READS IS OF BULK AT MOST 1048576: true; the input reads as it did. -/
def rlogNewsUptoRow : OpenClaim := { program := "ytafjgaapefhggaa", sum := "3a7ee507646986a46df1c85e9c19095cf58ba4d1ee5b8c74e56a9d06016e3bed", func := "jetway/jetwaylaw08.RlogNews", spec := "rlogNews", apart := false, narrowed := true }
def RlogNewsUptoSaid : Prop := rlogNewsUptoRow.holds Try.pinned (OpenSpec.upto rlogNewsSpec)

/-- 'jetwaylaw08.RlogScripts', WHERE WHAT IT READS IS OF BULK AT MOST 1048576: true; the input reads as it did. -/
def rlogScriptsUptoRow : OpenClaim := { program := "ytafjgaapefhggaa", sum := "3a7ee507646986a46df1c85e9c19095cf58ba4d1ee5b8c74e56a9d06016e3bed", func := "jetway/jetwaylaw08.RlogScripts", spec := "rlogScripts", unfollowed := true, recurses := true, apart := false, narrowed := true }
def RlogScriptsUptoSaid : Prop := rlogScriptsUptoRow.holds Try.pinned (OpenSpec.upto rlogScriptsSpec)

/-- 'jetwaylaw08.RlogAsks', WHERE WHAT IT READS IS OF BULK AT MOST 1048576: true; the input reads as it did. -/
def rlogAsksUptoRow : OpenClaim := { program := "ytafjgaapefhggaa", sum := "3a7ee507646986a46df1c85e9c19095cf58ba4d1ee5b8c74e56a9d06016e3bed", func := "jetway/jetwaylaw08.RlogAsks", spec := "rlogAsks", unfollowed := true, recurses := true, apart := false, narrowed := true }
def RlogAsksUptoSaid : Prop := rlogAsksUptoRow.holds Try.pinned (OpenSpec.upto rlogAsksSpec)

/-- 'jetwaylaw08.RlogKept', WHERE WHAT IT READS IS OF BULK AT MOST 1048576: true; the input reads as it did. -/
def rlogKeptUptoRow : OpenClaim := { program := "ytafjgaapefhggaa", sum := "3a7ee507646986a46df1c85e9c19095cf58ba4d1ee5b8c74e56a9d06016e3bed", func := "jetway/jetwaylaw08.RlogKept", spec := "rlogKept", unfollowed := true, recurses := true, apart := false, narrowed := true }
def RlogKeptUptoSaid : Prop := rlogKeptUptoRow.holds Try.pinned (OpenSpec.upto rlogKeptSpec)

/-- 'jetwaylaw08.RlogMerged', WHERE WHAT IT READS IS OF BULK AT MOST 1048576: true; the input reads as it did. -/
def rlogMergedUptoRow : OpenClaim := { program := "ytafjgaapefhggaa", sum := "3a7ee507646986a46df1c85e9c19095cf58ba4d1ee5b8c74e56a9d06016e3bed", func := "jetway/jetwaylaw08.RlogMerged", spec := "rlogMerged", unfollowed := true, recurses := true, apart := false, narrowed := true }
def RlogMergedUptoSaid : Prop := rlogMergedUptoRow.holds Try.pinned (OpenSpec.upto rlogMergedSpec)

/-- 'jetwaylaw08.RlogNewer', WHERE WHAT IT READS IS OF BULK AT MOST 1048576: true; the input reads as it did. -/
def rlogNewerUptoRow : OpenClaim := { program := "ytafjgaapefhggaa", sum := "3a7ee507646986a46df1c85e9c19095cf58ba4d1ee5b8c74e56a9d06016e3bed", func := "jetway/jetwaylaw08.RlogNewer", spec := "rlogNewer", apart := false, narrowed := true }
def RlogNewerUptoSaid : Prop := rlogNewerUptoRow.holds Try.pinned (OpenSpec.upto rlogNewerSpec)

/-- 'jetwaylaw08.RlogCompacts', WHERE WHAT IT READS IS OF BULK AT MOST 1048576: true; the input reads as it did. -/
def rlogCompactsUptoRow : OpenClaim := { program := "ytafjgaapefhggaa", sum := "3a7ee507646986a46df1c85e9c19095cf58ba4d1ee5b8c74e56a9d06016e3bed", func := "jetway/jetwaylaw08.RlogCompacts", spec := "rlogCompacts", unfollowed := true, recurses := true, apart := false, narrowed := true }
def RlogCompactsUptoSaid : Prop := rlogCompactsUptoRow.holds Try.pinned (OpenSpec.upto rlogCompactsSpec)

end Rows
end Go.Proofs.Ytafjgaapefhggaa
