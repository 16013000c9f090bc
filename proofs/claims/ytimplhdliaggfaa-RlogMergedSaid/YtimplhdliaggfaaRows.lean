/-
  No cell of these rows narrows 'for every input' (looked for: loops, veiled, ifaces, maps, wideKeys, modest, calm, conditions, laid).
  DERIVED. THE GIVEN ROWS OF THIS SEAT. 2 by the template 'for every input the law returns true; each argument reads behind the call as it read before'; 0 by the template 'total and deterministic' (their statements: YtimplhdliaggfaaTotals.lean).
  GIVEN WITH THE SEED: the statements are not yours to turn. If you find one false, say at which input.
  Laid BY PROGRAM, IN A SANDBOX (cutbox-rows.mjs): the forced cells as the released guide's own fill.sh prints them over the translation 227791fcac2751e4… (all of the seat's roots in one cut). By AI agents, Wed Nov 11 2026. No macro, syntax, notation, axiom, sorry.
-/
import Derived.Test.YtimplhdliaggfaaChecked
import GoSem.Claim
import GoSem.ClaimJoined
import GoSem.ClaimMapViews
import Derived.JoinedTies
import Derived.KernelRfl
namespace Go.Proofs.Ytimplhdliaggfaa
/- THE CELL 'sum', in the pinned program and in every row, IS THE sha256 OF THE DUMP (.gsa) THAT YtimplhdliaggfaaProg.lean LOADS. Nothing in Lean hashes anything: it is a label: what it is worth is what the hold of that sum in a sandbox is worth. -/
noncomputable def Try.pinned : Pinned := { name := "ytimplhdliaggfaa", sum := "227791fcac2751e4a2b5003bbaea456f931e54112f5af4a3d463ff3c6ca562c9", checked := Try.checked }
namespace Rows
def none {H : Type} : Left H := { results := [], args := [] }

/-- 'jetwaylaw08.RlogKept': WHATEVER THE INPUT: true; the input reads as it did. -/
def rlogKeptSpec : ChangeSpec := { name := "rlogKept", fn := fun _ => fun
  | [d] => { results := [.lit (.bool true)], args := [d] }
  | _ => none }
def rlogKeptRow : OpenClaim := { program := "ytimplhdliaggfaa", sum := "227791fcac2751e4a2b5003bbaea456f931e54112f5af4a3d463ff3c6ca562c9", func := "jetway/jetwaylaw08.RlogKept", spec := "rlogKept", unfollowed := true, recurses := true, apart := false }
def RlogKeptSaid : Prop := rlogKeptRow.holds Try.pinned (OpenSpec.ofChange rlogKeptSpec)

/-- ITS FALSE NEIGHBOUR: 'it returns false'. Refute it at one input. -/
def rlogKeptWrong : ChangeSpec := { name := "rlogKept", fn := fun _ => fun
  | [d] => { results := [.lit (.bool false)], args := [d] }
  | _ => none }
def RlogKeptWrongFalsely : Prop := rlogKeptRow.holds Try.pinned (OpenSpec.ofChange rlogKeptWrong)

/-- 'jetwaylaw08.RlogMerged': WHATEVER THE INPUT: true; the input reads as it did. -/
def rlogMergedSpec : ChangeSpec := { name := "rlogMerged", fn := fun _ => fun
  | [d1, d2] => { results := [.lit (.bool true)], args := [d1, d2] }
  | _ => none }
def rlogMergedRow : OpenClaim := { program := "ytimplhdliaggfaa", sum := "227791fcac2751e4a2b5003bbaea456f931e54112f5af4a3d463ff3c6ca562c9", func := "jetway/jetwaylaw08.RlogMerged", spec := "rlogMerged", unfollowed := true, recurses := true, apart := false }
def RlogMergedSaid : Prop := rlogMergedRow.holds Try.pinned (OpenSpec.ofChange rlogMergedSpec)

/-- ITS FALSE NEIGHBOUR: 'it returns false'. Refute it at one input. -/
def rlogMergedWrong : ChangeSpec := { name := "rlogMerged", fn := fun _ => fun
  | [d1, d2] => { results := [.lit (.bool false)], args := [d1, d2] }
  | _ => none }
def RlogMergedWrongFalsely : Prop := rlogMergedRow.holds Try.pinned (OpenSpec.ofChange rlogMergedWrong)

/- THE SECOND FORM. 'bulk': how many values and letters a reading holds, each counted each time it is reached (what is shared counts as often as it is met; a slice's spare places count too). A statement '..UptoSaid' is the law's where the arguments, and the package variables that the reading takes, are together of bulk at most 1048576: NARROWER than '..Said'. Prove '..Said' where nothing that the law and all that it calls make is longer than what came in: it says more and counts as full. Else prove '..UptoSaid'. A law counts once. -/
mutual
def uptoBulk {H : Type} : DataW H → Nat
  | .lit (.string bytes) => bytes.length + 1
  | .lit _ => 1
  | .nil => 1
  | .ptr d => uptoBulk d + 1
  | .slice elems spare => uptoBulkAll elems + uptoBulkAll spare + 1
  | .agg parts => uptoBulkAll parts + 1
  | .iface _ d => uptoBulk d + 1
  | .map entries => uptoBulkEntries entries + 1
  | .held _ => 1
def uptoBulkAll {H : Type} : List (DataW H) → Nat
  | [] => 0
  | d :: r => uptoBulk d + uptoBulkAll r
def uptoBulkEntries {H : Type} : List (Lit × DataW H) → Nat
  | [] => 0
  | x :: r => uptoBulkEntry x + uptoBulkEntries r
def uptoBulkEntry {H : Type} : Lit × DataW H → Nat
  | (.string bytes, d) => bytes.length + uptoBulk d + 1
  | (_, d) => uptoBulk d + 1
 end
def uptoSmall : (H : Type) → List (DataW H) → Bool := fun _ ds => decide (uptoBulkAll ds ≤ 1048576)
def OpenSpec.upto (s : _root_.Go.ChangeSpec) : _root_.Go.OpenSpec := { _root_.Go.OpenSpec.ofChange s with cond := some uptoSmall }

/-- 'jetwaylaw08.RlogKept', WHERE WHAT IT READS IS OF BULK AT MOST 1048576: true; the input reads as it did. -/
def rlogKeptUptoRow : OpenClaim := { program := "ytimplhdliaggfaa", sum := "227791fcac2751e4a2b5003bbaea456f931e54112f5af4a3d463ff3c6ca562c9", func := "jetway/jetwaylaw08.RlogKept", spec := "rlogKept", unfollowed := true, recurses := true, apart := false, narrowed := true }
def RlogKeptUptoSaid : Prop := rlogKeptUptoRow.holds Try.pinned (OpenSpec.upto rlogKeptSpec)

/-- 'jetwaylaw08.RlogMerged', WHERE WHAT IT READS IS OF BULK AT MOST 1048576: true; the input reads as it did. -/
def rlogMergedUptoRow : OpenClaim := { program := "ytimplhdliaggfaa", sum := "227791fcac2751e4a2b5003bbaea456f931e54112f5af4a3d463ff3c6ca562c9", func := "jetway/jetwaylaw08.RlogMerged", spec := "rlogMerged", unfollowed := true, recurses := true, apart := false, narrowed := true }
def RlogMergedUptoSaid : Prop := rlogMergedUptoRow.holds Try.pinned (OpenSpec.upto rlogMergedSpec)

end Rows
end Go.Proofs.Ytimplhdliaggfaa
