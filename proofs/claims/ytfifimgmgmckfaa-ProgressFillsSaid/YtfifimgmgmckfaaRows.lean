/-
  No cell of these rows narrows 'for every input' (looked for: loops, veiled, ifaces, maps, wideKeys, modest, calm, conditions, laid).
  DERIVED. THE GIVEN ROWS OF THIS SEAT. 4 by the template 'for every input the law returns true; each argument reads behind the call as it read before'; 0 by the template 'total and deterministic' (their statements: YtfifimgmgmckfaaTotals.lean).
  GIVEN WITH THE SEED: the statements are not yours to turn. If you find one false, say at which input.
  Laid BY PROGRAM, IN A SANDBOX (cutbox-rows.mjs): the forced cells as the released guide's own fill.sh prints them over the translation 789256da9f6f4926… (all of the seat's roots in one cut). By AI agents, Wed Nov 11 2026. No macro, syntax, notation, axiom, sorry.
-/
import Derived.Test.YtfifimgmgmckfaaChecked
import GoSem.Claim
import GoSem.ClaimJoined
import GoSem.ClaimMapViews
import Derived.JoinedTies
import Derived.KernelRfl
namespace Go.Proofs.Ytfifimgmgmckfaa
/- THE CELL 'sum', in the pinned program and in every row, IS THE sha256 OF THE DUMP (.gsa) THAT YtfifimgmgmckfaaProg.lean LOADS. Nothing in Lean hashes anything: it is a label: what it is worth is what the hold of that sum in a sandbox is worth. -/
noncomputable def Try.pinned : Pinned := { name := "ytfifimgmgmckfaa", sum := "789256da9f6f4926930f101da81adaff677fec2f1b46c926fcaeeb5a224e860d", checked := Try.checked }
namespace Rows
def none {H : Type} : Left H := { results := [], args := [] }

/-- 'jetwaylaw11.ProgressNews': WHATEVER THE INPUT: true; the input reads as it did. -/
def progressNewsSpec : ChangeSpec := { name := "progressNews", fn := fun _ => fun
  | [d1, d2] => { results := [.lit (.bool true)], args := [d1, d2] }
  | _ => none }
def progressNewsRow : OpenClaim := { program := "ytfifimgmgmckfaa", sum := "789256da9f6f4926930f101da81adaff677fec2f1b46c926fcaeeb5a224e860d", func := "jetway/jetwaylaw11.ProgressNews", spec := "progressNews", apart := false }
def ProgressNewsSaid : Prop := progressNewsRow.holds Try.pinned (OpenSpec.ofChange progressNewsSpec)

/-- ITS FALSE NEIGHBOUR: 'it returns false'. Refute it at one input. -/
def progressNewsWrong : ChangeSpec := { name := "progressNews", fn := fun _ => fun
  | [d1, d2] => { results := [.lit (.bool false)], args := [d1, d2] }
  | _ => none }
def ProgressNewsWrongFalsely : Prop := progressNewsRow.holds Try.pinned (OpenSpec.ofChange progressNewsWrong)

/-- 'jetwaylaw11.ProgressSound': WHATEVER THE INPUT: true; the input reads as it did. -/
def progressSoundSpec : ChangeSpec := { name := "progressSound", fn := fun _ => fun
  | [d1, d2, d3] => { results := [.lit (.bool true)], args := [d1, d2, d3] }
  | _ => none }
def progressSoundRow : OpenClaim := { program := "ytfifimgmgmckfaa", sum := "789256da9f6f4926930f101da81adaff677fec2f1b46c926fcaeeb5a224e860d", func := "jetway/jetwaylaw11.ProgressSound", spec := "progressSound", apart := false }
def ProgressSoundSaid : Prop := progressSoundRow.holds Try.pinned (OpenSpec.ofChange progressSoundSpec)

/-- ITS FALSE NEIGHBOUR: 'it returns false'. Refute it at one input. -/
def progressSoundWrong : ChangeSpec := { name := "progressSound", fn := fun _ => fun
  | [d1, d2, d3] => { results := [.lit (.bool false)], args := [d1, d2, d3] }
  | _ => none }
def ProgressSoundWrongFalsely : Prop := progressSoundRow.holds Try.pinned (OpenSpec.ofChange progressSoundWrong)

/-- 'jetwaylaw11.ProgressFills': WHATEVER THE INPUT: true; the input reads as it did. -/
def progressFillsSpec : ChangeSpec := { name := "progressFills", fn := fun _ => fun
  | [d1, d2, d3] => { results := [.lit (.bool true)], args := [d1, d2, d3] }
  | _ => none }
def progressFillsRow : OpenClaim := { program := "ytfifimgmgmckfaa", sum := "789256da9f6f4926930f101da81adaff677fec2f1b46c926fcaeeb5a224e860d", func := "jetway/jetwaylaw11.ProgressFills", spec := "progressFills", apart := false }
def ProgressFillsSaid : Prop := progressFillsRow.holds Try.pinned (OpenSpec.ofChange progressFillsSpec)

/-- ITS FALSE NEIGHBOUR: 'it returns false'. Refute it at one input. -/
def progressFillsWrong : ChangeSpec := { name := "progressFills", fn := fun _ => fun
  | [d1, d2, d3] => { results := [.lit (.bool false)], args := [d1, d2, d3] }
  | _ => none }
def ProgressFillsWrongFalsely : Prop := progressFillsRow.holds Try.pinned (OpenSpec.ofChange progressFillsWrong)

/-- 'jetwaylaw11.ProgressWaits': WHATEVER THE INPUT: true; the input reads as it did. -/
def progressWaitsSpec : ChangeSpec := { name := "progressWaits", fn := fun _ => fun
  | [d] => { results := [.lit (.bool true)], args := [d] }
  | _ => none }
def progressWaitsRow : OpenClaim := { program := "ytfifimgmgmckfaa", sum := "789256da9f6f4926930f101da81adaff677fec2f1b46c926fcaeeb5a224e860d", func := "jetway/jetwaylaw11.ProgressWaits", spec := "progressWaits", apart := false }
def ProgressWaitsSaid : Prop := progressWaitsRow.holds Try.pinned (OpenSpec.ofChange progressWaitsSpec)

/-- ITS FALSE NEIGHBOUR: 'it returns false'. Refute it at one input. -/
def progressWaitsWrong : ChangeSpec := { name := "progressWaits", fn := fun _ => fun
  | [d] => { results := [.lit (.bool false)], args := [d] }
  | _ => none }
def ProgressWaitsWrongFalsely : Prop := progressWaitsRow.holds Try.pinned (OpenSpec.ofChange progressWaitsWrong)

/- THE SECOND FORM. 'bulk': how many values and letters a reading holds, each counted each time it is reached (what is shared counts as often as it is met; a slice's spare places count too). A statement '..UptoSaid' is the law's where the arguments, and the package variables that the reading takes, are together of bulk at most 1048576: NARROWER than '..Said'. Prove '..Said' where nothing that the law and all that it calls make is longer than what came in: it says more and counts as full. Else prove '..UptoSaid'. A law counts once. -/
mutual
def uptoBulk {H : Type} : DataW H → Nat
  | .lit (.string bytes) => bytes.length + 1
  | .lit _ => 1
  | .nil => 1
  | .ptr d => uptoBulk d + 1
  | .slice elems spare => uptoBulkAll elems + uptoBulkAll spare + 1
  | .agg parts => uptoBulkAll parts + 1
  | .iface _ d => uptoBulk d + 1
  | .map entries => uptoBulkEntries entries + 1
  | .held _ => 1
def uptoBulkAll {H : Type} : List (DataW H) → Nat
  | [] => 0
  | d :: r => uptoBulk d + uptoBulkAll r
def uptoBulkEntries {H : Type} : List (Lit × DataW H) → Nat
  | [] => 0
  | x :: r => uptoBulkEntry x + uptoBulkEntries r
def uptoBulkEntry {H : Type} : Lit × DataW H → Nat
  | (.string bytes, d) => bytes.length + uptoBulk d + 1
  | (_, d) => uptoBulk d + 1
 end
def uptoSmall : (H : Type) → List (DataW H) → Bool := fun _ ds => decide (uptoBulkAll ds ≤ 1048576)
def OpenSpec.upto (s : _root_.Go.ChangeSpec) : _root_.Go.OpenSpec := { _root_.Go.OpenSpec.ofChange s with cond := some uptoSmall }

/-- 'jetwaylaw11.ProgressNews', WHERE WHAT IT READS IS OF BULK AT MOST 1048576: true; the input reads as it did. -/
def progressNewsUptoRow : OpenClaim := { program := "ytfifimgmgmckfaa", sum := "789256da9f6f4926930f101da81adaff677fec2f1b46c926fcaeeb5a224e860d", func := "jetway/jetwaylaw11.ProgressNews", spec := "progressNews", apart := false, narrowed := true }
def ProgressNewsUptoSaid : Prop := progressNewsUptoRow.holds Try.pinned (OpenSpec.upto progressNewsSpec)

/-- 'jetwaylaw11.ProgressSound', WHERE WHAT IT READS IS OF BULK AT MOST 1048576: true; the input reads as it did. -/
def progressSoundUptoRow : OpenClaim := { program := "ytfifimgmgmckfaa", sum := "789256da9f6f4926930f101da81adaff677fec2f1b46c926fcaeeb5a224e860d", func := "jetway/jetwaylaw11.ProgressSound", spec := "progressSound", apart := false, narrowed := true }
def ProgressSoundUptoSaid : Prop := progressSoundUptoRow.holds Try.pinned (OpenSpec.upto progressSoundSpec)

/-- 'jetwaylaw11.ProgressFills', WHERE WHAT IT READS IS OF BULK AT MOST 1048576: true; the input reads as it did. -/
def progressFillsUptoRow : OpenClaim := { program := "ytfifimgmgmckfaa", sum := "789256da9f6f4926930f101da81adaff677fec2f1b46c926fcaeeb5a224e860d", func := "jetway/jetwaylaw11.ProgressFills", spec := "progressFills", apart := false, narrowed := true }
def ProgressFillsUptoSaid : Prop := progressFillsUptoRow.holds Try.pinned (OpenSpec.upto progressFillsSpec)

/-- 'jetwaylaw11.ProgressWaits', WHERE WHAT IT READS IS OF BULK AT MOST 1048576: true; the input reads as it did. -/
def progressWaitsUptoRow : OpenClaim := { program := "ytfifimgmgmckfaa", sum := "789256da9f6f4926930f101da81adaff677fec2f1b46c926fcaeeb5a224e860d", func := "jetway/jetwaylaw11.ProgressWaits", spec := "progressWaits", apart := false, narrowed := true }
def ProgressWaitsUptoSaid : Prop := progressWaitsUptoRow.holds Try.pinned (OpenSpec.upto progressWaitsSpec)

end Rows
end Go.Proofs.Ytfifimgmgmckfaa
