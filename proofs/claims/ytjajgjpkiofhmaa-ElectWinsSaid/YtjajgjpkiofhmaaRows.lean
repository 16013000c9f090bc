/-
  No cell of these rows narrows 'for every input' (looked for: loops, veiled, ifaces, maps, wideKeys, modest, calm, conditions, laid).
  DERIVED. THE GIVEN ROWS OF THIS SEAT. 6 by the template 'for every input the law returns true; each argument reads behind the call as it read before'; 0 by the template 'total and deterministic' (their statements: YtjajgjpkiofhmaaTotals.lean).
  GIVEN WITH THE SEED: the statements are not yours to turn. If you find one false, say at which input.
  Laid BY PROGRAM, IN A SANDBOX (cutbox-rows.mjs): the forced cells as the released guide's own fill.sh prints them over the translation 0c6388dfc4efa33a… (all of the seat's roots in one cut). By AI agents, Wed Nov 11 2026. No macro, syntax, notation, axiom, sorry.
-/
import Derived.Test.YtjajgjpkiofhmaaChecked
import GoSem.Claim
import GoSem.ClaimJoined
import GoSem.ClaimMapViews
import Derived.JoinedTies
import Derived.KernelRfl
namespace Go.Proofs.Ytjajgjpkiofhmaa
/- THE CELL 'sum', in the pinned program and in every row, IS THE sha256 OF THE DUMP (.gsa) THAT YtjajgjpkiofhmaaProg.lean LOADS. Nothing in Lean hashes anything: it is a label: what it is worth is what the hold of that sum in a sandbox is worth. -/
noncomputable def Try.pinned : Pinned := { name := "ytjajgjpkiofhmaa", sum := "0c6388dfc4efa33a992f74245a52c697edeb31987af96098c981ef17ff8e971d", checked := Try.checked }
namespace Rows
def none {H : Type} : Left H := { results := [], args := [] }

/-- 'jetwaylaw10.ElectScripts': WHATEVER THE INPUT: true; the input reads as it did. -/
def electScriptsSpec : ChangeSpec := { name := "electScripts", fn := fun _ => fun
  | [d1, d2] => { results := [.lit (.bool true)], args := [d1, d2] }
  | _ => none }
def electScriptsRow : OpenClaim := { program := "ytjajgjpkiofhmaa", sum := "0c6388dfc4efa33a992f74245a52c697edeb31987af96098c981ef17ff8e971d", func := "jetway/jetwaylaw10.ElectScripts", spec := "electScripts", apart := false }
def ElectScriptsSaid : Prop := electScriptsRow.holds Try.pinned (OpenSpec.ofChange electScriptsSpec)

/-- ITS FALSE NEIGHBOUR: 'it returns false'. Refute it at one input. -/
def electScriptsWrong : ChangeSpec := { name := "electScripts", fn := fun _ => fun
  | [d1, d2] => { results := [.lit (.bool false)], args := [d1, d2] }
  | _ => none }
def ElectScriptsWrongFalsely : Prop := electScriptsRow.holds Try.pinned (OpenSpec.ofChange electScriptsWrong)

/-- 'jetwaylaw10.ElectStays': WHATEVER THE INPUT: true; the input reads as it did. -/
def electStaysSpec : ChangeSpec := { name := "electStays", fn := fun _ => fun
  | [d1, d2] => { results := [.lit (.bool true)], args := [d1, d2] }
  | _ => none }
def electStaysRow : OpenClaim := { program := "ytjajgjpkiofhmaa", sum := "0c6388dfc4efa33a992f74245a52c697edeb31987af96098c981ef17ff8e971d", func := "jetway/jetwaylaw10.ElectStays", spec := "electStays", apart := false }
def ElectStaysSaid : Prop := electStaysRow.holds Try.pinned (OpenSpec.ofChange electStaysSpec)

/-- ITS FALSE NEIGHBOUR: 'it returns false'. Refute it at one input. -/
def electStaysWrong : ChangeSpec := { name := "electStays", fn := fun _ => fun
  | [d1, d2] => { results := [.lit (.bool false)], args := [d1, d2] }
  | _ => none }
def ElectStaysWrongFalsely : Prop := electStaysRow.holds Try.pinned (OpenSpec.ofChange electStaysWrong)

/-- 'jetwaylaw10.ElectOnce': WHATEVER THE INPUT: true; the input reads as it did. -/
def electOnceSpec : ChangeSpec := { name := "electOnce", fn := fun _ => fun
  | [d1, d2, d3] => { results := [.lit (.bool true)], args := [d1, d2, d3] }
  | _ => none }
def electOnceRow : OpenClaim := { program := "ytjajgjpkiofhmaa", sum := "0c6388dfc4efa33a992f74245a52c697edeb31987af96098c981ef17ff8e971d", func := "jetway/jetwaylaw10.ElectOnce", spec := "electOnce", apart := false }
def ElectOnceSaid : Prop := electOnceRow.holds Try.pinned (OpenSpec.ofChange electOnceSpec)

/-- ITS FALSE NEIGHBOUR: 'it returns false'. Refute it at one input. -/
def electOnceWrong : ChangeSpec := { name := "electOnce", fn := fun _ => fun
  | [d1, d2, d3] => { results := [.lit (.bool false)], args := [d1, d2, d3] }
  | _ => none }
def ElectOnceWrongFalsely : Prop := electOnceRow.holds Try.pinned (OpenSpec.ofChange electOnceWrong)

/-- 'jetwaylaw10.ElectWins': WHATEVER THE INPUT: true; the input reads as it did. -/
def electWinsSpec : ChangeSpec := { name := "electWins", fn := fun _ => fun
  | [d1, d2, d3] => { results := [.lit (.bool true)], args := [d1, d2, d3] }
  | _ => none }
def electWinsRow : OpenClaim := { program := "ytjajgjpkiofhmaa", sum := "0c6388dfc4efa33a992f74245a52c697edeb31987af96098c981ef17ff8e971d", func := "jetway/jetwaylaw10.ElectWins", spec := "electWins", apart := false }
def ElectWinsSaid : Prop := electWinsRow.holds Try.pinned (OpenSpec.ofChange electWinsSpec)

/-- ITS FALSE NEIGHBOUR: 'it returns false'. Refute it at one input. -/
def electWinsWrong : ChangeSpec := { name := "electWins", fn := fun _ => fun
  | [d1, d2, d3] => { results := [.lit (.bool false)], args := [d1, d2, d3] }
  | _ => none }
def ElectWinsWrongFalsely : Prop := electWinsRow.holds Try.pinned (OpenSpec.ofChange electWinsWrong)

/-- 'jetwaylaw10.ElectAlone': WHATEVER THE INPUT: true; the input reads as it did. -/
def electAloneSpec : ChangeSpec := { name := "electAlone", fn := fun _ => fun
  | [d1, d2, d3] => { results := [.lit (.bool true)], args := [d1, d2, d3] }
  | _ => none }
def electAloneRow : OpenClaim := { program := "ytjajgjpkiofhmaa", sum := "0c6388dfc4efa33a992f74245a52c697edeb31987af96098c981ef17ff8e971d", func := "jetway/jetwaylaw10.ElectAlone", spec := "electAlone", apart := false }
def ElectAloneSaid : Prop := electAloneRow.holds Try.pinned (OpenSpec.ofChange electAloneSpec)

/-- ITS FALSE NEIGHBOUR: 'it returns false'. Refute it at one input. -/
def electAloneWrong : ChangeSpec := { name := "electAlone", fn := fun _ => fun
  | [d1, d2, d3] => { results := [.lit (.bool false)], args := [d1, d2, d3] }
  | _ => none }
def ElectAloneWrongFalsely : Prop := electAloneRow.holds Try.pinned (OpenSpec.ofChange electAloneWrong)

/-- 'jetwaylaw10.ElectQuiet': WHATEVER THE INPUT: true; the input reads as it did. -/
def electQuietSpec : ChangeSpec := { name := "electQuiet", fn := fun _ => fun
  | [d1, d2, d3] => { results := [.lit (.bool true)], args := [d1, d2, d3] }
  | _ => none }
def electQuietRow : OpenClaim := { program := "ytjajgjpkiofhmaa", sum := "0c6388dfc4efa33a992f74245a52c697edeb31987af96098c981ef17ff8e971d", func := "jetway/jetwaylaw10.ElectQuiet", spec := "electQuiet", apart := false }
def ElectQuietSaid : Prop := electQuietRow.holds Try.pinned (OpenSpec.ofChange electQuietSpec)

/-- ITS FALSE NEIGHBOUR: 'it returns false'. Refute it at one input. -/
def electQuietWrong : ChangeSpec := { name := "electQuiet", fn := fun _ => fun
  | [d1, d2, d3] => { results := [.lit (.bool false)], args := [d1, d2, d3] }
  | _ => none }
def ElectQuietWrongFalsely : Prop := electQuietRow.holds Try.pinned (OpenSpec.ofChange electQuietWrong)

/- THE SECOND FORM. 'bulk': how many values and letters a reading holds, each counted each time it is reached (what is shared counts as often as it is met; a slice's spare places count too). A statement '..UptoSaid' is the law's where the arguments, and the package variables that the reading takes, are together of bulk at most 1048576: NARROWER than '..Said'. Prove '..Said' where nothing that the law and all that it calls make is longer than what came in: it says more and counts as full. Else prove '..UptoSaid'. A law counts once. -/
mutual
def uptoBulk {H : Type} : DataW H → Nat
  | .lit (.string bytes) => bytes.length + 1
  | .lit _ => 1
  | .nil => 1
  | .ptr d => uptoBulk d + 1
  | .slice elems spare => uptoBulkAll elems + uptoBulkAll spare + 1
  | .agg parts => uptoBulkAll parts + 1
  | .iface _ d => uptoBulk d + 1
  | .map entries => uptoBulkEntries entries + 1
  | .held _ => 1
def uptoBulkAll {H : Type} : List (DataW H) → Nat
  | [] => 0
  | d :: r => uptoBulk d + uptoBulkAll r
def uptoBulkEntries {H : Type} : List (Lit × DataW H) → Nat
  | [] => 0
  | x :: r => uptoBulkEntry x + uptoBulkEntries r
def uptoBulkEntry {H : Type} : Lit × DataW H → Nat
  | (.string bytes, d) => bytes.length + uptoBulk d + 1
  | (_, d) => uptoBulk d + 1
 end
def uptoSmall : (H : Type) → List (DataW H) → Bool := fun _ ds => decide (uptoBulkAll ds ≤ 1048576)
def OpenSpec.upto (s : _root_.Go.ChangeSpec) : _root_.Go.OpenSpec := { _root_.Go.OpenSpec.ofChange s with cond := some uptoSmall }

/-- 'jetwaylaw10.ElectScripts', WHERE WHAT IT READS IS OF BULK AT MOST 1048576: true; the input reads as it did. -/
def electScriptsUptoRow : OpenClaim := { program := "ytjajgjpkiofhmaa", sum := "0c6388dfc4efa33a992f74245a52c697edeb31987af96098c981ef17ff8e971d", func := "jetway/jetwaylaw10.ElectScripts", spec := "electScripts", apart := false, narrowed := true }
def ElectScriptsUptoSaid : Prop := electScriptsUptoRow.holds Try.pinned (OpenSpec.upto electScriptsSpec)

/-- 'jetwaylaw10.ElectStays', WHERE WHAT IT READS IS OF BULK AT MOST 1048576: true; the input reads as it did. -/
def electStaysUptoRow : OpenClaim := { program := "ytjajgjpkiofhmaa", sum := "0c6388dfc4efa33a992f74245a52c697edeb31987af96098c981ef17ff8e971d", func := "jetway/jetwaylaw10.ElectStays", spec := "electStays", apart := false, narrowed := true }
def ElectStaysUptoSaid : Prop := electStaysUptoRow.holds Try.pinned (OpenSpec.upto electStaysSpec)

/-- 'jetwaylaw10.ElectOnce', WHERE WHAT IT READS IS OF BULK AT MOST 1048576: true; the input reads as it did. -/
def electOnceUptoRow : OpenClaim := { program := "ytjajgjpkiofhmaa", sum := "0c6388dfc4efa33a992f74245a52c697edeb31987af96098c981ef17ff8e971d", func := "jetway/jetwaylaw10.ElectOnce", spec := "electOnce", apart := false, narrowed := true }
def ElectOnceUptoSaid : Prop := electOnceUptoRow.holds Try.pinned (OpenSpec.upto electOnceSpec)

/-- 'jetwaylaw10.ElectWins', WHERE WHAT IT READS IS OF BULK AT MOST 1048576: true; the input reads as it did. -/
def electWinsUptoRow : OpenClaim := { program := "ytjajgjpkiofhmaa", sum := "0c6388dfc4efa33a992f74245a52c697edeb31987af96098c981ef17ff8e971d", func := "jetway/jetwaylaw10.ElectWins", spec := "electWins", apart := false, narrowed := true }
def ElectWinsUptoSaid : Prop := electWinsUptoRow.holds Try.pinned (OpenSpec.upto electWinsSpec)

/-- 'jetwaylaw10.ElectAlone', WHERE WHAT IT READS IS OF BULK AT MOST 1048576: true; the input reads as it did. -/
def electAloneUptoRow : OpenClaim := { program := "ytjajgjpkiofhmaa", sum := "0c6388dfc4efa33a992f74245a52c697edeb31987af96098c981ef17ff8e971d", func := "jetway/jetwaylaw10.ElectAlone", spec := "electAlone", apart := false, narrowed := true }
def ElectAloneUptoSaid : Prop := electAloneUptoRow.holds Try.pinned (OpenSpec.upto electAloneSpec)

/-- 'jetwaylaw10.ElectQuiet', WHERE WHAT IT READS IS OF BULK AT MOST 1048576: true; the input reads as it did. -/
def electQuietUptoRow : OpenClaim := { program := "ytjajgjpkiofhmaa", sum := "0c6388dfc4efa33a992f74245a52c697edeb31987af96098c981ef17ff8e971d", func := "jetway/jetwaylaw10.ElectQuiet", spec := "electQuiet", apart := false, narrowed := true }
def ElectQuietUptoSaid : Prop := electQuietUptoRow.holds Try.pinned (OpenSpec.upto electQuietSpec)

end Rows
end Go.Proofs.Ytjajgjpkiofhmaa
