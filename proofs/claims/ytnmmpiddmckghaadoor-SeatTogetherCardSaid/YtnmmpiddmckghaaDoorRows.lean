/-
  NARROWER THAN 'FOR EVERY INPUT', by the rows' own cells (each row's printed sentence says how): SeatCounts: laid · SeatNames: laid · SeatBest: laid · SeatBack: laid · SeatFree: laid · SeatTogether: laid · SeatApart: laid.
  DERIVED. THE GIVEN ROWS OF THIS SEAT. 7 by the template 'for every input the law returns true; each argument reads behind the call as it read before'; 0 by the template 'total and deterministic' (their statements: YtnmmpiddmckghaaDoorTotals.lean).
  GIVEN WITH THE SEED: the statements are not yours to turn. If you find one false, say at which input.
  Laid BY PROGRAM, IN A SANDBOX (cutbox-rows.mjs): the forced cells as the released guide's own fill.sh prints them over the translation 0dd35ad5c5f76dac… (all of the seat's roots in one cut). By AI agents, Wed Nov 11 2026. No macro, syntax, notation, axiom, sorry.
-/
import Derived.Test.YtnmmpiddmckghaaDoorChecked
import GoSem.Claim
import GoSem.ClaimJoined
import GoSem.ClaimMapViews
import Derived.JoinedTies
import Derived.KernelRfl
namespace Go.Proofs.YtnmmpiddmckghaaDoor
/- THE CELL 'sum', in the pinned program and in every row, IS THE sha256 OF THE DUMP (.gsa) THAT YtnmmpiddmckghaaDoorProg.lean LOADS. Nothing in Lean hashes anything: it is a label: what it is worth is what the hold of that sum in a sandbox is worth. -/
noncomputable def Tryd.pinned : Pinned := { name := "ytnmmpiddmckghaadoor", sum := "0dd35ad5c5f76dace7662d0f82438d79e00a3689efc879a8e1e0d12af175ba3b", checked := Tryd.checked }
namespace Rows
def none {H : Type} : Left H := { results := [], args := [] }

/- WHAT THE LISTED PACKAGE-LEVEL VARIABLES READ AS WHEN THE CALL BEGINS. Each datum BY PROGRAM (the guide's laid-datum.mjs) off the statement by which the dump's own 'gosem.cut.vars' lays the variable. In a bare row this is a premise. The card (YtnmmpiddmckghaaDoorCards.lean) ties it to the program's text. -/
def laid_math_bits_deBruijn32tab {H : Type} : DataW H := .agg [.lit (.int .u8 0), .lit (.int .u8 1), .lit (.int .u8 28), .lit (.int .u8 2), .lit (.int .u8 29), .lit (.int .u8 14), .lit (.int .u8 24), .lit (.int .u8 3), .lit (.int .u8 30), .lit (.int .u8 22), .lit (.int .u8 20), .lit (.int .u8 15), .lit (.int .u8 25), .lit (.int .u8 17), .lit (.int .u8 4), .lit (.int .u8 8), .lit (.int .u8 31), .lit (.int .u8 27), .lit (.int .u8 13), .lit (.int .u8 23), .lit (.int .u8 21), .lit (.int .u8 19), .lit (.int .u8 16), .lit (.int .u8 7), .lit (.int .u8 26), .lit (.int .u8 12), .lit (.int .u8 18), .lit (.int .u8 6), .lit (.int .u8 11), .lit (.int .u8 5), .lit (.int .u8 10), .lit (.int .u8 9)]
def laid_math_bits_deBruijn64tab {H : Type} : DataW H := .agg [.lit (.int .u8 0), .lit (.int .u8 1), .lit (.int .u8 56), .lit (.int .u8 2), .lit (.int .u8 57), .lit (.int .u8 49), .lit (.int .u8 28), .lit (.int .u8 3), .lit (.int .u8 61), .lit (.int .u8 58), .lit (.int .u8 42), .lit (.int .u8 50), .lit (.int .u8 38), .lit (.int .u8 29), .lit (.int .u8 17), .lit (.int .u8 4), .lit (.int .u8 62), .lit (.int .u8 47), .lit (.int .u8 59), .lit (.int .u8 36), .lit (.int .u8 45), .lit (.int .u8 43), .lit (.int .u8 51), .lit (.int .u8 22), .lit (.int .u8 53), .lit (.int .u8 39), .lit (.int .u8 33), .lit (.int .u8 30), .lit (.int .u8 24), .lit (.int .u8 18), .lit (.int .u8 12), .lit (.int .u8 5), .lit (.int .u8 63), .lit (.int .u8 55), .lit (.int .u8 48), .lit (.int .u8 27), .lit (.int .u8 60), .lit (.int .u8 41), .lit (.int .u8 37), .lit (.int .u8 16), .lit (.int .u8 46), .lit (.int .u8 35), .lit (.int .u8 44), .lit (.int .u8 21), .lit (.int .u8 52), .lit (.int .u8 32), .lit (.int .u8 23), .lit (.int .u8 11), .lit (.int .u8 54), .lit (.int .u8 26), .lit (.int .u8 40), .lit (.int .u8 15), .lit (.int .u8 34), .lit (.int .u8 20), .lit (.int .u8 31), .lit (.int .u8 10), .lit (.int .u8 25), .lit (.int .u8 14), .lit (.int .u8 19), .lit (.int .u8 9), .lit (.int .u8 13), .lit (.int .u8 8), .lit (.int .u8 7), .lit (.int .u8 6)]
def laid_internal_strconv_uint64pow10 {H : Type} : DataW H := .agg [.lit (.int .u64 1), .lit (.int .u64 10), .lit (.int .u64 100), .lit (.int .u64 1000), .lit (.int .u64 10000), .lit (.int .u64 100000), .lit (.int .u64 1000000), .lit (.int .u64 10000000), .lit (.int .u64 100000000), .lit (.int .u64 1000000000), .lit (.int .u64 10000000000), .lit (.int .u64 100000000000), .lit (.int .u64 1000000000000), .lit (.int .u64 10000000000000), .lit (.int .u64 100000000000000), .lit (.int .u64 1000000000000000), .lit (.int .u64 10000000000000000), .lit (.int .u64 100000000000000000), .lit (.int .u64 1000000000000000000), .lit (.int .u64 10000000000000000000)]

/-- 'jetwaylaw13.SeatCounts': WHATEVER THE INPUT: true; the input reads as it did. -/
def seatCountsSpec : ChangeSpec := { name := "seatCounts", fn := fun _ => fun
  | [d1, d2] => { results := [.lit (.bool true)], args := [d1, d2] }
  | _ => none }
def seatCountsRow : OpenClaim := { program := "ytnmmpiddmckghaadoor", sum := "0dd35ad5c5f76dace7662d0f82438d79e00a3689efc879a8e1e0d12af175ba3b", func := "jetway/jetwaylaw13.SeatCounts", spec := "seatCounts", named := ["internal/strconv.uint64pow10", "math/bits.deBruijn32tab", "math/bits.deBruijn64tab"], apart := false, laid := [("math/bits.deBruijn32tab", laid_math_bits_deBruijn32tab), ("math/bits.deBruijn64tab", laid_math_bits_deBruijn64tab), ("internal/strconv.uint64pow10", laid_internal_strconv_uint64pow10)] }
def SeatCountsSaid : Prop := seatCountsRow.holds Tryd.pinned (OpenSpec.ofChange seatCountsSpec)

/-- ITS FALSE NEIGHBOUR: 'it returns false'. Refute it at one input. -/
def seatCountsWrong : ChangeSpec := { name := "seatCounts", fn := fun _ => fun
  | [d1, d2] => { results := [.lit (.bool false)], args := [d1, d2] }
  | _ => none }
def SeatCountsWrongFalsely : Prop := seatCountsRow.holds Tryd.pinned (OpenSpec.ofChange seatCountsWrong)

/-- 'jetwaylaw13.SeatNames': WHATEVER THE INPUT: true; the input reads as it did. -/
def seatNamesSpec : ChangeSpec := { name := "seatNames", fn := fun _ => fun
  | [d1, d2, d3] => { results := [.lit (.bool true)], args := [d1, d2, d3] }
  | _ => none }
def seatNamesRow : OpenClaim := { program := "ytnmmpiddmckghaadoor", sum := "0dd35ad5c5f76dace7662d0f82438d79e00a3689efc879a8e1e0d12af175ba3b", func := "jetway/jetwaylaw13.SeatNames", spec := "seatNames", named := ["internal/strconv.uint64pow10", "math/bits.deBruijn32tab", "math/bits.deBruijn64tab"], apart := false, laid := [("math/bits.deBruijn32tab", laid_math_bits_deBruijn32tab), ("math/bits.deBruijn64tab", laid_math_bits_deBruijn64tab), ("internal/strconv.uint64pow10", laid_internal_strconv_uint64pow10)] }
def SeatNamesSaid : Prop := seatNamesRow.holds Tryd.pinned (OpenSpec.ofChange seatNamesSpec)

/-- ITS FALSE NEIGHBOUR: 'it returns false'. Refute it at one input. -/
def seatNamesWrong : ChangeSpec := { name := "seatNames", fn := fun _ => fun
  | [d1, d2, d3] => { results := [.lit (.bool false)], args := [d1, d2, d3] }
  | _ => none }
def SeatNamesWrongFalsely : Prop := seatNamesRow.holds Tryd.pinned (OpenSpec.ofChange seatNamesWrong)

/-- 'jetwaylaw13.SeatBest': WHATEVER THE INPUT: true; the input reads as it did. -/
def seatBestSpec : ChangeSpec := { name := "seatBest", fn := fun _ => fun
  | [d1, d2, d3] => { results := [.lit (.bool true)], args := [d1, d2, d3] }
  | _ => none }
def seatBestRow : OpenClaim := { program := "ytnmmpiddmckghaadoor", sum := "0dd35ad5c5f76dace7662d0f82438d79e00a3689efc879a8e1e0d12af175ba3b", func := "jetway/jetwaylaw13.SeatBest", spec := "seatBest", named := ["internal/strconv.uint64pow10", "math/bits.deBruijn32tab", "math/bits.deBruijn64tab"], apart := false, laid := [("math/bits.deBruijn32tab", laid_math_bits_deBruijn32tab), ("math/bits.deBruijn64tab", laid_math_bits_deBruijn64tab), ("internal/strconv.uint64pow10", laid_internal_strconv_uint64pow10)] }
def SeatBestSaid : Prop := seatBestRow.holds Tryd.pinned (OpenSpec.ofChange seatBestSpec)

/-- ITS FALSE NEIGHBOUR: 'it returns false'. Refute it at one input. -/
def seatBestWrong : ChangeSpec := { name := "seatBest", fn := fun _ => fun
  | [d1, d2, d3] => { results := [.lit (.bool false)], args := [d1, d2, d3] }
  | _ => none }
def SeatBestWrongFalsely : Prop := seatBestRow.holds Tryd.pinned (OpenSpec.ofChange seatBestWrong)

/-- 'jetwaylaw13.SeatBack': WHATEVER THE INPUT: true; the input reads as it did. -/
def seatBackSpec : ChangeSpec := { name := "seatBack", fn := fun _ => fun
  | [d1, d2] => { results := [.lit (.bool true)], args := [d1, d2] }
  | _ => none }
def seatBackRow : OpenClaim := { program := "ytnmmpiddmckghaadoor", sum := "0dd35ad5c5f76dace7662d0f82438d79e00a3689efc879a8e1e0d12af175ba3b", func := "jetway/jetwaylaw13.SeatBack", spec := "seatBack", named := ["internal/strconv.uint64pow10", "math/bits.deBruijn32tab", "math/bits.deBruijn64tab"], apart := false, laid := [("math/bits.deBruijn32tab", laid_math_bits_deBruijn32tab), ("math/bits.deBruijn64tab", laid_math_bits_deBruijn64tab), ("internal/strconv.uint64pow10", laid_internal_strconv_uint64pow10)] }
def SeatBackSaid : Prop := seatBackRow.holds Tryd.pinned (OpenSpec.ofChange seatBackSpec)

/-- ITS FALSE NEIGHBOUR: 'it returns false'. Refute it at one input. -/
def seatBackWrong : ChangeSpec := { name := "seatBack", fn := fun _ => fun
  | [d1, d2] => { results := [.lit (.bool false)], args := [d1, d2] }
  | _ => none }
def SeatBackWrongFalsely : Prop := seatBackRow.holds Tryd.pinned (OpenSpec.ofChange seatBackWrong)

/-- 'jetwaylaw13.SeatFree': WHATEVER THE INPUT: true; the input reads as it did. -/
def seatFreeSpec : ChangeSpec := { name := "seatFree", fn := fun _ => fun
  | [d1, d2, d3] => { results := [.lit (.bool true)], args := [d1, d2, d3] }
  | _ => none }
def seatFreeRow : OpenClaim := { program := "ytnmmpiddmckghaadoor", sum := "0dd35ad5c5f76dace7662d0f82438d79e00a3689efc879a8e1e0d12af175ba3b", func := "jetway/jetwaylaw13.SeatFree", spec := "seatFree", named := ["internal/strconv.uint64pow10", "math/bits.deBruijn32tab", "math/bits.deBruijn64tab"], apart := false, laid := [("math/bits.deBruijn32tab", laid_math_bits_deBruijn32tab), ("math/bits.deBruijn64tab", laid_math_bits_deBruijn64tab), ("internal/strconv.uint64pow10", laid_internal_strconv_uint64pow10)] }
def SeatFreeSaid : Prop := seatFreeRow.holds Tryd.pinned (OpenSpec.ofChange seatFreeSpec)

/-- ITS FALSE NEIGHBOUR: 'it returns false'. Refute it at one input. -/
def seatFreeWrong : ChangeSpec := { name := "seatFree", fn := fun _ => fun
  | [d1, d2, d3] => { results := [.lit (.bool false)], args := [d1, d2, d3] }
  | _ => none }
def SeatFreeWrongFalsely : Prop := seatFreeRow.holds Tryd.pinned (OpenSpec.ofChange seatFreeWrong)

/-- 'jetwaylaw13.SeatTogether': WHATEVER THE INPUT: true; the input reads as it did. -/
def seatTogetherSpec : ChangeSpec := { name := "seatTogether", fn := fun _ => fun
  | [d1, d2, d3] => { results := [.lit (.bool true)], args := [d1, d2, d3] }
  | _ => none }
def seatTogetherRow : OpenClaim := { program := "ytnmmpiddmckghaadoor", sum := "0dd35ad5c5f76dace7662d0f82438d79e00a3689efc879a8e1e0d12af175ba3b", func := "jetway/jetwaylaw13.SeatTogether", spec := "seatTogether", named := ["internal/strconv.uint64pow10", "math/bits.deBruijn32tab", "math/bits.deBruijn64tab"], apart := false, laid := [("math/bits.deBruijn32tab", laid_math_bits_deBruijn32tab), ("math/bits.deBruijn64tab", laid_math_bits_deBruijn64tab), ("internal/strconv.uint64pow10", laid_internal_strconv_uint64pow10)] }
def SeatTogetherSaid : Prop := seatTogetherRow.holds Tryd.pinned (OpenSpec.ofChange seatTogetherSpec)

/-- ITS FALSE NEIGHBOUR: 'it returns false'. Refute it at one input. -/
def seatTogetherWrong : ChangeSpec := { name := "seatTogether", fn := fun _ => fun
  | [d1, d2, d3] => { results := [.lit (.bool false)], args := [d1, d2, d3] }
  | _ => none }
def SeatTogetherWrongFalsely : Prop := seatTogetherRow.holds Tryd.pinned (OpenSpec.ofChange seatTogetherWrong)

/-- 'jetwaylaw13.SeatApart': WHATEVER THE INPUT: true; the input reads as it did. -/
def seatApartSpec : ChangeSpec := { name := "seatApart", fn := fun _ => fun
  | [d1, d2, d3] => { results := [.lit (.bool true)], args := [d1, d2, d3] }
  | _ => none }
def seatApartRow : OpenClaim := { program := "ytnmmpiddmckghaadoor", sum := "0dd35ad5c5f76dace7662d0f82438d79e00a3689efc879a8e1e0d12af175ba3b", func := "jetway/jetwaylaw13.SeatApart", spec := "seatApart", named := ["internal/strconv.uint64pow10", "math/bits.deBruijn32tab", "math/bits.deBruijn64tab"], apart := false, laid := [("math/bits.deBruijn32tab", laid_math_bits_deBruijn32tab), ("math/bits.deBruijn64tab", laid_math_bits_deBruijn64tab), ("internal/strconv.uint64pow10", laid_internal_strconv_uint64pow10)] }
def SeatApartSaid : Prop := seatApartRow.holds Tryd.pinned (OpenSpec.ofChange seatApartSpec)

/-- ITS FALSE NEIGHBOUR: 'it returns false'. Refute it at one input. -/
def seatApartWrong : ChangeSpec := { name := "seatApart", fn := fun _ => fun
  | [d1, d2, d3] => { results := [.lit (.bool false)], args := [d1, d2, d3] }
  | _ => none }
def SeatApartWrongFalsely : Prop := seatApartRow.holds Tryd.pinned (OpenSpec.ofChange seatApartWrong)

/- THE SECOND FORM. 'bulk': how many values and letters a reading holds, each counted each time it is reached (what is shared counts as often as it is met; a slice's spare places count too). A statement '..UptoSaid' is the law's where the arguments, and the package variables that the reading takes, are together of bulk at most 1048576: NARROWER than '..Said'. Prove '..Said' where nothing that the law and all that it calls make is longer than what came in: it says more and counts as full. Else prove '..UptoSaid'. A law counts once. -/
mutual
def uptoBulk {H : Type} : DataW H → Nat
  | .lit (.string bytes) => bytes.length + 1
  | .lit _ => 1
  | .nil => 1
  | .ptr d => uptoBulk d + 1
  | .slice elems spare => uptoBulkAll elems + uptoBulkAll spare + 1
  | .agg parts => uptoBulkAll parts + 1
  | .iface _ d => uptoBulk d + 1
  | .map entries => uptoBulkEntries entries + 1
  | .held _ => 1
def uptoBulkAll {H : Type} : List (DataW H) → Nat
  | [] => 0
  | d :: r => uptoBulk d + uptoBulkAll r
def uptoBulkEntries {H : Type} : List (Lit × DataW H) → Nat
  | [] => 0
  | x :: r => uptoBulkEntry x + uptoBulkEntries r
def uptoBulkEntry {H : Type} : Lit × DataW H → Nat
  | (.string bytes, d) => bytes.length + uptoBulk d + 1
  | (_, d) => uptoBulk d + 1
 end
def uptoSmall : (H : Type) → List (DataW H) → Bool := fun _ ds => decide (uptoBulkAll ds ≤ 1048576)
def OpenSpec.upto (s : _root_.Go.ChangeSpec) : _root_.Go.OpenSpec := { _root_.Go.OpenSpec.ofChange s with cond := some uptoSmall }

/-- 'jetwaylaw13.SeatCounts', WHERE WHAT IT READS IS OF BULK AT MOST 1048576: true; the input reads as it did. -/
def seatCountsUptoRow : OpenClaim := { program := "ytnmmpiddmckghaadoor", sum := "0dd35ad5c5f76dace7662d0f82438d79e00a3689efc879a8e1e0d12af175ba3b", func := "jetway/jetwaylaw13.SeatCounts", spec := "seatCounts", named := ["internal/strconv.uint64pow10", "math/bits.deBruijn32tab", "math/bits.deBruijn64tab"], apart := false, laid := [("math/bits.deBruijn32tab", laid_math_bits_deBruijn32tab), ("math/bits.deBruijn64tab", laid_math_bits_deBruijn64tab), ("internal/strconv.uint64pow10", laid_internal_strconv_uint64pow10)], narrowed := true }
def SeatCountsUptoSaid : Prop := seatCountsUptoRow.holds Tryd.pinned (OpenSpec.upto seatCountsSpec)

/-- 'jetwaylaw13.SeatNames', WHERE WHAT IT READS IS OF BULK AT MOST 1048576: true; the input reads as it did. -/
def seatNamesUptoRow : OpenClaim := { program := "ytnmmpiddmckghaadoor", sum := "0dd35ad5c5f76dace7662d0f82438d79e00a3689efc879a8e1e0d12af175ba3b", func := "jetway/jetwaylaw13.SeatNames", spec := "seatNames", named := ["internal/strconv.uint64pow10", "math/bits.deBruijn32tab", "math/bits.deBruijn64tab"], apart := false, laid := [("math/bits.deBruijn32tab", laid_math_bits_deBruijn32tab), ("math/bits.deBruijn64tab", laid_math_bits_deBruijn64tab), ("internal/strconv.uint64pow10", laid_internal_strconv_uint64pow10)], narrowed := true }
def SeatNamesUptoSaid : Prop := seatNamesUptoRow.holds Tryd.pinned (OpenSpec.upto seatNamesSpec)

/-- 'jetwaylaw13.SeatBest', WHERE WHAT IT READS IS OF BULK AT MOST 1048576: true; the input reads as it did. -/
def seatBestUptoRow : OpenClaim := { program := "ytnmmpiddmckghaadoor", sum := "0dd35ad5c5f76dace7662d0f82438d79e00a3689efc879a8e1e0d12af175ba3b", func := "jetway/jetwaylaw13.SeatBest", spec := "seatBest", named := ["internal/strconv.uint64pow10", "math/bits.deBruijn32tab", "math/bits.deBruijn64tab"], apart := false, laid := [("math/bits.deBruijn32tab", laid_math_bits_deBruijn32tab), ("math/bits.deBruijn64tab", laid_math_bits_deBruijn64tab), ("internal/strconv.uint64pow10", laid_internal_strconv_uint64pow10)], narrowed := true }
def SeatBestUptoSaid : Prop := seatBestUptoRow.holds Tryd.pinned (OpenSpec.upto seatBestSpec)

/-- 'jetwaylaw13.SeatBack', WHERE WHAT IT READS IS OF BULK AT MOST 1048576: true; the input reads as it did. -/
def seatBackUptoRow : OpenClaim := { program := "ytnmmpiddmckghaadoor", sum := "0dd35ad5c5f76dace7662d0f82438d79e00a3689efc879a8e1e0d12af175ba3b", func := "jetway/jetwaylaw13.SeatBack", spec := "seatBack", named := ["internal/strconv.uint64pow10", "math/bits.deBruijn32tab", "math/bits.deBruijn64tab"], apart := false, laid := [("math/bits.deBruijn32tab", laid_math_bits_deBruijn32tab), ("math/bits.deBruijn64tab", laid_math_bits_deBruijn64tab), ("internal/strconv.uint64pow10", laid_internal_strconv_uint64pow10)], narrowed := true }
def SeatBackUptoSaid : Prop := seatBackUptoRow.holds Tryd.pinned (OpenSpec.upto seatBackSpec)

/-- 'jetwaylaw13.SeatFree', WHERE WHAT IT READS IS OF BULK AT MOST 1048576: true; the input reads as it did. -/
def seatFreeUptoRow : OpenClaim := { program := "ytnmmpiddmckghaadoor", sum := "0dd35ad5c5f76dace7662d0f82438d79e00a3689efc879a8e1e0d12af175ba3b", func := "jetway/jetwaylaw13.SeatFree", spec := "seatFree", named := ["internal/strconv.uint64pow10", "math/bits.deBruijn32tab", "math/bits.deBruijn64tab"], apart := false, laid := [("math/bits.deBruijn32tab", laid_math_bits_deBruijn32tab), ("math/bits.deBruijn64tab", laid_math_bits_deBruijn64tab), ("internal/strconv.uint64pow10", laid_internal_strconv_uint64pow10)], narrowed := true }
def SeatFreeUptoSaid : Prop := seatFreeUptoRow.holds Tryd.pinned (OpenSpec.upto seatFreeSpec)

/-- 'jetwaylaw13.SeatTogether', WHERE WHAT IT READS IS OF BULK AT MOST 1048576: true; the input reads as it did. -/
def seatTogetherUptoRow : OpenClaim := { program := "ytnmmpiddmckghaadoor", sum := "0dd35ad5c5f76dace7662d0f82438d79e00a3689efc879a8e1e0d12af175ba3b", func := "jetway/jetwaylaw13.SeatTogether", spec := "seatTogether", named := ["internal/strconv.uint64pow10", "math/bits.deBruijn32tab", "math/bits.deBruijn64tab"], apart := false, laid := [("math/bits.deBruijn32tab", laid_math_bits_deBruijn32tab), ("math/bits.deBruijn64tab", laid_math_bits_deBruijn64tab), ("internal/strconv.uint64pow10", laid_internal_strconv_uint64pow10)], narrowed := true }
def SeatTogetherUptoSaid : Prop := seatTogetherUptoRow.holds Tryd.pinned (OpenSpec.upto seatTogetherSpec)

/-- 'jetwaylaw13.SeatApart', WHERE WHAT IT READS IS OF BULK AT MOST 1048576: true; the input reads as it did. -/
def seatApartUptoRow : OpenClaim := { program := "ytnmmpiddmckghaadoor", sum := "0dd35ad5c5f76dace7662d0f82438d79e00a3689efc879a8e1e0d12af175ba3b", func := "jetway/jetwaylaw13.SeatApart", spec := "seatApart", named := ["internal/strconv.uint64pow10", "math/bits.deBruijn32tab", "math/bits.deBruijn64tab"], apart := false, laid := [("math/bits.deBruijn32tab", laid_math_bits_deBruijn32tab), ("math/bits.deBruijn64tab", laid_math_bits_deBruijn64tab), ("internal/strconv.uint64pow10", laid_internal_strconv_uint64pow10)], narrowed := true }
def SeatApartUptoSaid : Prop := seatApartUptoRow.holds Tryd.pinned (OpenSpec.upto seatApartSpec)

end Rows
end Go.Proofs.YtnmmpiddmckghaaDoor
