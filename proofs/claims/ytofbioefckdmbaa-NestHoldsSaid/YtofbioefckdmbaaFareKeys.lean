/-
  What the functions Key and Of of package fare, and the document's own, answer for whatever they are called with. Conditions: as each theorem states.
-/
import Derived.Test.YtofbioefckdmbaaChecked
import Derived.Test.YtofbioefckdmbaaFareMath
import Derived.WalkKit
import Derived.WalkLawsBesides
import Derived.LoopTactic
import Derived.Outline
import Derived.IntWalk
import Derived.Lib.Hide
import Derived.Laws.Externs
namespace Go.Proofs.Ytofbioefckdmbaa.Fr
open Go.RowKit

/-- The place of a float in the order of all, by its bits; the bits at a place. -/
def key (x : Nat) : Nat := if x < 9223372036854775808 then x + 9223372036854775808 else 18446744073709551615 - x
def bitsAt (k : Nat) : Nat := if k < 9223372036854775808 then 18446744073709551615 - k else k - 9223372036854775808

theorem key_lt (x : Nat) (h : x < 18446744073709551616) : key x < 18446744073709551616 := by unfold key; split <;> omega
theorem bitsAt_lt (x : Nat) (h : x < 18446744073709551616) : bitsAt x < 18446744073709551616 := by unfold bitsAt; split <;> omega
theorem key_bitsAt (k : Nat) (h : k < 18446744073709551616) : key (bitsAt k) = k := by unfold key bitsAt; split <;> split <;> omega
theorem bitsAt_key (k : Nat) (h : k < 18446744073709551616) : bitsAt (key k) = k := by unfold key bitsAt; split <;> split <;> omega

theorem retk {a b : Int} (h : a = b) : Ending.returned (.int .u64 a) = .returned (.int .u64 b) := by rw [h]
theorem retf {a b : Nat} (h : a = b) : Ending.returned (.float .f64 a) = .returned (.float .f64 b) := by rw [h]

end Go.Proofs.Ytofbioefckdmbaa.Fr
