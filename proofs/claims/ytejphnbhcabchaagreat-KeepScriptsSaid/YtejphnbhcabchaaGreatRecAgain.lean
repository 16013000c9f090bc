/-
  That the laws RecordAgain and RecordFirst answer true and leave all memory that was there as it was. Conditions: the slices can be read.
-/
import Derived.Test.YtejphnbhcabchaaGreatRecWhole
namespace Go.Proofs.YtejphnbhcabchaaGreat.Rc
open Go.RowKit
open Fld (Bytes val Rd RdL conv_str str)
set_option linter.unusedVariables false

theorem run_to_any (A : Option Addr) (n cap u : Nat) (hA : A = none → cap = 0) (hu : u ≤ cap) (W : World) : (Instr.slice 36 (.slice A n cap) none (some (.int .i64 (u : Int))) none).run Tryz.prog W = .ok (.slice A u cap) W := by
  cases A with
  | some a => exact run_to a n cap u hu W
  | none =>
    obtain rfl := hA rfl
    obtain rfl : u = 0 := by omega
    go_simp
end Go.Proofs.YtejphnbhcabchaaGreat.Rc
