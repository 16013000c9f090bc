/-
  That the law RecordFirst answers true and leaves all memory that was there as it was. Conditions: the slices can be read.
-/
import Derived.Test.YtejphnbhcabchaaGreatRecAgain
namespace Go.Proofs.YtejphnbhcabchaaGreat.Rc
open Go.RowKit
open Fld (Bytes val Rd RdL)
set_option linter.unusedVariables false

theorem run_toL (A : Option Addr) (n cap u : Nat) (hA : A = none → cap = 0) (hu : u ≤ cap) (W : World) : (Instr.slice 127 (.slice A n cap) none (some (.int .i64 (u : Int))) none).run Tryz.prog W = .ok (.slice A u cap) W := by
  cases A with
  | some a =>
    have h1 : (0 : Int) ≤ (u : Int) := by omega
    have h3 : (u : Int) ≤ (cap : Int) := by omega
    go_simp
  | none =>
    obtain rfl := hA rfl
    obtain rfl : u = 0 := by omega
    go_simp
theorem below_drew {B : Nat} {a w : World} (h : Below B a w) (n : Nat) : Below B a (w.drewN n) := h.trans ⟨rfl, rfl, rfl, Nat.le_refl _, fun _ _ => rfl⟩
end Go.Proofs.YtejphnbhcabchaaGreat.Rc
