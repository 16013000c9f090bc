/-
  Layer 8: SameEntries, where the lengths are unlike; a slice of steps opened with where its room lies. Conditions: none.
-/
import Derived.Test.YtimplhdliaggfaaRlgO
import Derived.Test.YtimplhdliaggfaaRlgOpn
namespace Go.Proofs.Ytimplhdliaggfaa.Rg
open Go.RowKit Go.ChangeShapes Go.WideShapes Go.Deep Go.Proofs.Ytimplhdliaggfaa.Fld
set_option linter.unusedVariables false

set_option maxRecDepth 100000 in
theorem same_no (A : Option Addr) (n cap : Nat) (B : Option Addr) (m cap' : Nat) (w : World) (h : n ≠ m) : Calls Try.prog 13 #[.slice A n cap, .slice B m cap'] w fun e w' => e = .returned (.bool false) ∧ w = w' := by
  have h1 : ¬ (n : Int) = (m : Int) := by omega
  go_enter Try.func13, Try.ntmps13
  go_wp2
  go_ret
  exact ⟨rfl, rfl⟩
section
variable {H : Type} {encH : TypeId × Value → H} {w : World} {base : Nat} {spare : Nat → Bool} {held : Bool}
theorem open_steps_n {fuel : Nat} {A : Option Addr} {len cap : Nat} {x : DataW H × List MemPlace} (h : DataW.trod encH Try.prog w base spare held fuel 22 [.slice A len cap] = some x) : len ≤ cap ∧ (A = none → cap = 0) := by
  rcases open_slice Try.underlying22 h with ⟨hcs, _⟩ | ⟨a, len', cap', m, n, D, Pl, hcs, hb, hl, hm, hmm, hx, hi⟩
  · simp at hcs
    obtain ⟨rfl, rfl, rfl⟩ := hcs
    exact ⟨Nat.le_refl _, fun _ => rfl⟩
  · simp at hcs
    obtain ⟨rfl, rfl, rfl⟩ := hcs
    exact ⟨by omega, fun h => by cases h⟩
end
end Go.Proofs.Ytimplhdliaggfaa.Rg
