/-
  Layer 8: how many steps a slice of them has room for, as its reading says. No condition.
-/
import Derived.Test.YtimplhdliaggfaaRlgSno
namespace Go.Proofs.Ytimplhdliaggfaa.Rg
open Go.RowKit Go.ChangeShapes Go.WideShapes Go.Deep Go.Proofs.Ytimplhdliaggfaa.Fld
set_option linter.unusedVariables false

section
variable {H : Type} {encH : TypeId × Value → H} {w : World} {base : Nat} {held : Bool}
theorem open_steps_x {fuel : Nat} {A : Option Addr} {len cap : Nat} {x : DataW H × List MemPlace} (h : DataW.trod encH Try.prog w base (fun _ => true) held fuel 22 [.slice A len cap] = some x) : len = 0 ∨ ∃ els sp, x.1 = .slice els sp ∧ els.length + sp.length = cap ∧ len ≤ cap := by
  rcases open_slice Try.underlying22 h with ⟨hcs, _⟩ | ⟨a, len', cap', m, n, D, Pl, hcs, hb, hl, hm, hmm, hx, hi⟩
  · simp at hcs
    exact .inl hcs.2.1
  · simp at hcs
    obtain ⟨rfl, rfl, rfl⟩ := hcs
    have hmc : m = cap := by simpa using hmm
    refine .inr ⟨_, _, by rw [hx], ?_, hl⟩
    simp only [List.length_map, List.length_range]
    omega
end
end Go.Proofs.Ytimplhdliaggfaa.Rg
