/-
  Layer 8: RlogScripts. Conditions: the arguments can be read.
-/
import Derived.Test.YtimplhdliaggfaaRlgT
import Derived.Test.YtimplhdliaggfaaRlgU
import Derived.Test.YtimplhdliaggfaaRlgV
import Derived.Test.YtimplhdliaggfaaRlgX
namespace Go.Proofs.Ytimplhdliaggfaa.Rg
open Go.RowKit Go.Proofs.Ytimplhdliaggfaa.Fld
set_option linter.unusedVariables false

/-- the sizes that a few entries keep -/
theorem few_at {l : List Stp} (h : ∀ k, k ≤ l.length → k ≤ 100 → sumN (l.take k) ≤ 5000) (i : Nat) (hi : i < l.length) (hi2 : i < 100) : sumN (l.take (i + 1)) = sumN (l.take i) + l[i].n ∧ sumN (l.take i) ≤ 5000 ∧ l[i].n ≤ 5000 := by
  have h1 := sumN_take l i hi
  have h2 := h (i + 1) (by omega) (by omega)
  exact ⟨h1, by omega, by omega⟩
theorem len_do {W0 w w' : World} {g : Nat} {v v' : Value} {s : St} {xs xs' : List EA} {x : Stp} (h : Im W0.heap.size w g s v xs) (h' : Im W0.heap.size w' g (stDo x s) v' xs') (hx : x.ls.length = x.n) : xs'.length ≤ xs.length + x.n := by
  have h1 := stDo_len x s
  rw [h.n, h'.n, hx] at h1
  exact h1
end Go.Proofs.Ytimplhdliaggfaa.Rg
