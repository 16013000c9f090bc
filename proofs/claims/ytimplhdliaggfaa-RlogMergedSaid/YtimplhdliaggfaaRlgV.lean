/-
  Layer 8: alike: both logs stand the same. Conditions: both lie in memory that they do not share, in one state of at most 100000 entries.
-/
import Derived.Test.YtimplhdliaggfaaRlgS
import Derived.Test.YtimplhdliaggfaaRlgP
import Derived.Test.YtimplhdliaggfaaRlgO
namespace Go.Proofs.Ytimplhdliaggfaa.Rg
open Go.RowKit Go.Proofs.Ytimplhdliaggfaa.Fld
set_option linter.unusedVariables false

theorem getE_all {s : St} (h : s.es.length ≤ 100000) : getE s (s.base + 1) 100000 = s.es := by
  unfold getE
  split
  · next hc =>
    unfold St.last at hc
    have : s.es.length = 0 := by omega
    rw [List.eq_nil_of_length_eq_zero this]
  · rw [show (s.base + 1 - s.base - 1).toNat = 0 by omega, List.drop_zero, List.take_of_length_le (by simpa using h)]
theorem data_le {s : St} (h : s.Ok) {xs : List EA} (he : ens xs = s.es) : ∀ x ∈ xs, x.e.data.length ≤ 140737488351232 := fun x hx => by
  have := (okE_iff _).1 (okL_mem h.ok (e := x.e) (by rw [← he]; unfold ens; exact List.mem_map_of_mem hx))
  omega
end Go.Proofs.Ytimplhdliaggfaa.Rg
