/-
  One act by value, opened to its cells. Conditions: as each theorem states.
-/
import Derived.Test.YthdpdhjhpbkhaaaDiskOpen
import Derived.Test.YthdpdhjhpbkhaaaDiskDoes
namespace Go.Proofs.Ythdpdhjhpbkhaaa.Dk
open Go.RowKit Go.ChangeShapes Go.WideShapes Go.Deep Go.Proofs.Ythdpdhjhpbkhaaa.Fld
section
variable {H : Type} {encH : TypeId × Value → H} {w : World} {base : Nat} {spare : Nat → Bool} {held : Bool}
set_option maxRecDepth 100000 in
theorem open_actv {r : Reach} {b0 : Nat} {v : Value} {d : DataW H} {p : List MemPlace} (hv : Value.okWide Try.prog w r b0 36 v) (h : DataW.Trod encH Try.prog w base spare held 36 v d p) :
    ∃ a : Acc, v = actV a ∧ a.Ok w := by
  have hC : Try.prog.cellsOf 36 = 6 := by kernel_rfl
  obtain ⟨cs, rfl, hsz⟩ : ∃ cs : Array Value, v = .agg cs ∧ cs.size = 6 := by
    simp only [Value.okWide, Try.underlying36] at hv
    obtain ⟨cs, rfl, hs, _⟩ := hv
    exact ⟨cs, rfl, by rw [hs, hC]⟩
  obtain ⟨fuel, hf⟩ := h
  obtain ⟨a, hok, he⟩ := open_act hf (by simpa [Value.cells] using hsz)
  refine ⟨a, ?_, hok⟩
  have h1 : cs.toList = a.cells := by simpa [Value.cells] using he
  obtain ⟨l⟩ := cs
  simp only at h1
  subst h1
  rfl
end
end Go.Proofs.Ythdpdhjhpbkhaaa.Dk
