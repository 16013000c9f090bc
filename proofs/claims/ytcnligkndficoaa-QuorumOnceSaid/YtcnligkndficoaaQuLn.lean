/-
  Layer 9, lists of lists for the laws' first question. Conditions: the lists can be read.
-/
import Derived.Test.YtcnligkndficoaaQuL
import Derived.Deep.RegionHeld3
import Derived.Deep.RegionWith
namespace Go.Proofs.Ytcnligkndficoaa.Qu
open Go.RowKit Go.Proofs.Ytcnligkndficoaa.Fld
set_option linter.unusedVariables false

theorem lens_none (w : World) : Lens w none 0 [] := ⟨rfl, by omega, fun h => by omega⟩
theorem lens_one (w : World) (A : Option Addr) (n c : Nat) (ty : TypeId) : Lens (w.alloc (.cells #[.slice A n c] ty)) (some ⟨w.heap.size, 0, none⟩) 1 [n] := by
  have hk := Blk.new w #[.slice A n c] ty
  refine ⟨rfl, by omega, fun _ => ⟨_, 0, rfl, fun i hi => ?_⟩⟩
  obtain rfl : i = 0 := by omega
  exact ⟨A, c, hk.cell 0 _ rfl⟩
theorem lens_two (w : World) (A B : Option Addr) (n m c d : Nat) (ty : TypeId) : Lens (w.alloc (.cells #[.slice A n c, .slice B m d] ty)) (some ⟨w.heap.size, 0, none⟩) 2 [n, m] := by
  have hk := Blk.new w #[.slice A n c, .slice B m d] ty
  refine ⟨rfl, by omega, fun _ => ⟨_, 0, rfl, fun i hi => ?_⟩⟩
  have : i = 0 ∨ i = 1 := by omega
  rcases this with rfl | rfl
  · exact ⟨A, c, hk.cell 0 _ rfl⟩
  · exact ⟨B, d, hk.cell 1 _ rfl⟩
end Go.Proofs.Ytcnligkndficoaa.Qu
