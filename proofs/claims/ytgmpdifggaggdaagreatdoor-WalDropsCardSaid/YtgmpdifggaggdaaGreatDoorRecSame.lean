/-
  What the document's own Same answers for two lists of bytes that are the same: true. Conditions: the lists can be read.
-/
import Derived.Test.YtgmpdifggaggdaaGreatDoorRecRdL
import Derived.Test.YtgmpdifggaggdaaGreatDoorRecScan
import Derived.Deep.QuietTactic
import Derived.BigQuiet
namespace Go.Proofs.YtgmpdifggaggdaaGreatDoor.Rc
open Go.RowKit
open Fld (Bytes val Rd RdL conv_str str)
set_option linter.unusedVariables false

theorem rows_rdl {w wr : World} {v : Value} {ts : List (List Int)} (h : Rows w wr v ts) (hm : ts.length ≤ maxLen) : ∃ B cap, v = .slice B ts.length cap ∧ RdL wr B ts.length ts ∧ ts.length ≤ cap ∧ (B = none → cap = 0) := by
  obtain ⟨vs, ⟨h1, h2⟩, he⟩ := h
  rcases h2 with ⟨rfl, h0⟩ | ⟨g, cap, cur, rfl, hg, hh, hnc, hcm, hcs, hcu⟩
  · exact ⟨none, 0, by rw [h0], ⟨rfl, hm, fun hp => by omega⟩, by omega, fun _ => rfl⟩
  · refine ⟨_, cap, rfl, ⟨rfl, hm, fun hp => ⟨g, 0, rfl, fun i hi => ?_⟩⟩, hnc, fun h => by cases h⟩
    obtain ⟨A, n, c, e1, e2, e3, _⟩ := he i hi
    refine ⟨A, n, c, ?_, e2, e3⟩
    rw [Nat.zero_add, cell_of_row wr g i cur _ (0, 0) hh, ← e1, ← hcu, List.getElem?_take, if_pos (by omega), Array.getElem?_toList]
theorem rdl_drewN {w : World} {B : Option Addr} {m : Nat} {ls : List (List Int)} (h : RdL w B m ls) (k : Nat) : RdL (w.drewN k) B m ls := h.below ⟨rfl, rfl, rfl, Nat.le_refl _, fun _ _ => rfl⟩
theorem rdl_at {w : World} {B : Option Addr} {m : Nat} {ls : List (List Int)} (h : RdL w B m ls) (i : Nat) (hi : i < m) : ∃ b off A n c, B = some ⟨b, off, none⟩ ∧ w.cell? ⟨b, off + i, none⟩ = some (.slice A n c) ∧ Rd w A n (ls.getD i []) ∧ (A = none → c = 0) := by
  obtain ⟨b, off, e, hc⟩ := h.2.2 (by omega)
  obtain ⟨A, n, c, h1, h2, h3⟩ := hc i hi
  exact ⟨b, off, A, n, c, e, h1, h2, h3⟩
theorem drew_add (w : World) (a b : Nat) : (w.drewN a).drewN b = w.drewN (a + b) := by simp [World.drewN, Nat.add_assoc]
def SameR (w : World) (m : Nat) (i : Value) (wr : World) : Prop := ∃ k d : Nat, k ≤ m ∧ i = .int .i64 (k : Int) ∧ wr = w.drewN d
end Go.Proofs.YtgmpdifggaggdaaGreatDoor.Rc
