/-
  Slices of slices of bytes (RdL): what can be read of them, and as the given row reads them. No condition but those that each theorem states.
-/
import Derived.Test.YtgmpdifggaggdaaGreatDoorJFieldBase
import Derived.Deep.Slices
import Derived.ChangeSame
import Derived.OpenShut
namespace Go.Proofs.YtgmpdifggaggdaaGreatDoor.Fld
open Go.RowKit Go.ChangeShapes Go.WideShapes Go.Deep

/-- a slice that holds slices of the bytes ls -/
def RdL (w : World) (B : Option Addr) (m : Nat) (ls : List (List Int)) : Prop :=
  ls.length = m ∧ m ≤ maxLen ∧ (0 < m → ∃ b off, B = some ⟨b, off, none⟩ ∧ ∀ i, i < m → ∃ A n cap, w.cell? ⟨b, off + i, none⟩ = some (.slice A n cap) ∧ Rd w A n (ls.getD i []) ∧ (A = none → cap = 0))
theorem RdL.below {w w' : World} {B : Option Addr} {m : Nat} {ls : List (List Int)} (h : RdL w B m ls) (hb : Below w.heap.size w w') : RdL w' B m ls := by
  obtain ⟨h1, h2, h3⟩ := h
  refine ⟨h1, h2, fun hm => ?_⟩
  obtain ⟨b, off, e, hc⟩ := h3 hm
  refine ⟨b, off, e, fun i hi => ?_⟩
  obtain ⟨A, n, cap, c0, hs, hA⟩ := hc i hi
  exact ⟨A, n, cap, (hb.cell (lt_of_cell c0)).trans c0, hs.below hb, hA⟩
theorem RdL.cut {w : World} {B : Option Addr} {m : Nat} {ls : List (List Int)} (h : RdL w B m ls) (N : Nat) (hN : N ≤ m) : RdL w B N (ls.take N) := by
  obtain ⟨h1, h2, h3⟩ := h
  refine ⟨by rw [List.length_take]; omega, by omega, fun hm => ?_⟩
  obtain ⟨b, off, e, hc⟩ := h3 (by omega)
  refine ⟨b, off, e, fun i hi => ?_⟩
  obtain ⟨A, n, cap, c0, hs⟩ := hc i (by omega)
  refine ⟨A, n, cap, c0, ?_⟩
  rw [List.getD_eq_getElem?_getD, List.getElem?_take, if_pos hi, ← List.getD_eq_getElem?_getD]
  exact hs

section
variable {H : Type} {encH : TypeId × Value → H} {w : World} {base : Nat} {spare : Nat → Bool} {held : Bool}
theorem open_bytes {fuel : Nat} {v : Value} {x : DataW H × List MemPlace} (h : DataW.trod encH Tryz.prog w base spare held fuel 45 [v] = some x) : ∃ A n cap zs, v = .slice A n cap ∧ Rd w A n zs ∧ (A = none → cap = 0) := by
  rcases open_ints Tryz.underlying45 Tryz.underlying5 (by kernel_rfl) h with ⟨hcs, _⟩ | ⟨a, l, c, zs, hcs, _, hl, hm, hz, _, hcell, hwz⟩
  · simp at hcs
    exact ⟨none, 0, 0, [], hcs, Rd.nil w, fun _ => rfl⟩
  · simp at hcs
    refine ⟨some a, l, c, zs.take l, hcs, ?_, fun h => by cases h⟩
    have hzl : l ≤ zs.length := by rw [hz]; split <;> omega
    have hzc : zs.length ≤ maxLen := by rw [hz]; split <;> omega
    exact Rd.of_cells hzl hzc rfl hcell hwz
theorem open_lists {fuel : Nat} {A : Option Addr} {len cap : Nat} {x : DataW H × List MemPlace} (h : DataW.trod encH Tryz.prog w base spare held fuel 104 [.slice A len cap] = some x) : ∃ ls, RdL w A len ls ∧ len ≤ cap := by
  rcases open_slice Tryz.underlying104 h with ⟨hcs, _⟩ | ⟨a, len', cap', m, n, D, Pl, hcs, hb, hl, hm, hmm, hx, hi⟩
  · simp at hcs
    obtain ⟨rfl, rfl, rfl⟩ := hcs
    exact ⟨[], ⟨rfl, by unfold maxLen; omega, fun h => by omega⟩, Nat.le_refl _⟩
  · simp at hcs
    obtain ⟨rfl, rfl, rfl⟩ := hcs
    have hlm : len ≤ m := by rw [hmm]; split <;> omega
    have hC : Tryz.prog.cellsOf 45 = 1 := by kernel_rfl
    have each : ∀ i, ∃ zs : List Int, i < len → ∃ A n cap, w.cell? (a.add i) = some (.slice A n cap) ∧ Rd w A n zs ∧ (A = none → cap = 0) := by
      intro i
      by_cases hil : i < len
      · obtain ⟨cs', hc, ht'⟩ := hi i (by omega)
        rw [hC, Nat.mul_one] at hc
        obtain ⟨_, hcl, hat⟩ := World.cells?_some hc
        match cs', hcl with
        | [v], _ =>
          obtain ⟨A1, n1, c1, zs, rfl, hr, hA⟩ := open_bytes ht'
          refine ⟨zs, fun _ => ⟨A1, n1, c1, ?_, hr, hA⟩⟩
          have := hat 0 (by omega)
          rw [add_add, Nat.add_zero] at this
          exact this
      · exact ⟨[], fun h => absurd h hil⟩
    obtain ⟨f, hf⟩ := Classical.axiomOfChoice each
    clear each
    refine ⟨(List.range len).map f, ⟨by simp, by omega, fun hp => ?_⟩, hl⟩
    obtain ⟨b, off, sp⟩ := a
    have hspot : sp = none := by
      obtain ⟨_, _, _, h0, _⟩ := hf 0 hp
      simpa [Addr.add] using World.cell?_spot h0
    subst hspot
    refine ⟨b, off, rfl, fun i hil => ?_⟩
    obtain ⟨A1, n1, c1, hc, hr, hA⟩ := hf i hil
    have ea : ∀ k, (⟨b, off, none⟩ : Addr).add k = ⟨b, off + k, none⟩ := fun k => by unfold Addr.add; split <;> simp_all
    rw [ea] at hc
    exact ⟨A1, n1, c1, hc, by simpa [hil] using hr, hA⟩
theorem open_lists_n {fuel : Nat} {A : Option Addr} {len cap : Nat} {x : DataW H × List MemPlace} (h : DataW.trod encH Tryz.prog w base spare held fuel 104 [.slice A len cap] = some x) : ∃ ls, RdL w A len ls ∧ len ≤ cap ∧ (A = none → cap = 0) := by
  obtain ⟨ls, h1, h2⟩ := open_lists h
  refine ⟨ls, h1, h2, ?_⟩
  rcases open_slice Tryz.underlying104 h with ⟨hcs, _⟩ | ⟨a, len', cap', m, n, D, Pl, hcs, _⟩
  · simp at hcs
    obtain ⟨rfl, rfl, rfl⟩ := hcs
    exact fun _ => rfl
  · simp at hcs
    obtain ⟨rfl, rfl, rfl⟩ := hcs
    exact fun h => by cases h
end
end Go.Proofs.YtgmpdifggaggdaaGreatDoor.Fld
