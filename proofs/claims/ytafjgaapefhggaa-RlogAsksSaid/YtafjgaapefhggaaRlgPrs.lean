/-
  Arguments opened to cells: a slice of pairs of numbers, as the given row reads it. No condition.
-/
import Derived.Test.YtafjgaapefhggaaRlgOpn
namespace Go.Proofs.Ytafjgaapefhggaa.Rg
open Go.RowKit Go.ChangeShapes Go.WideShapes Go.Deep Go.Proofs.Ytafjgaapefhggaa.Fld
set_option linter.unusedVariables false

/-- a slice of pairs of numbers -/
def RdP (w : World) (A : Option Addr) (n : Nat) (ps : List (Int × Int)) : Prop :=
  ps.length = n ∧ n ≤ maxLen ∧ (0 < n → ∃ b off, A = some ⟨b, off, none⟩ ∧ ∀ i, i < n → w.cell? ⟨b, off + i * 2, none⟩ = some (.int .i64 (ps.getD i (0, 0)).1) ∧ w.cell? ⟨b, off + i * 2 + 1, none⟩ = some (.int .i64 (ps.getD i (0, 0)).2)) ∧ ∀ p ∈ ps, -9223372036854775808 ≤ p.1 ∧ p.1 ≤ 9223372036854775807
theorem RdP.below {w w' : World} {A : Option Addr} {n : Nat} {ps : List (Int × Int)} (h : RdP w A n ps) (hb : Below w.heap.size w w') : RdP w' A n ps := by
  obtain ⟨h1, h2, h3, h4⟩ := h
  refine ⟨h1, h2, fun hn => ?_, h4⟩
  obtain ⟨b, off, e, hc⟩ := h3 hn
  refine ⟨b, off, e, fun i hi => ?_⟩
  obtain ⟨c0, c1⟩ := hc i hi
  exact ⟨(hb.cell (lt_of_cell c0)).trans c0, (hb.cell (lt_of_cell c1)).trans c1⟩
section
variable {H : Type} {encH : TypeId × Value → H} {w : World} {base : Nat} {spare : Nat → Bool} {held : Bool}
set_option maxRecDepth 100000 in
theorem open_pairs {fuel : Nat} {A : Option Addr} {len cap : Nat} {x : DataW H × List MemPlace} (h : DataW.trod encH Try.prog w base spare held fuel 36 [.slice A len cap] = some x) : ∃ qs, RdP w A len qs := by
  rcases open_slice Try.underlying36 h with ⟨hcs, _⟩ | ⟨a, len', cap', m, n, D, Pl, hcs, hb, hl, hm, hmm, hx, hi⟩
  · simp at hcs
    obtain ⟨rfl, rfl, rfl⟩ := hcs
    exact ⟨[], rfl, by unfold maxLen; omega, (fun h => by omega), fun p hp => by simp at hp⟩
  · simp at hcs
    obtain ⟨rfl, rfl, rfl⟩ := hcs
    have hlm : len ≤ m := by rw [hmm]; split <;> omega
    have hC : Try.prog.cellsOf 28 = 2 := by kernel_rfl
    have each : ∀ i, ∃ q : Int × Int, i < len → w.cell? (a.add (i * 2)) = some (.int .i64 q.1) ∧ w.cell? (a.add (i * 2 + 1)) = some (.int .i64 q.2) ∧ (-9223372036854775808 ≤ q.1 ∧ q.1 ≤ 9223372036854775807) := by
      intro i
      by_cases hil : i < len
      · obtain ⟨cs', hc, ht'⟩ := hi i (by omega)
        rw [hC] at hc
        obtain ⟨_, hcl, hat⟩ := World.cells?_some hc
        have hI : Try.prog.cellsOf 3 = 1 := by kernel_rfl
        match cs', hcl with
        | [v0, v1], _ =>
          obtain ⟨xs, m', _, _, _, hl', hx'⟩ := DataW.trod_array Try.underlying28 ht'
          have x0 := hx' 0 (by omega)
          have x1 := hx' 1 (by omega)
          rw [hI, List.getElem?_eq_getElem (by omega)] at x0 x1
          obtain ⟨n0, e0, _, w0⟩ := DataW.trod_int Try.underlying3 x0
          obtain ⟨n1, e1, _, w1⟩ := DataW.trod_int Try.underlying3 x1
          simp at e0 e1
          subst e0 e1
          refine ⟨(n0, n1), fun _ => ⟨?_, ?_, i64_of_wf w0⟩⟩
          · have := hat 0 (by omega)
            rw [add_add, Nat.add_zero] at this
            exact this
          · have := hat 1 (by omega)
            rw [add_add] at this
            exact this
      · exact ⟨(0, 0), fun h => absurd h hil⟩
    obtain ⟨f, hf⟩ := Classical.axiomOfChoice each
    clear each
    refine ⟨(List.range len).map f, by simp, by omega, (fun hp => ?_), fun p hp => ?_⟩
    · obtain ⟨b, off, sp⟩ := a
      have hspot : sp = none := by
        have h0 := (hf 0 hp).1
        simpa [Addr.add] using World.cell?_spot h0
      subst hspot
      refine ⟨b, off, rfl, fun i hil => ?_⟩
      have hq := hf i hil
      have ea : ∀ k, (⟨b, off, none⟩ : Addr).add k = ⟨b, off + k, none⟩ := fun k => by unfold Addr.add; split <;> simp_all
      rw [ea, ea, ← Nat.add_assoc] at hq
      simp [hil]
      exact ⟨hq.1, hq.2.1⟩
    · simp only [List.mem_map, List.mem_range] at hp
      obtain ⟨i, hi, rfl⟩ := hp
      exact (hf i hi).2.2
end
end Go.Proofs.Ytafjgaapefhggaa.Rg
