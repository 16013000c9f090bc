/-
  Arguments opened to cells: a slice of readings (RdA), as the given row reads it. No condition.
-/
import Derived.Test.YtiegihopjhbliaaFieldStays
import Derived.Deep.Slices
import Derived.Deep.Fields
import Derived.ChangeSame
namespace Go.Proofs.Ytiegihopjhbliaa.Fld
open Go.RowKit Go.ChangeShapes Go.WideShapes Go.Deep

theorem one_cell {α : Type} {l : List α} (j : Nat) {v : α} (h : l[j]? = some v) : (l.drop j).take 1 = [v] := by
  obtain ⟨hj, he⟩ := List.getElem?_eq_some_iff.1 h
  rw [List.drop_eq_getElem_cons hj, he]
  rfl
section
variable {H : Type} {encH : TypeId × Value → H} {w : World} {base : Nat} {spare : Nat → Bool} {held : Bool}
theorem int_cell {n off : Nat} {t : TypeId} {cs : List Value} {y : Option (DataW H × List MemPlace)} (hy : y.isSome = true) (ht : Try.prog.underlying t = some (.int .i64)) (hc : Try.prog.cellsOf t = 1) (hl : off < cs.length)
    (h : DataW.trod encH Try.prog w base spare held n t ((cs.drop off).take (Try.prog.cellsOf t)) = y) : ∃ x : Int, cs[off]? = some (.int .i64 x) ∧ -9223372036854775808 ≤ x ∧ x ≤ 9223372036854775807 := by
  obtain ⟨z, rfl⟩ := Option.isSome_iff_exists.1 hy
  rw [hc, one_cell off (List.getElem?_eq_getElem hl)] at h
  obtain ⟨x, hx, _, hw⟩ := DataW.trod_int ht h
  refine ⟨x, ?_, i64_of_wf hw⟩
  rw [List.getElem?_eq_getElem hl]
  simpa using hx
theorem open_asks {fuel : Nat} {A : Option Addr} {len cap : Nat} {x : DataW H × List MemPlace} (h : DataW.trod encH Try.prog w base spare held fuel 30 [.slice A len cap] = some x) : ∃ qs, RdA w A len qs := by
  rcases open_slice Try.underlying30 h with ⟨hcs, _⟩ | ⟨a, len', cap', m, n, D, Pl, hcs, hb, hl, hm, hmm, hx, hi⟩
  · simp at hcs
    obtain ⟨rfl, rfl, rfl⟩ := hcs
    exact ⟨[], rfl, by unfold maxLen; omega, fun h => by omega⟩
  · simp at hcs
    obtain ⟨rfl, rfl, rfl⟩ := hcs
    have hlm : len ≤ m := by rw [hmm]; split <;> omega
    have hC : Try.prog.cellsOf 37 = 3 := by kernel_rfl
    have each : ∀ i, ∃ q : Int × Int × Int, i < len → w.cell? (a.add (i * 3)) = some (.int .i64 q.1) ∧ w.cell? (a.add (i * 3 + 1)) = some (.int .i64 q.2.1) ∧ w.cell? (a.add (i * 3 + 2)) = some (.int .i64 q.2.2) ∧ -9223372036854775808 ≤ q.2.1 ∧ q.2.1 ≤ 9223372036854775807 ∧ -9223372036854775808 ≤ q.2.2 ∧ q.2.2 ≤ 9223372036854775807 := by
      intro i
      by_cases hil : i < len
      · obtain ⟨cs', hc, ht'⟩ := hi i (by omega)
        rw [hC] at hc
        obtain ⟨_, hcl, hat⟩ := World.cells?_some hc
        obtain ⟨ys, n', _, _, _, hyl, hf⟩ := DataW.trod_struct Try.underlying37 ht'
        have hsz : ys.length = 3 := hyl
        obtain ⟨x0, e0, r0⟩ := int_cell (off := 0) (by rw [List.getElem?_eq_getElem (by omega)]; rfl) Try.underlying3 (by kernel_rfl) (by omega) (hf 0 _ rfl)
        obtain ⟨x1, e1, r1⟩ := int_cell (off := 1) (by rw [List.getElem?_eq_getElem (by omega)]; rfl) Try.underlying2 (by kernel_rfl) (by omega) (hf 1 _ rfl)
        obtain ⟨x2, e2, r2⟩ := int_cell (off := 2) (by rw [List.getElem?_eq_getElem (by omega)]; rfl) Try.underlying2 (by kernel_rfl) (by omega) (hf 2 _ rfl)
        refine ⟨(x0, x1, x2), fun _ => ⟨?_, ?_, ?_, r1.1, r1.2, r2.1, r2.2⟩⟩
        · rw [← e0, ← hat 0 (by omega), add_add]; rfl
        · rw [← e1, ← hat 1 (by omega), add_add]
        · rw [← e2, ← hat 2 (by omega), add_add]
      · exact ⟨(0, 0, 0), fun h => absurd h hil⟩
    obtain ⟨f, hf⟩ := Classical.axiomOfChoice each
    clear each
    refine ⟨(List.range len).map f, by simp, by omega, fun hp => ?_⟩
    obtain ⟨b, off, sp⟩ := a
    have hspot : sp = none := by
      have h0 := (hf 0 hp).1
      simpa [Addr.add] using World.cell?_spot h0
    subst hspot
    refine ⟨b, off, rfl, fun i hil => ?_⟩
    have hq := hf i hil
    have ea : ∀ k, (⟨b, off, none⟩ : Addr).add k = ⟨b, off + k, none⟩ := fun k => by unfold Addr.add; split <;> simp_all
    rw [ea, ea, ea, ← Nat.add_assoc, ← Nat.add_assoc] at hq
    exact ⟨_, _, _, by simp [hil], hq⟩
end
end Go.Proofs.Ytiegihopjhbliaa.Fld
