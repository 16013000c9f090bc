/-
  Layer 11: arguments opened to cells: a slice of numbers, a slice of steps. No condition.
-/
import Derived.Test.YtfifimgmgmckfaaPgMem
import Derived.Deep.Slices
import Derived.Deep.Fields
import Derived.ChangeSame
import Derived.OpenShut
namespace Go.Proofs.Ytfifimgmgmckfaa.Pg
open Go.RowKit Go.ChangeShapes Go.WideShapes Go.Deep Go.Proofs.Ytfifimgmgmckfaa.Fld Go.Proofs.Ytfifimgmgmckfaa.Qu
set_option linter.unusedVariables false

theorem addB (b off j : Nat) : Addr.add (⟨b, off, none⟩ : Addr) j = ⟨b, off + j, none⟩ := by
  unfold Addr.add
  split <;> simp_all
structure Stp where
  d : Int
  n : Int
  hint : Int
  ok : Bool
def Stp.cells (a : Stp) : List Value := [.int .i64 a.d, .int .i64 a.n, .int .i64 a.hint, .bool a.ok]
def stp0 : Stp := ⟨0, 0, 0, false⟩
/-- a slice of steps -/
def RdSt (w : World) (A : Option Addr) (n : Nat) (l : List Stp) : Prop :=
  l.length = n ∧ n ≤ maxLen ∧ (0 < n → ∃ b off, A = some ⟨b, off, none⟩ ∧ ∀ i (h : i < l.length) j, j < 4 → w.cell? ⟨b, off + i * 4 + j, none⟩ = l[i].cells[j]?)
theorem RdSt.at4 {w w' : World} {A : Option Addr} {n : Nat} {l : List Stp} (h : RdSt w A n l) (hb : Below w.heap.size w w') (k : Nat) (hk : k < l.length) : ∃ b off, A = some ⟨b, off, none⟩ ∧ ∀ j v, j < 4 → l[k].cells[j]? = some v → w'.cell? ⟨b, off + k * 4 + j, none⟩ = some v := by
  obtain ⟨b, off, hA, hc⟩ := h.2.2 (by have := h.1; omega)
  refine ⟨b, off, hA, fun j v hj hv => ?_⟩
  have h1 := hc k hk j hj
  rw [hv] at h1
  exact (hb.cell (lt_of_cell h1)).trans h1
theorem cell_one {α : Type} {l : List α} (j : Nat) {v : α} (h : l[j]? = some v) : (l.drop j).take 1 = [v] := by
  obtain ⟨hj, he⟩ := List.getElem?_eq_some_iff.1 h
  rw [List.drop_eq_getElem_cons hj, he]
  rfl
theorem sub_at {α : Type} {cs l : List α} {off k : Nat} (h : (cs.drop off).take k = l) (j : Nat) (hj : j < k) : cs[off + j]? = l[j]? := by
  rw [← h, List.getElem?_take, if_pos hj, List.getElem?_drop]
section
variable {H : Type} {encH : TypeId × Value → H} {w : World} {base : Nat} {spare : Nat → Bool} {held : Bool}
theorem open_numsI {fuel : Nat} {v : Value} {x : DataW H × List MemPlace} (h : DataW.trod encH Try.prog w base spare held fuel 38 [v] = some x) : ∃ A n cap zs, v = .slice A n cap ∧ RdI w A n zs := by
  rcases open_ints Try.underlying38 Try.underlying3 (by kernel_rfl) h with ⟨hcs, _⟩ | ⟨a, l, c, zs, hcs, _, hl, hm, hz, _, hcell, hwz⟩
  · simp at hcs
    exact ⟨none, 0, 0, [], hcs, rfl, by unfold maxLen; omega, fun h => by omega⟩
  · simp at hcs
    have hzl : l ≤ zs.length := by rw [hz]; split <;> omega
    have hzc : zs.length ≤ maxLen := by rw [hz]; split <;> omega
    refine ⟨some a, l, c, zs.take l, hcs, by rw [List.length_take]; omega, by omega, fun hn => ?_⟩
    obtain ⟨b, off, spot⟩ := a
    have h0 := hcell 0 (by omega)
    have hspot : spot = none := by simpa [Addr.add] using World.cell?_spot h0
    subst hspot
    refine ⟨b, off, rfl, fun i hi => ?_⟩
    have := hcell i (by omega)
    rw [List.getD_eq_getElem?_getD, List.getElem?_take, if_pos hi, ← List.getD_eq_getElem?_getD, ← this]
    congr 1
    unfold Addr.add
    split <;> simp_all
theorem cells_of {n off k : Nat} {t : TypeId} {cs : List Value} {y : Option (DataW H × List MemPlace)} (hy : y.isSome = true) (hc : Try.prog.cellsOf t = k) (h : DataW.trod encH Try.prog w base spare held n t ((cs.drop off).take (Try.prog.cellsOf t)) = y) : ∃ z, DataW.trod encH Try.prog w base spare held n t ((cs.drop off).take k) = some z := by
  obtain ⟨z, rfl⟩ := Option.isSome_iff_exists.1 hy
  rw [hc] at h
  exact ⟨z, h⟩
theorem int_of {n off : Nat} {cs : List Value} {y : Option (DataW H × List MemPlace)} (hy : y.isSome = true) (hl : off < cs.length) (h : DataW.trod encH Try.prog w base spare held n 3 ((cs.drop off).take (Try.prog.cellsOf 3)) = y) : ∃ a, cs[off]? = some (.int .i64 a) := by
  obtain ⟨z, hz⟩ := cells_of hy (show Try.prog.cellsOf 3 = 1 by kernel_rfl) h
  rw [cell_one off (List.getElem?_eq_getElem hl)] at hz
  obtain ⟨a, ha, _, _⟩ := DataW.trod_int Try.underlying3 hz
  simp only [List.cons.injEq, and_true] at ha
  exact ⟨a, by rw [List.getElem?_eq_getElem hl, ha]⟩
theorem bool_of {n off : Nat} {cs : List Value} {y : Option (DataW H × List MemPlace)} (hy : y.isSome = true) (hl : off < cs.length) (h : DataW.trod encH Try.prog w base spare held n 4 ((cs.drop off).take (Try.prog.cellsOf 4)) = y) : ∃ a, cs[off]? = some (.bool a) := by
  obtain ⟨z, hz⟩ := cells_of hy (show Try.prog.cellsOf 4 = 1 by kernel_rfl) h
  rw [cell_one off (List.getElem?_eq_getElem hl)] at hz
  obtain ⟨a, ha, _⟩ := DataW.trod_bool Try.underlying4 hz
  simp only [List.cons.injEq, and_true] at ha
  exact ⟨a, by rw [List.getElem?_eq_getElem hl, ha]⟩
set_option maxRecDepth 100000 in
theorem open_step {n : Nat} {cs : List Value} {x : DataW H × List MemPlace} (h : DataW.trod encH Try.prog w base spare held n 32 cs = some x) (hl : cs.length = 4) : ∃ s : Stp, cs = s.cells := by
  obtain ⟨ys, n', _, _, _, hyl, hf⟩ := DataW.trod_struct Try.underlying32 h
  have hsz : ys.length = 4 := hyl
  obtain ⟨a0, c0⟩ := int_of (off := 0) (by rw [List.getElem?_eq_getElem (by omega)]; rfl) (by omega) (hf 0 _ rfl)
  obtain ⟨a1, c1⟩ := int_of (off := 1) (by rw [List.getElem?_eq_getElem (by omega)]; rfl) (by omega) (hf 1 _ rfl)
  obtain ⟨a2, c2⟩ := int_of (off := 2) (by rw [List.getElem?_eq_getElem (by omega)]; rfl) (by omega) (hf 2 _ rfl)
  obtain ⟨a3, c3⟩ := bool_of (off := 3) (by rw [List.getElem?_eq_getElem (by omega)]; rfl) (by omega) (hf 3 _ rfl)
  refine ⟨⟨a0, a1, a2, a3⟩, ?_⟩
  apply List.ext_getElem?
  intro k
  rcases k with _ | _ | _ | _ | k
  · rw [c0]; rfl
  · rw [c1]; rfl
  · rw [c2]; rfl
  · rw [c3]; rfl
  · rw [List.getElem?_eq_none (by omega), List.getElem?_eq_none (by simp [Stp.cells])]
set_option maxRecDepth 100000 in
theorem open_steps {fuel : Nat} {A : Option Addr} {len cap : Nat} {x : DataW H × List MemPlace} (h : DataW.trod encH Try.prog w base spare held fuel 30 [.slice A len cap] = some x) : ∃ l, RdSt w A len l := by
  rcases open_slice Try.underlying30 h with ⟨hcs, _⟩ | ⟨a, len', cap', m, n, D, Pl, hcs, hb, hl, hm, hmm, hx, hi⟩
  · simp at hcs
    obtain ⟨rfl, rfl, rfl⟩ := hcs
    exact ⟨[], rfl, by unfold maxLen; omega, fun h => by omega⟩
  · simp at hcs
    obtain ⟨rfl, rfl, rfl⟩ := hcs
    have hlm : len ≤ m := by rw [hmm]; split <;> omega
    have hC : Try.prog.cellsOf 32 = 4 := by kernel_rfl
    have each : ∀ i, ∃ q : Stp, i < len → ∀ j, j < 4 → w.cell? (a.add (i * 4 + j)) = q.cells[j]? := by
      intro i
      by_cases hil : i < len
      · obtain ⟨cs', hc, ht'⟩ := hi i (by omega)
        rw [hC] at hc
        obtain ⟨_, hcl, hat⟩ := World.cells?_some hc
        obtain ⟨q, he⟩ := open_step ht' (by omega)
        refine ⟨q, fun _ j hj => ?_⟩
        rw [← he, ← hat j (by omega), add_add]
      · exact ⟨stp0, fun h => absurd h hil⟩
    obtain ⟨f, hf⟩ := Classical.axiomOfChoice each
    clear each
    refine ⟨(List.range len).map f, by simp, by omega, fun hp => ?_⟩
    obtain ⟨b, off, sp⟩ := a
    have hspot : sp = none := by
      have h0 := (hf 0 hp) 0 (by omega)
      have h1 : w.cell? ((⟨b, off, sp⟩ : Addr).add (0 * 4 + 0)) = some (.int .i64 (f 0).d) := h0
      simpa [Addr.add] using World.cell?_spot h1
    subst hspot
    refine ⟨b, off, rfl, fun i hil j hj => ?_⟩
    have hil' : i < len := by simpa using hil
    have hq := (hf i hil') j hj
    rw [addB, ← Nat.add_assoc] at hq
    rw [hq]
    simp
end
end Go.Proofs.Ytfifimgmgmckfaa.Pg
