/-
  Layer 14: arguments opened to cells: slices of numbers and of pairs, two and three numbers by value. No condition.
-/
import Derived.Test.YtofbioefckdmbaaQuBase
import Derived.Deep.Slices
import Derived.Deep.Fields
import Derived.ChangeSame
import Derived.OpenShut
namespace Go.Proofs.Ytofbioefckdmbaa.Ne
open Go.RowKit Go.ChangeShapes Go.WideShapes Go.Deep Go.Proofs.Ytofbioefckdmbaa.Fld Go.Proofs.Ytofbioefckdmbaa.Qu
set_option linter.unusedVariables false

def RdP (w : World) (A : Option Addr) (n : Nat) (l : List (Int × Int)) : Prop :=
  l.length = n ∧ n ≤ maxLen ∧ (0 < n → ∃ b off, A = some ⟨b, off, none⟩ ∧ ∀ i, i < n → w.cell? ⟨b, off + i * 2, none⟩ = some (.int .i64 (l.getD i (0, 0)).1) ∧ w.cell? ⟨b, off + i * 2 + 1, none⟩ = some (.int .i64 (l.getD i (0, 0)).2))
theorem RdP.below {w w' : World} {A : Option Addr} {n : Nat} {l : List (Int × Int)} (h : RdP w A n l) (hb : Below w.heap.size w w') : RdP w' A n l := by
  obtain ⟨h1, h2, h3⟩ := h
  refine ⟨h1, h2, fun hn => ?_⟩
  obtain ⟨b, off, rfl, hc⟩ := h3 hn
  exact ⟨b, off, rfl, fun i hi => ⟨(hb.cell (lt_of_cell (hc i hi).1)).trans (hc i hi).1, (hb.cell (lt_of_cell (hc i hi).2)).trans (hc i hi).2⟩⟩
theorem addB (b off j : Nat) : Addr.add (⟨b, off, none⟩ : Addr) j = ⟨b, off + j, none⟩ := by
  unfold Addr.add
  split
  · simp_all
  · rfl
theorem cell_one {α : Type} {l : List α} (j : Nat) {v : α} (h : l[j]? = some v) : (l.drop j).take 1 = [v] := by
  obtain ⟨hj, he⟩ := List.getElem?_eq_some_iff.1 h
  rw [List.drop_eq_getElem_cons hj, he]
  rfl
section
variable {H : Type} {encH : TypeId × Value → H} {w : World} {base : Nat} {spare : Nat → Bool} {held : Bool}
theorem open_nums {fuel : Nat} {v : Value} {x : DataW H × List MemPlace} (h : DataW.trod encH Try.prog w base spare held fuel 24 [v] = some x) : ∃ A n cap zs, v = .slice A n cap ∧ RdI w A n zs := by
  rcases open_ints Try.underlying24 Try.underlying3 (by kernel_rfl) h with ⟨hcs, _⟩ | ⟨a, l, c, zs, hcs, _, hl, hm, hz, _, hcell, hwz⟩
  · simp at hcs
    exact ⟨none, 0, 0, [], hcs, rfl, by unfold maxLen; omega, fun h => by omega⟩
  · simp at hcs
    have hzl : l ≤ zs.length := by rw [hz]; split <;> omega
    have hzc : zs.length ≤ maxLen := by rw [hz]; split <;> omega
    refine ⟨some a, l, c, zs.take l, hcs, by rw [List.length_take]; omega, by omega, fun hn => ?_⟩
    obtain ⟨b, off, spot⟩ := a
    have h0 := hcell 0 (by omega)
    have hspot : spot = none := by simpa [Addr.add] using World.cell?_spot h0
    subst hspot
    refine ⟨b, off, rfl, fun i hi => ?_⟩
    have := hcell i (by omega)
    rw [List.getD_eq_getElem?_getD, List.getElem?_take, if_pos hi, ← List.getD_eq_getElem?_getD, ← this]
    congr 1
    unfold Addr.add
    split <;> simp_all
theorem open_pair {r : Reach} {b0 : Nat} {v : Value} {d : DataW H} {p : List MemPlace} (hv : Value.okWide Try.prog w r b0 33 v) (h : DataW.Trod encH Try.prog w base spare held 33 v d p) :
    ∃ x y : Int, v = .agg #[.int .i64 x, .int .i64 y] ∧ -9223372036854775808 ≤ x ∧ x ≤ 9223372036854775807 ∧ -9223372036854775808 ≤ y ∧ y ≤ 9223372036854775807 := by
  have hC : Try.prog.cellsOf 3 = 1 := by kernel_rfl
  have hC2 : Try.prog.cellsOf 33 = 2 := by kernel_rfl
  obtain ⟨cs, rfl, hsz⟩ : ∃ cs : Array Value, v = .agg cs ∧ cs.size = 2 := by
    simp only [Value.okWide, Try.underlying33] at hv
    obtain ⟨cs, rfl, hs, _⟩ := hv
    exact ⟨cs, rfl, by rw [hs, hC2]⟩
  obtain ⟨c0, c1, rfl⟩ : ∃ c0 c1, cs = #[c0, c1] := by
    obtain ⟨l⟩ := cs
    match l, hsz with
    | [c0, c1], _ => exact ⟨c0, c1, rfl⟩
  obtain ⟨fuel, hf⟩ := h
  obtain ⟨xs, m, _, _, _, hl, hx⟩ := DataW.trod_array Try.underlying33 hf
  have x0 := hx 0 (by omega)
  have x1 := hx 1 (by omega)
  rw [hC, List.getElem?_eq_getElem (by omega)] at x0 x1
  obtain ⟨n0, e0, _, w0⟩ := DataW.trod_int Try.underlying3 x0
  obtain ⟨n1, e1, _, w1⟩ := DataW.trod_int Try.underlying3 x1
  simp [Value.cells] at e0 e1
  subst e0 e1
  exact ⟨n0, n1, rfl, (i64_of_wf w0).1, (i64_of_wf w0).2, (i64_of_wf w1).1, (i64_of_wf w1).2⟩
theorem open_triple {r : Reach} {b0 : Nat} {v : Value} {d : DataW H} {p : List MemPlace} (hv : Value.okWide Try.prog w r b0 38 v) (h : DataW.Trod encH Try.prog w base spare held 38 v d p) :
    ∃ x y z : Int, v = .agg #[.int .i64 x, .int .i64 y, .int .i64 z] ∧ -9223372036854775808 ≤ x ∧ x ≤ 9223372036854775807 ∧ -9223372036854775808 ≤ y ∧ y ≤ 9223372036854775807 := by
  have hC : Try.prog.cellsOf 3 = 1 := by kernel_rfl
  have hC2 : Try.prog.cellsOf 38 = 3 := by kernel_rfl
  obtain ⟨cs, rfl, hsz⟩ : ∃ cs : Array Value, v = .agg cs ∧ cs.size = 3 := by
    simp only [Value.okWide, Try.underlying38] at hv
    obtain ⟨cs, rfl, hs, _⟩ := hv
    exact ⟨cs, rfl, by rw [hs, hC2]⟩
  obtain ⟨c0, c1, c2, rfl⟩ : ∃ c0 c1 c2, cs = #[c0, c1, c2] := by
    obtain ⟨l⟩ := cs
    match l, hsz with
    | [c0, c1, c2], _ => exact ⟨c0, c1, c2, rfl⟩
  obtain ⟨fuel, hf⟩ := h
  obtain ⟨xs, m, _, _, _, hl, hx⟩ := DataW.trod_array Try.underlying38 hf
  have x0 := hx 0 (by omega)
  have x1 := hx 1 (by omega)
  have x2 := hx 2 (by omega)
  rw [hC, List.getElem?_eq_getElem (by omega)] at x0 x1 x2
  obtain ⟨n0, e0, _, w0⟩ := DataW.trod_int Try.underlying3 x0
  obtain ⟨n1, e1, _, w1⟩ := DataW.trod_int Try.underlying3 x1
  obtain ⟨n2, e2, _, w2⟩ := DataW.trod_int Try.underlying3 x2
  simp [Value.cells] at e0 e1 e2
  subst e0 e1 e2
  exact ⟨n0, n1, n2, rfl, (i64_of_wf w0).1, (i64_of_wf w0).2, (i64_of_wf w1).1, (i64_of_wf w1).2⟩
theorem open_two {n : Nat} {cs : List Value} {x : DataW H × List MemPlace} (h : DataW.trod encH Try.prog w base spare held n 33 cs = some x) (hl : cs.length = 2) : ∃ a b : Int, cs = [.int .i64 a, .int .i64 b] := by
  have hI : Try.prog.cellsOf 3 = 1 := by kernel_rfl
  match cs, hl with
  | [v0, v1], _ =>
    obtain ⟨xs, m', _, _, _, hl', hx'⟩ := DataW.trod_array Try.underlying33 h
    have x0 := hx' 0 (by omega)
    have x1 := hx' 1 (by omega)
    rw [hI, List.getElem?_eq_getElem (by omega)] at x0 x1
    obtain ⟨n0, e0, _, w0⟩ := DataW.trod_int Try.underlying3 x0
    obtain ⟨n1, e1, _, w1⟩ := DataW.trod_int Try.underlying3 x1
    simp at e0 e1
    subst e0 e1
    exact ⟨n0, n1, rfl⟩
theorem open_pairs {fuel : Nat} {A : Option Addr} {len cap : Nat} {x : DataW H × List MemPlace} (h : DataW.trod encH Try.prog w base spare held fuel 36 [.slice A len cap] = some x) : ∃ l, RdP w A len l := by
  rcases open_slice Try.underlying36 h with ⟨hcs, _⟩ | ⟨a, len', cap', m, n, D, Pl, hcs, hb, hl, hm, hmm, hx, hi⟩
  · simp at hcs
    obtain ⟨rfl, rfl, rfl⟩ := hcs
    exact ⟨[], rfl, by unfold maxLen; omega, fun h => by omega⟩
  · simp at hcs
    obtain ⟨rfl, rfl, rfl⟩ := hcs
    have hlm : len ≤ m := by rw [hmm]; split <;> omega
    have hC : Try.prog.cellsOf 33 = 2 := by kernel_rfl
    have each : ∀ i, ∃ q : Int × Int, i < len → ∀ j, j < 2 → w.cell? (a.add (i * 2 + j)) = ([.int .i64 q.1, .int .i64 q.2] : List Value)[j]? := by
      intro i
      by_cases hil : i < len
      · obtain ⟨cs', hc, ht'⟩ := hi i (by omega)
        rw [hC] at hc
        obtain ⟨_, hcl, hat⟩ := World.cells?_some hc
        obtain ⟨q1, q2, he⟩ := open_two ht' (by omega)
        refine ⟨(q1, q2), fun _ j hj => ?_⟩
        rw [← he, ← hat j (by omega), add_add]
      · exact ⟨(0, 0), fun h => absurd h hil⟩
    obtain ⟨f, hf⟩ := Classical.axiomOfChoice each
    clear each
    refine ⟨(List.range len).map f, by simp, by omega, fun hp => ?_⟩
    obtain ⟨b, off, sp⟩ := a
    have hspot : sp = none := by
      have h0 := hf 0 hp 0 (by omega)
      have h1 : w.cell? ((⟨b, off, sp⟩ : Addr).add (0 * 2 + 0)) = some (.int .i64 (f 0).1) := h0
      simpa [Addr.add] using World.cell?_spot h1
    subst hspot
    refine ⟨b, off, rfl, fun i hil => ?_⟩
    have hq0 := hf i hil 0 (by omega)
    have hq1 := hf i hil 1 (by omega)
    rw [addB, ← Nat.add_assoc] at hq0 hq1
    rw [Nat.add_zero] at hq0
    rw [hq0, hq1]
    simp [hil]
end
end Go.Proofs.Ytofbioefckdmbaa.Ne
