/-
  Arguments opened to cells: slices of entries, steps, pairs of numbers, as the given rows read them. No condition.
-/
import Derived.Test.YtimplhdliaggfaaRlgS
import Derived.Deep.Slices
import Derived.Deep.Fields
import Derived.ChangeSame
import Derived.OpenShut
namespace Go.Proofs.Ytimplhdliaggfaa.Rg
open Go.RowKit Go.ChangeShapes Go.WideShapes Go.Deep Go.Proofs.Ytimplhdliaggfaa.Fld
set_option linter.unusedVariables false

theorem cell_one {α : Type} {l : List α} (j : Nat) {v : α} (h : l[j]? = some v) : (l.drop j).take 1 = [v] := by
  obtain ⟨hj, he⟩ := List.getElem?_eq_some_iff.1 h
  rw [List.drop_eq_getElem_cons hj, he]
  rfl
theorem add_none (b off k : Nat) : (⟨b, off, none⟩ : Addr).add k = ⟨b, off + k, none⟩ := add_at b off k
section
variable {H : Type} {encH : TypeId × Value → H} {w : World} {base : Nat} {spare : Nat → Bool} {held : Bool}
theorem open_bytes {fuel : Nat} {v : Value} {x : DataW H × List MemPlace} (h : DataW.trod encH Try.prog w base spare held fuel 34 [v] = some x) : ∃ A n cap zs, v = .slice A n cap ∧ Rd w A n zs ∧ (A = none → cap = 0) := by
  rcases open_ints Try.underlying34 Try.underlying5 (by kernel_rfl) h with ⟨hcs, _⟩ | ⟨a, l, c, zs, hcs, _, hl, hm, hz, _, hcell, hwz⟩
  · simp at hcs
    exact ⟨none, 0, 0, [], hcs, Rd.nil w, fun _ => rfl⟩
  · simp at hcs
    refine ⟨some a, l, c, zs.take l, hcs, ?_, fun h => by cases h⟩
    have hzl : l ≤ zs.length := by rw [hz]; split <;> omega
    have hzc : zs.length ≤ maxLen := by rw [hz]; split <;> omega
    exact Rd.of_cells hzl hzc rfl hcell hwz
theorem cell_of {n off : Nat} {t : TypeId} {cs : List Value} {y : Option (DataW H × List MemPlace)} (hy : y.isSome = true) (hc : Try.prog.cellsOf t = 1) (hl : off < cs.length) (h : DataW.trod encH Try.prog w base spare held n t ((cs.drop off).take (Try.prog.cellsOf t)) = y) :
    ∃ v z, cs[off]? = some v ∧ DataW.trod encH Try.prog w base spare held n t [v] = some z := by
  obtain ⟨z, rfl⟩ := Option.isSome_iff_exists.1 hy
  rw [hc, cell_one off (List.getElem?_eq_getElem hl)] at h
  exact ⟨_, z, List.getElem?_eq_getElem hl, h⟩
/-- four cells that read as an entry -/
theorem open_entry {n : Nat} {cs : List Value} {x : DataW H × List MemPlace} (h : DataW.trod encH Try.prog w base spare held n 36 cs = some x) (hl : cs.length = 4) : ∃ y : EA, (Rd w y.A y.e.data.length y.e.data ∧ (y.A = none → y.cap = 0)) ∧ cs = y.cells := by
  obtain ⟨ys, n', _, _, _, hyl, hf⟩ := DataW.trod_struct Try.underlying36 h
  have hsz : ys.length = 4 := hyl
  obtain ⟨v0, z0, c0, t0⟩ := cell_of (off := 0) (t := 3) (by rw [List.getElem?_eq_getElem (by omega)]; rfl) (by kernel_rfl) (by omega) (hf 0 _ rfl)
  obtain ⟨v1, z1, c1, t1⟩ := cell_of (off := 1) (t := 3) (by rw [List.getElem?_eq_getElem (by omega)]; rfl) (by kernel_rfl) (by omega) (hf 1 _ rfl)
  obtain ⟨v2, z2, c2, t2⟩ := cell_of (off := 2) (t := 3) (by rw [List.getElem?_eq_getElem (by omega)]; rfl) (by kernel_rfl) (by omega) (hf 2 _ rfl)
  obtain ⟨v3, z3, c3, t3⟩ := cell_of (off := 3) (t := 34) (by rw [List.getElem?_eq_getElem (by omega)]; rfl) (by kernel_rfl) (by omega) (hf 3 _ rfl)
  obtain ⟨a, ha, _, _⟩ := DataW.trod_int Try.underlying3 t0
  obtain ⟨b, hb, _, _⟩ := DataW.trod_int Try.underlying3 t1
  obtain ⟨c, hc, _, _⟩ := DataW.trod_int Try.underlying3 t2
  obtain ⟨BA, bn, bc, bs, hbb, hbr, hbz⟩ := open_bytes t3
  simp only [List.cons.injEq, and_true] at ha hb hc
  have hbl := hbr.1
  subst hbl
  refine ⟨⟨⟨a, b, c, bs⟩, BA, bc⟩, ⟨hbr, hbz⟩, ?_⟩
  apply List.ext_getElem?
  intro k
  rcases k with _ | _ | _ | _ | k
  · rw [c0, ha]; rfl
  · rw [c1, hb]; rfl
  · rw [c2, hc]; rfl
  · rw [c3, hbb]; rfl
  · rw [List.getElem?_eq_none (by omega), List.getElem?_eq_none (by simp [EA.cells])]
set_option maxRecDepth 100000 in
theorem open_entries {fuel : Nat} {v : Value} {x : DataW H × List MemPlace} (h : DataW.trod encH Try.prog w base spare held fuel 29 [v] = some x) : ∃ A len cap ls, v = .slice A len cap ∧ RdE w A len ls ∧ len ≤ cap ∧ cap ≤ maxLen ∧ (A = none → cap = 0) := by
  rcases open_slice Try.underlying29 h with ⟨hcs, _⟩ | ⟨a, len, cap, m, n, D, Pl, hcs, hb, hl, hm, hmm, hx, hi⟩
  · simp at hcs
    exact ⟨none, 0, 0, [], hcs, RdE.nil _ _, Nat.le_refl _, by unfold maxLen; omega, fun _ => rfl⟩
  · simp at hcs
    have hlm : len ≤ m := by rw [hmm]; split <;> omega
    have hC : Try.prog.cellsOf 36 = 4 := by kernel_rfl
    have each : ∀ i, ∃ q : EA, i < len → (Rd w q.A q.e.data.length q.e.data ∧ (q.A = none → q.cap = 0)) ∧ ∀ j, j < 4 → w.cell? (a.add (i * 4 + j)) = q.cells[j]? := by
      intro i
      by_cases hil : i < len
      · obtain ⟨cs', hc, ht'⟩ := hi i (by omega)
        rw [hC] at hc
        obtain ⟨_, hcl, hat⟩ := World.cells?_some hc
        obtain ⟨q, hq, he⟩ := open_entry ht' (by omega)
        refine ⟨q, fun _ => ⟨hq, fun j hj => ?_⟩⟩
        rw [← he, ← hat j (by omega), add_add]
      · exact ⟨ea0, fun h => absurd h hil⟩
    obtain ⟨f, hf⟩ := Classical.axiomOfChoice each
    clear each
    refine ⟨some a, len, cap, (List.range len).map f, hcs, ⟨by simp, by omega, fun hp => ?_, ?_⟩, hl, hm, fun h => by cases h⟩
    · obtain ⟨b, off, sp⟩ := a
      have hspot : sp = none := by
        have h0 := (hf 0 hp).2 0 (by omega)
        have h1 : w.cell? ((⟨b, off, sp⟩ : Addr).add (0 * 4 + 0)) = some (.int .i64 (f 0).e.idx) := h0
        simpa [Addr.add] using World.cell?_spot h1
      subst hspot
      refine ⟨b, off, rfl, fun jj v hv => ?_⟩
      have hjl : jj < len * 4 := by
        have := (List.getElem?_eq_some_iff.1 hv).1
        rw [rowE_len] at this
        simpa using this
      have hq := (hf (jj / 4) (by omega)).2 (jj % 4) (by omega)
      rw [add_none, show jj / 4 * 4 + jj % 4 = jj by omega] at hq
      rw [hq]
      have h1 := rowE_at ((List.range len).map f) (jj / 4) (jj % 4) (by simp; omega) (by omega)
      rw [show jj / 4 * 4 + jj % 4 = jj by omega, hv] at h1
      rw [h1, List.getD_eq_getElem?_getD, List.getElem?_map, List.getElem?_range (by omega)]
      rfl
    · intro q hq
      simp only [List.mem_map, List.mem_range] at hq
      obtain ⟨i, hi2, rfl⟩ := hq
      exact (hf i hi2).1
set_option maxRecDepth 100000 in
theorem open_step {n : Nat} {cs : List Value} {x : DataW H × List MemPlace} (h : DataW.trod encH Try.prog w base spare held n 33 cs = some x) (hl : cs.length = 4) : ∃ s : Stp, s.Ok w ∧ cs = s.cells := by
  obtain ⟨ys, n', _, _, _, hyl, hf⟩ := DataW.trod_struct Try.underlying33 h
  have hsz : ys.length = 4 := hyl
  obtain ⟨v0, z0, c0, t0⟩ := cell_of (off := 0) (t := 3) (by rw [List.getElem?_eq_getElem (by omega)]; rfl) (by kernel_rfl) (by omega) (hf 0 _ rfl)
  obtain ⟨v1, z1, c1, t1⟩ := cell_of (off := 1) (t := 3) (by rw [List.getElem?_eq_getElem (by omega)]; rfl) (by kernel_rfl) (by omega) (hf 1 _ rfl)
  obtain ⟨v2, z2, c2, t2⟩ := cell_of (off := 2) (t := 3) (by rw [List.getElem?_eq_getElem (by omega)]; rfl) (by kernel_rfl) (by omega) (hf 2 _ rfl)
  obtain ⟨v3, z3, c3, t3⟩ := cell_of (off := 3) (t := 29) (by rw [List.getElem?_eq_getElem (by omega)]; rfl) (by kernel_rfl) (by omega) (hf 3 _ rfl)
  obtain ⟨a, ha, _, _⟩ := DataW.trod_int Try.underlying3 t0
  obtain ⟨b, hb, _, hbw⟩ := DataW.trod_int Try.underlying3 t1
  obtain ⟨c, hc, _, _⟩ := DataW.trod_int Try.underlying3 t2
  obtain ⟨LA, ln, lc, ls, hll, hlr, h1, h2, h3⟩ := open_entries t3
  simp only [List.cons.injEq, and_true] at ha hb hc
  refine ⟨⟨a, b, c, LA, ln, lc, ls⟩, ⟨hlr, h1, h2, h3, (i64_of_wf hbw).1, (i64_of_wf hbw).2⟩, ?_⟩
  apply List.ext_getElem?
  intro k
  rcases k with _ | _ | _ | _ | k
  · rw [c0, ha]; rfl
  · rw [c1, hb]; rfl
  · rw [c2, hc]; rfl
  · rw [c3, hll]; rfl
  · rw [List.getElem?_eq_none (by omega), List.getElem?_eq_none (by simp [Stp.cells])]
end
/-- a slice of steps -/
def RdSt (w : World) (A : Option Addr) (n : Nat) (l : List Stp) : Prop :=
  l.length = n ∧ n ≤ maxLen ∧ (0 < n → ∃ b off, A = some ⟨b, off, none⟩ ∧ ∀ i (h : i < l.length) j, j < 4 → w.cell? ⟨b, off + i * 4 + j, none⟩ = l[i].cells[j]?) ∧ ∀ a ∈ l, a.Ok w
theorem RdSt.at4 {w w' : World} {A : Option Addr} {n : Nat} {l : List Stp} (h : RdSt w A n l) (hb : Below w.heap.size w w') (k : Nat) (hk : k < l.length) : ∃ b off, A = some ⟨b, off, none⟩ ∧ ∀ j v, j < 4 → l[k].cells[j]? = some v → w'.cell? ⟨b, off + k * 4 + j, none⟩ = some v := by
  obtain ⟨b, off, hA, hc⟩ := h.2.2.1 (by have := h.1; omega)
  refine ⟨b, off, hA, fun j v hj hv => ?_⟩
  have h1 := hc k hk j hj
  rw [hv] at h1
  exact (hb.cell (lt_of_cell h1)).trans h1
section
variable {H : Type} {encH : TypeId × Value → H} {w : World} {base : Nat} {spare : Nat → Bool} {held : Bool}
set_option maxRecDepth 100000 in
theorem open_steps {fuel : Nat} {A : Option Addr} {len cap : Nat} {x : DataW H × List MemPlace} (h : DataW.trod encH Try.prog w base spare held fuel 22 [.slice A len cap] = some x) : ∃ l, RdSt w A len l := by
  rcases open_slice Try.underlying22 h with ⟨hcs, _⟩ | ⟨a, len', cap', m, n, D, Pl, hcs, hb, hl, hm, hmm, hx, hi⟩
  · simp at hcs
    obtain ⟨rfl, rfl, rfl⟩ := hcs
    exact ⟨[], rfl, by unfold maxLen; omega, fun h => by omega, fun a ha => by simp at ha⟩
  · simp at hcs
    obtain ⟨rfl, rfl, rfl⟩ := hcs
    have hlm : len ≤ m := by rw [hmm]; split <;> omega
    have hC : Try.prog.cellsOf 33 = 4 := by kernel_rfl
    have each : ∀ i, ∃ q : Stp, i < len → q.Ok w ∧ ∀ j, j < 4 → w.cell? (a.add (i * 4 + j)) = q.cells[j]? := by
      intro i
      by_cases hil : i < len
      · obtain ⟨cs', hc, ht'⟩ := hi i (by omega)
        rw [hC] at hc
        obtain ⟨_, hcl, hat⟩ := World.cells?_some hc
        obtain ⟨q, hq, he⟩ := open_step ht' (by omega)
        refine ⟨q, fun _ => ⟨hq, fun j hj => ?_⟩⟩
        rw [← he, ← hat j (by omega), add_add]
      · exact ⟨stp0, fun h => absurd h hil⟩
    obtain ⟨f, hf⟩ := Classical.axiomOfChoice each
    clear each
    refine ⟨(List.range len).map f, by simp, by omega, fun hp => ?_, ?_⟩
    · obtain ⟨b, off, sp⟩ := a
      have hspot : sp = none := by
        have h0 := (hf 0 hp).2 0 (by omega)
        have h1 : w.cell? ((⟨b, off, sp⟩ : Addr).add (0 * 4 + 0)) = some (.int .i64 (f 0).d) := h0
        simpa [Addr.add] using World.cell?_spot h1
      subst hspot
      refine ⟨b, off, rfl, fun i hil j hj => ?_⟩
      have hil' : i < len := by simpa using hil
      have hq := (hf i hil').2 j hj
      rw [add_none, ← Nat.add_assoc] at hq
      rw [hq]
      simp
    · intro q hq
      simp only [List.mem_map, List.mem_range] at hq
      obtain ⟨i, hi2, rfl⟩ := hq
      exact (hf i hi2).1
set_option maxRecDepth 100000 in
theorem open_stepv {r : Reach} {b0 : Nat} {v : Value} {d : DataW H} {p : List MemPlace} (hv : Value.okWide Try.prog w r b0 33 v) (h : DataW.Trod encH Try.prog w base spare held 33 v d p) : ∃ s : Stp, v = stpV s ∧ s.Ok w := by
  have hC : Try.prog.cellsOf 33 = 4 := by kernel_rfl
  obtain ⟨cs, rfl, hsz⟩ : ∃ cs : Array Value, v = .agg cs ∧ cs.size = 4 := by
    simp only [Value.okWide, Try.underlying33] at hv
    obtain ⟨cs, rfl, hs, _⟩ := hv
    exact ⟨cs, rfl, by rw [hs, hC]⟩
  obtain ⟨fuel, hf⟩ := h
  obtain ⟨s, hok, he⟩ := open_step hf (by simpa [Value.cells] using hsz)
  refine ⟨s, ?_, hok⟩
  have h1 : cs.toList = s.cells := by simpa [Value.cells] using he
  obtain ⟨l⟩ := cs
  simp only at h1
  subst h1
  rfl
end
end Go.Proofs.Ytimplhdliaggfaa.Rg
