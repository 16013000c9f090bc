/-
  Arguments opened to cells: a slice of acts (RdA), as the given row reads it. No condition.
-/
import Derived.Test.YthdpdhjhpbkhaaaDiskActs
import Derived.Deep.Slices
import Derived.Deep.Fields
import Derived.ChangeSame
import Derived.OpenShut
namespace Go.Proofs.Ythdpdhjhpbkhaaa.Dk
open Go.RowKit Go.ChangeShapes Go.WideShapes Go.Deep Go.Proofs.Ythdpdhjhpbkhaaa.Fld

theorem one_cell {α : Type} {l : List α} (j : Nat) {v : α} (h : l[j]? = some v) : (l.drop j).take 1 = [v] := by
  obtain ⟨hj, he⟩ := List.getElem?_eq_some_iff.1 h
  rw [List.drop_eq_getElem_cons hj, he]
  rfl
theorem i64_range {n : Int} (h : (Lit.int .i64 n).wf = true) : -9223372036854775808 ≤ n ∧ n ≤ 9223372036854775807 := by
  simp [Lit.wf, IntKind.min, IntKind.max, IntKind.bits, IntKind.signed] at h
  omega
section
variable {H : Type} {encH : TypeId × Value → H} {w : World} {base : Nat} {spare : Nat → Bool} {held : Bool}
theorem open_bytes {fuel : Nat} {v : Value} {x : DataW H × List MemPlace} (h : DataW.trod encH Try.prog w base spare held fuel 33 [v] = some x) : ∃ A n cap zs, v = .slice A n cap ∧ Rd w A n zs ∧ (A = none → cap = 0) := by
  rcases open_ints Try.underlying33 Try.underlying5 (by kernel_rfl) h with ⟨hcs, _⟩ | ⟨a, l, c, zs, hcs, _, hl, hm, hz, _, hcell, hwz⟩
  · simp at hcs
    exact ⟨none, 0, 0, [], hcs, Rd.nil w, fun _ => rfl⟩
  · simp at hcs
    refine ⟨some a, l, c, zs.take l, hcs, ?_, fun h => by cases h⟩
    have hzl : l ≤ zs.length := by rw [hz]; split <;> omega
    have hzc : zs.length ≤ maxLen := by rw [hz]; split <;> omega
    exact Rd.of_cells hzl hzc rfl hcell hwz
theorem open_nums {fuel : Nat} {v : Value} {x : DataW H × List MemPlace} (h : DataW.trod encH Try.prog w base spare held fuel 34 [v] = some x) : ∃ A n cap zs, v = .slice A n cap ∧ RdI w A n zs := by
  rcases open_ints Try.underlying34 Try.underlying3 (by kernel_rfl) h with ⟨hcs, _⟩ | ⟨a, l, c, zs, hcs, _, hl, hm, hz, _, hcell, hwz⟩
  · simp at hcs
    exact ⟨none, 0, 0, [], hcs, rfl, by unfold maxLen; omega, fun h => by omega⟩
  · simp at hcs
    have hzl : l ≤ zs.length := by rw [hz]; split <;> omega
    have hzc : zs.length ≤ maxLen := by rw [hz]; split <;> omega
    refine ⟨some a, l, c, zs.take l, hcs, by rw [List.length_take]; omega, by omega, fun hn => ?_⟩
    obtain ⟨b, off, spot⟩ := a
    have h0 := hcell 0 (by omega)
    have hspot : spot = none := by simpa [Addr.add] using World.cell?_spot h0
    subst hspot
    refine ⟨b, off, rfl, fun i hi => ?_⟩
    have := hcell i (by omega)
    rw [List.getD_eq_getElem?_getD, List.getElem?_take, if_pos hi, ← List.getD_eq_getElem?_getD, ← this]
    congr 1
    unfold Addr.add
    split <;> simp_all
theorem cell_of {n off : Nat} {t : TypeId} {cs : List Value} {y : Option (DataW H × List MemPlace)} (hy : y.isSome = true) (hc : Try.prog.cellsOf t = 1) (hl : off < cs.length) (h : DataW.trod encH Try.prog w base spare held n t ((cs.drop off).take (Try.prog.cellsOf t)) = y) :
    ∃ v z, cs[off]? = some v ∧ DataW.trod encH Try.prog w base spare held n t [v] = some z := by
  obtain ⟨z, rfl⟩ := Option.isSome_iff_exists.1 hy
  rw [hc, one_cell off (List.getElem?_eq_getElem hl)] at h
  exact ⟨_, z, List.getElem?_eq_getElem hl, h⟩
/-- six cells that read as an act -/
theorem open_act {n : Nat} {cs : List Value} {x : DataW H × List MemPlace} (h : DataW.trod encH Try.prog w base spare held n 36 cs = some x) (hl : cs.length = 6) : ∃ a : Acc, a.Ok w ∧ cs = a.cells := by
  obtain ⟨ys, n', _, _, _, hyl, hf⟩ := DataW.trod_struct Try.underlying36 h
  have hsz : ys.length = 6 := hyl
  obtain ⟨v0, z0, c0, t0⟩ := cell_of (off := 0) (t := 3) (by rw [List.getElem?_eq_getElem (by omega)]; rfl) (by kernel_rfl) (by omega) (hf 0 _ rfl)
  obtain ⟨v1, z1, c1, t1⟩ := cell_of (off := 1) (t := 9) (by rw [List.getElem?_eq_getElem (by omega)]; rfl) (by kernel_rfl) (by omega) (hf 1 _ rfl)
  obtain ⟨v2, z2, c2, t2⟩ := cell_of (off := 2) (t := 9) (by rw [List.getElem?_eq_getElem (by omega)]; rfl) (by kernel_rfl) (by omega) (hf 2 _ rfl)
  obtain ⟨v3, z3, c3, t3⟩ := cell_of (off := 3) (t := 3) (by rw [List.getElem?_eq_getElem (by omega)]; rfl) (by kernel_rfl) (by omega) (hf 3 _ rfl)
  obtain ⟨v4, z4, c4, t4⟩ := cell_of (off := 4) (t := 33) (by rw [List.getElem?_eq_getElem (by omega)]; rfl) (by kernel_rfl) (by omega) (hf 4 _ rfl)
  obtain ⟨v5, z5, c5, t5⟩ := cell_of (off := 5) (t := 34) (by rw [List.getElem?_eq_getElem (by omega)]; rfl) (by kernel_rfl) (by omega) (hf 5 _ rfl)
  obtain ⟨d, hd, _, _⟩ := DataW.trod_int Try.underlying3 t0
  obtain ⟨nm, hnm, _, hns⟩ := DataW.trod_string Try.underlying9 t1
  obtain ⟨to, hto, _, hts⟩ := DataW.trod_string Try.underlying9 t2
  obtain ⟨an, han, _, hwn⟩ := DataW.trod_int Try.underlying3 t3
  obtain ⟨BA, bn, bc, bs, hb, hbr, hbz⟩ := open_bytes t4
  obtain ⟨KA, kn, kc, ks, hk, hkr⟩ := open_nums t5
  simp only [List.cons.injEq, and_true] at hd hnm hto han
  refine ⟨⟨d, nm, to, an, BA, bn, bc, bs, KA, kn, kc, ks⟩, ⟨hns, hts, (i64_range hwn).2, hbr, hbz, hkr⟩, ?_⟩
  apply List.ext_getElem?
  intro i
  rcases i with _ | _ | _ | _ | _ | _ | i
  · rw [c0, hd]; rfl
  · rw [c1, hnm]; rfl
  · rw [c2, hto]; rfl
  · rw [c3, han]; rfl
  · rw [c4, hb]; rfl
  · rw [c5, hk]; rfl
  · rw [List.getElem?_eq_none (by omega), List.getElem?_eq_none (by simp [Acc.cells])]
theorem open_acts {fuel : Nat} {A : Option Addr} {len cap : Nat} {x : DataW H × List MemPlace} (h : DataW.trod encH Try.prog w base spare held fuel 30 [.slice A len cap] = some x) : ∃ l, RdA w A len l := by
  rcases open_slice Try.underlying30 h with ⟨hcs, _⟩ | ⟨a, len', cap', m, n, D, Pl, hcs, hb, hl, hm, hmm, hx, hi⟩
  · simp at hcs
    obtain ⟨rfl, rfl, rfl⟩ := hcs
    exact ⟨[], rfl, by unfold maxLen; omega, fun h => by omega, fun a ha => by simp at ha⟩
  · simp at hcs
    obtain ⟨rfl, rfl, rfl⟩ := hcs
    have hlm : len ≤ m := by rw [hmm]; split <;> omega
    have hC : Try.prog.cellsOf 36 = 6 := by kernel_rfl
    have each : ∀ i, ∃ q : Acc, i < len → q.Ok w ∧ ∀ j, j < 6 → w.cell? (a.add (i * 6 + j)) = q.cells[j]? := by
      intro i
      by_cases hil : i < len
      · obtain ⟨cs', hc, ht'⟩ := hi i (by omega)
        rw [hC] at hc
        obtain ⟨_, hcl, hat⟩ := World.cells?_some hc
        obtain ⟨q, hq, he⟩ := open_act ht' (by omega)
        refine ⟨q, fun _ => ⟨hq, fun j hj => ?_⟩⟩
        rw [← he, ← hat j (by omega), add_add]
      · exact ⟨⟨0, ByteArray.empty, ByteArray.empty, 0, none, 0, 0, [], none, 0, 0, []⟩, fun h => absurd h hil⟩
    obtain ⟨f, hf⟩ := Classical.axiomOfChoice each
    clear each
    refine ⟨(List.range len).map f, by simp, by omega, fun hp => ?_, ?_⟩
    · obtain ⟨b, off, sp⟩ := a
      have hspot : sp = none := by
        have h0 := (hf 0 hp).2 0 (by omega)
        have h1 : w.cell? ((⟨b, off, sp⟩ : Addr).add (0 * 6 + 0)) = some (.int .i64 (f 0).d) := h0
        simpa [Addr.add] using World.cell?_spot h1
      subst hspot
      refine ⟨b, off, rfl, fun i hil j hj => ?_⟩
      have hil' : i < len := by simpa using hil
      have hq := (hf i hil').2 j hj
      have ea : ∀ k, (⟨b, off, none⟩ : Addr).add k = ⟨b, off + k, none⟩ := fun k => by unfold Addr.add; split <;> simp_all
      rw [ea, ← Nat.add_assoc] at hq
      rw [hq]
      simp
    · intro q hq
      simp only [List.mem_map, List.mem_range] at hq
      obtain ⟨i, hi2, rfl⟩ := hq
      exact (hf i hi2).1
end
end Go.Proofs.Ythdpdhjhpbkhaaa.Dk
