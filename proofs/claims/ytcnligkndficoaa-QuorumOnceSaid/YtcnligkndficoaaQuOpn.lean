/-
  Layer 9: arguments opened to cells: a group, an array of sixteen numbers, two numbers, two lists by value; a slice of numbers. No condition.
-/
import Derived.Test.YtcnligkndficoaaQuA
import Derived.Test.YtcnligkndficoaaQuM0
import Derived.Deep.Slices
import Derived.Deep.Fields
import Derived.ChangeSame
import Derived.OpenShut
namespace Go.Proofs.Ytcnligkndficoaa.Qu
open Go.RowKit Go.ChangeShapes Go.WideShapes Go.Deep Go.Proofs.Ytcnligkndficoaa.Fld
set_option linter.unusedVariables false

theorem cell_one {α : Type} {l : List α} (j : Nat) {v : α} (h : l[j]? = some v) : (l.drop j).take 1 = [v] := by
  obtain ⟨hj, he⟩ := List.getElem?_eq_some_iff.1 h
  rw [List.drop_eq_getElem_cons hj, he]
  rfl
section
variable {H : Type} {encH : TypeId × Value → H} {w : World} {base : Nat} {spare : Nat → Bool} {held : Bool}
theorem open_nums {fuel : Nat} {v : Value} {x : DataW H × List MemPlace} (h : DataW.trod encH Try.prog w base spare held fuel 22 [v] = some x) : ∃ A n cap zs, v = .slice A n cap ∧ RdI w A n zs := by
  rcases open_ints Try.underlying22 Try.underlying3 (by kernel_rfl) h with ⟨hcs, _⟩ | ⟨a, l, c, zs, hcs, _, hl, hm, hz, _, hcell, hwz⟩
  · simp at hcs
    exact ⟨none, 0, 0, [], hcs, rfl, by unfold maxLen; omega, fun h => by omega⟩
  · simp at hcs
    have hzl : l ≤ zs.length := by rw [hz]; split <;> omega
    have hzc : zs.length ≤ maxLen := by rw [hz]; split <;> omega
    refine ⟨some a, l, c, zs.take l, hcs, by rw [List.length_take]; omega, by omega, fun hn => ?_⟩
    obtain ⟨b, off, spot⟩ := a
    have h0 := hcell 0 (by omega)
    have hspot : spot = none := by simpa [Addr.add] using World.cell?_spot h0
    subst hspot
    refine ⟨b, off, rfl, fun i hi => ?_⟩
    have := hcell i (by omega)
    rw [List.getD_eq_getElem?_getD, List.getElem?_take, if_pos hi, ← List.getD_eq_getElem?_getD, ← this]
    congr 1
    unfold Addr.add
    split <;> simp_all
theorem cell_of {n off : Nat} {t : TypeId} {cs : List Value} {y : Option (DataW H × List MemPlace)} (hy : y.isSome = true) (hc : Try.prog.cellsOf t = 1) (hl : off < cs.length) (h : DataW.trod encH Try.prog w base spare held n t ((cs.drop off).take (Try.prog.cellsOf t)) = y) :
    ∃ v z, cs[off]? = some v ∧ DataW.trod encH Try.prog w base spare held n t [v] = some z := by
  obtain ⟨z, rfl⟩ := Option.isSome_iff_exists.1 hy
  rw [hc, cell_one off (List.getElem?_eq_getElem hl)] at h
  exact ⟨_, z, List.getElem?_eq_getElem hl, h⟩
theorem open_group {n : Nat} {cs : List Value} {x : DataW H × List MemPlace} (h : DataW.trod encH Try.prog w base spare held n 24 cs = some x) (hl : cs.length = 2) : ∃ VA vn vc vs LA ln lc ls, cs = [.slice VA vn vc, .slice LA ln lc] ∧ RdI w VA vn vs ∧ RdI w LA ln ls := by
  obtain ⟨ys, n', _, _, _, hyl, hf⟩ := DataW.trod_struct Try.underlying24 h
  have hsz : ys.length = 2 := hyl
  obtain ⟨v0, z0, c0, t0⟩ := cell_of (off := 0) (t := 22) (by rw [List.getElem?_eq_getElem (by omega)]; rfl) (by kernel_rfl) (by omega) (hf 0 _ rfl)
  obtain ⟨v1, z1, c1, t1⟩ := cell_of (off := 1) (t := 22) (by rw [List.getElem?_eq_getElem (by omega)]; rfl) (by kernel_rfl) (by omega) (hf 1 _ rfl)
  obtain ⟨VA, vn, vc, vs, hv, hr⟩ := open_nums t0
  obtain ⟨LA, ln, lc, ls, hv2, hr2⟩ := open_nums t1
  refine ⟨VA, vn, vc, vs, LA, ln, lc, ls, ?_, hr, hr2⟩
  apply List.ext_getElem?
  intro i
  rcases i with _ | _ | i
  · rw [c0, hv]; rfl
  · rw [c1, hv2]; rfl
  · rw [List.getElem?_eq_none (by omega), List.getElem?_eq_none (by simp)]
theorem open_groupv {r : Reach} {b0 : Nat} {v : Value} {d : DataW H} {p : List MemPlace} (hv : Value.okWide Try.prog w r b0 24 v) (h : DataW.Trod encH Try.prog w base spare held 24 v d p) : ∃ VA vn vc vs LA ln lc ls, v = grpV VA vn vc LA ln lc ∧ RdI w VA vn vs ∧ RdI w LA ln ls := by
  have hC : Try.prog.cellsOf 24 = 2 := by kernel_rfl
  obtain ⟨cs, rfl, hsz⟩ : ∃ cs : Array Value, v = .agg cs ∧ cs.size = 2 := by
    simp only [Value.okWide, Try.underlying24] at hv
    obtain ⟨cs, rfl, hs, _⟩ := hv
    exact ⟨cs, rfl, by rw [hs, hC]⟩
  obtain ⟨fuel, hf⟩ := h
  obtain ⟨VA, vn, vc, vs, LA, ln, lc, ls, he, h1, h2⟩ := open_group hf (by simpa [Value.cells] using hsz)
  refine ⟨VA, vn, vc, vs, LA, ln, lc, ls, ?_, h1, h2⟩
  have h5 : cs.toList = [.slice VA vn vc, .slice LA ln lc] := by simpa [Value.cells] using he
  obtain ⟨l⟩ := cs
  simp only at h5
  subst h5
  rfl
theorem open_pair {r : Reach} {b0 : Nat} {v : Value} {d : DataW H} {p : List MemPlace} (hv : Value.okWide Try.prog w r b0 38 v) (h : DataW.Trod encH Try.prog w base spare held 38 v d p) :
    ∃ x y : Int, v = .agg #[.int .i64 x, .int .i64 y] ∧ -9223372036854775808 ≤ x ∧ x ≤ 9223372036854775807 ∧ -9223372036854775808 ≤ y ∧ y ≤ 9223372036854775807 := by
  have hC : Try.prog.cellsOf 3 = 1 := by kernel_rfl
  have hC2 : Try.prog.cellsOf 38 = 2 := by kernel_rfl
  obtain ⟨cs, rfl, hsz⟩ : ∃ cs : Array Value, v = .agg cs ∧ cs.size = 2 := by
    simp only [Value.okWide, Try.underlying38] at hv
    obtain ⟨cs, rfl, hs, _⟩ := hv
    exact ⟨cs, rfl, by rw [hs, hC2]⟩
  obtain ⟨c0, c1, rfl⟩ : ∃ c0 c1, cs = #[c0, c1] := by
    obtain ⟨l⟩ := cs
    match l, hsz with
    | [c0, c1], _ => exact ⟨c0, c1, rfl⟩
  obtain ⟨fuel, hf⟩ := h
  obtain ⟨xs, m, _, _, _, hl, hx⟩ := DataW.trod_array Try.underlying38 hf
  have x0 := hx 0 (by omega)
  have x1 := hx 1 (by omega)
  rw [hC, List.getElem?_eq_getElem (by omega)] at x0 x1
  obtain ⟨n0, e0, _, w0⟩ := DataW.trod_int Try.underlying3 x0
  obtain ⟨n1, e1, _, w1⟩ := DataW.trod_int Try.underlying3 x1
  simp [Value.cells] at e0 e1
  subst e0 e1
  exact ⟨n0, n1, rfl, (i64_of_wf w0).1, (i64_of_wf w0).2, (i64_of_wf w1).1, (i64_of_wf w1).2⟩
def toI : Value → Int
  | .int _ n => n
  | _ => 0
theorem open_arr {r : Reach} {b0 : Nat} {v : Value} {d : DataW H} {p : List MemPlace} (hv : Value.okWide Try.prog w r b0 30 v) (h : DataW.Trod encH Try.prog w base spare held 30 v d p) : ∃ ps : List Int, v = .agg (arrC ps) ∧ ps.length = 16 := by
  have hC : Try.prog.cellsOf 3 = 1 := by kernel_rfl
  have hC2 : Try.prog.cellsOf 30 = 16 := by kernel_rfl
  obtain ⟨cs, rfl, hsz⟩ : ∃ cs : Array Value, v = .agg cs ∧ cs.size = 16 := by
    simp only [Value.okWide, Try.underlying30] at hv
    obtain ⟨cs, rfl, hs, _⟩ := hv
    exact ⟨cs, rfl, by rw [hs, hC2]⟩
  obtain ⟨fuel, hf⟩ := h
  obtain ⟨xs, m, _, _, _, hl, hx⟩ := DataW.trod_array Try.underlying30 hf
  have hget : ∀ i, i < 16 → ∃ n : Int, cs[i]? = some (.int .i64 n) := by
    intro i hi
    have xi := hx i (by omega)
    rw [hC, List.getElem?_eq_getElem (by omega)] at xi
    obtain ⟨n, e, _, _⟩ := DataW.trod_int Try.underlying3 xi
    refine ⟨n, ?_⟩
    rw [Nat.mul_one] at e
    have e2 : (cs.toList.drop i).take 1 = [Value.int .i64 n] := by simpa [Value.cells] using e
    have e3 := congrArg (fun l => l[0]?) e2
    simpa using e3
  refine ⟨cs.toList.map toI, ?_, by simpa using hsz⟩
  congr 1
  apply Array.ext_getElem?
  intro i
  unfold arrC vI
  rw [List.map_map, ← Array.getElem?_toList, ← Array.getElem?_toList, List.toList_toArray, List.getElem?_map, Array.getElem?_toList]
  by_cases hi : i < 16
  · obtain ⟨n, hn⟩ := hget i hi
    rw [hn]
    rfl
  · rw [Array.getElem?_eq_none (by omega)]
    rfl
theorem open_two {r : Reach} {b0 : Nat} {v : Value} {d : DataW H} {p : List MemPlace} (hv : Value.okWide Try.prog w r b0 39 v) (h : DataW.Trod encH Try.prog w base spare held 39 v d p) : ∃ SA sn sc sl TA tn tc tl, v = .agg #[.slice SA sn sc, .slice TA tn tc] ∧ RdI w SA sn sl ∧ RdI w TA tn tl := by
  have hC : Try.prog.cellsOf 22 = 1 := by kernel_rfl
  have hC2 : Try.prog.cellsOf 39 = 2 := by kernel_rfl
  obtain ⟨cs, rfl, hsz⟩ : ∃ cs : Array Value, v = .agg cs ∧ cs.size = 2 := by
    simp only [Value.okWide, Try.underlying39] at hv
    obtain ⟨cs, rfl, hs, _⟩ := hv
    exact ⟨cs, rfl, by rw [hs, hC2]⟩
  obtain ⟨c0, c1, rfl⟩ : ∃ c0 c1, cs = #[c0, c1] := by
    obtain ⟨l⟩ := cs
    match l, hsz with
    | [c0, c1], _ => exact ⟨c0, c1, rfl⟩
  obtain ⟨fuel, hf⟩ := h
  obtain ⟨xs, m, _, _, _, hl, hx⟩ := DataW.trod_array Try.underlying39 hf
  have x0 := hx 0 (by omega)
  have x1 := hx 1 (by omega)
  rw [hC, List.getElem?_eq_getElem (by omega)] at x0 x1
  simp [Value.cells] at x0 x1
  obtain ⟨SA, sn, sc, sl, e0, r0⟩ := open_nums x0
  obtain ⟨TA, tn, tc, tl, e1, r1⟩ := open_nums x1
  subst e0 e1
  exact ⟨SA, sn, sc, sl, TA, tn, tc, tl, rfl, r0, r1⟩
end
end Go.Proofs.Ytcnligkndficoaa.Qu
