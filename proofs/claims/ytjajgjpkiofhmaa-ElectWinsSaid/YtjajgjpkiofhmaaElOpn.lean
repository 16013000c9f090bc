/-
  Layer 10: arguments opened to cells: a hard state and a Who by value, slices of numbers, of pairs, of steps, of events. No condition.
-/
import Derived.Test.YtjajgjpkiofhmaaElStp
import Derived.Deep.Slices
import Derived.Deep.Fields
import Derived.ChangeSame
import Derived.OpenShut
namespace Go.Proofs.Ytjajgjpkiofhmaa.El
open Go.RowKit Go.ChangeShapes Go.WideShapes Go.Deep Go.Proofs.Ytjajgjpkiofhmaa.Fld Go.Proofs.Ytjajgjpkiofhmaa.Qu
set_option linter.unusedVariables false

theorem cell_one {α : Type} {l : List α} (j : Nat) {v : α} (h : l[j]? = some v) : (l.drop j).take 1 = [v] := by
  obtain ⟨hj, he⟩ := List.getElem?_eq_some_iff.1 h
  rw [List.drop_eq_getElem_cons hj, he]
  rfl
theorem sub_at {α : Type} {cs l : List α} {off k : Nat} (h : (cs.drop off).take k = l) (j : Nat) (hj : j < k) : cs[off + j]? = l[j]? := by
  rw [← h, List.getElem?_take, if_pos hj, List.getElem?_drop]
section
variable {H : Type} {encH : TypeId × Value → H} {w : World} {base : Nat} {spare : Nat → Bool} {held : Bool}
theorem open_numsI {fuel : Nat} {v : Value} {x : DataW H × List MemPlace} (h : DataW.trod encH Try.prog w base spare held fuel 24 [v] = some x) : ∃ A n cap zs, v = .slice A n cap ∧ RdI w A n zs := by
  rcases open_ints Try.underlying24 Try.underlying3 (by kernel_rfl) h with ⟨hcs, _⟩ | ⟨a, l, c, zs, hcs, _, hl, hm, hz, _, hcell, hwz⟩
  · simp at hcs
    exact ⟨none, 0, 0, [], hcs, rfl, by unfold maxLen; omega, fun h => by omega⟩
  · simp at hcs
    have hzl : l ≤ zs.length := by rw [hz]; split <;> omega
    have hzc : zs.length ≤ maxLen := by rw [hz]; split <;> omega
    refine ⟨some a, l, c, zs.take l, hcs, by rw [List.length_take]; omega, by omega, fun hn => ?_⟩
    obtain ⟨b, off, spot⟩ := a
    have h0 := hcell 0 (by omega)
    have hspot : spot = none := by simpa [Addr.add] using World.cell?_spot h0
    subst hspot
    refine ⟨b, off, rfl, fun i hi => ?_⟩
    have := hcell i (by omega)
    rw [List.getD_eq_getElem?_getD, List.getElem?_take, if_pos hi, ← List.getD_eq_getElem?_getD, ← this]
    congr 1
    unfold Addr.add
    split <;> simp_all
theorem cells_of {n off k : Nat} {t : TypeId} {cs : List Value} {y : Option (DataW H × List MemPlace)} (hy : y.isSome = true) (hc : Try.prog.cellsOf t = k) (h : DataW.trod encH Try.prog w base spare held n t ((cs.drop off).take (Try.prog.cellsOf t)) = y) : ∃ z, DataW.trod encH Try.prog w base spare held n t ((cs.drop off).take k) = some z := by
  obtain ⟨z, rfl⟩ := Option.isSome_iff_exists.1 hy
  rw [hc] at h
  exact ⟨z, h⟩
theorem int_of {n off : Nat} {cs : List Value} {y : Option (DataW H × List MemPlace)} (hy : y.isSome = true) (hl : off < cs.length) (h : DataW.trod encH Try.prog w base spare held n 3 ((cs.drop off).take (Try.prog.cellsOf 3)) = y) : ∃ a, cs[off]? = some (.int .i64 a) := by
  obtain ⟨z, hz⟩ := cells_of hy (show Try.prog.cellsOf 3 = 1 by kernel_rfl) h
  rw [cell_one off (List.getElem?_eq_getElem hl)] at hz
  obtain ⟨a, ha, _, _⟩ := DataW.trod_int Try.underlying3 hz
  simp only [List.cons.injEq, and_true] at ha
  exact ⟨a, by rw [List.getElem?_eq_getElem hl, ha]⟩
theorem bool_of {n off : Nat} {cs : List Value} {y : Option (DataW H × List MemPlace)} (hy : y.isSome = true) (hl : off < cs.length) (h : DataW.trod encH Try.prog w base spare held n 4 ((cs.drop off).take (Try.prog.cellsOf 4)) = y) : ∃ a, cs[off]? = some (.bool a) := by
  obtain ⟨z, hz⟩ := cells_of hy (show Try.prog.cellsOf 4 = 1 by kernel_rfl) h
  rw [cell_one off (List.getElem?_eq_getElem hl)] at hz
  obtain ⟨a, ha, _⟩ := DataW.trod_bool Try.underlying4 hz
  simp only [List.cons.injEq, and_true] at ha
  exact ⟨a, by rw [List.getElem?_eq_getElem hl, ha]⟩
theorem nums_of {n off : Nat} {cs : List Value} {y : Option (DataW H × List MemPlace)} (hy : y.isSome = true) (hl : off < cs.length) (h : DataW.trod encH Try.prog w base spare held n 24 ((cs.drop off).take (Try.prog.cellsOf 24)) = y) : ∃ A n c zs, cs[off]? = some (.slice A n c) ∧ RdI w A n zs := by
  obtain ⟨z, hz⟩ := cells_of hy (show Try.prog.cellsOf 24 = 1 by kernel_rfl) h
  rw [cell_one off (List.getElem?_eq_getElem hl)] at hz
  obtain ⟨A, m, c, zs, ha, hr⟩ := open_numsI hz
  exact ⟨A, m, c, zs, by rw [List.getElem?_eq_getElem hl, ha], hr⟩
theorem open_hard {n : Nat} {cs : List Value} {x : DataW H × List MemPlace} (h : DataW.trod encH Try.prog w base spare held n 23 cs = some x) (hl : cs.length = 2) : ∃ a b : Int, cs = [.int .i64 a, .int .i64 b] := by
  obtain ⟨ys, n', _, _, _, hyl, hf⟩ := DataW.trod_struct Try.underlying23 h
  have hsz : ys.length = 2 := hyl
  obtain ⟨a, c0⟩ := int_of (off := 0) (by rw [List.getElem?_eq_getElem (by omega)]; rfl) (by omega) (hf 0 _ rfl)
  obtain ⟨b, c1⟩ := int_of (off := 1) (by rw [List.getElem?_eq_getElem (by omega)]; rfl) (by omega) (hf 1 _ rfl)
  refine ⟨a, b, ?_⟩
  apply List.ext_getElem?
  intro k
  rcases k with _ | _ | k
  · rw [c0]; rfl
  · rw [c1]; rfl
  · rw [List.getElem?_eq_none (by omega), List.getElem?_eq_none (by simp)]
set_option maxRecDepth 100000 in
theorem open_grp {n : Nat} {cs : List Value} {x : DataW H × List MemPlace} (h : DataW.trod encH Try.prog w base spare held n 26 cs = some x) (hl : cs.length = 2) : ∃ VA vc vs LA lc ls, cs = [.slice VA vs.length vc, .slice LA ls.length lc] ∧ RdI w VA vs.length vs ∧ RdI w LA ls.length ls := by
  obtain ⟨ys, n', _, _, _, hyl, hf⟩ := DataW.trod_struct Try.underlying26 h
  have hsz : ys.length = 2 := hyl
  obtain ⟨VA, vn, vc, vs, c0, hv⟩ := nums_of (off := 0) (by rw [List.getElem?_eq_getElem (by omega)]; rfl) (by omega) (hf 0 _ rfl)
  obtain ⟨LA, ln, lc, ls, c1, hl2⟩ := nums_of (off := 1) (by rw [List.getElem?_eq_getElem (by omega)]; rfl) (by omega) (hf 1 _ rfl)
  have e1 := hv.1
  have e2 := hl2.1
  subst e1 e2
  refine ⟨VA, vc, vs, LA, lc, ls, ?_, hv, hl2⟩
  apply List.ext_getElem?
  intro k
  rcases k with _ | _ | k
  · rw [c0]; rfl
  · rw [c1]; rfl
  · rw [List.getElem?_eq_none (by omega), List.getElem?_eq_none (by simp)]
set_option maxRecDepth 100000 in
theorem open_two {n : Nat} {cs : List Value} {x : DataW H × List MemPlace} (h : DataW.trod encH Try.prog w base spare held n 38 cs = some x) (hl : cs.length = 2) : ∃ a b : Int, cs = [.int .i64 a, .int .i64 b] := by
  have hI : Try.prog.cellsOf 3 = 1 := by kernel_rfl
  match cs, hl with
  | [v0, v1], _ =>
    obtain ⟨xs, m', _, _, _, hl', hx'⟩ := DataW.trod_array Try.underlying38 h
    have x0 := hx' 0 (by omega)
    have x1 := hx' 1 (by omega)
    rw [hI, List.getElem?_eq_getElem (by omega)] at x0 x1
    obtain ⟨n0, e0, _, w0⟩ := DataW.trod_int Try.underlying3 x0
    obtain ⟨n1, e1, _, w1⟩ := DataW.trod_int Try.underlying3 x1
    simp at e0 e1
    subst e0 e1
    exact ⟨n0, n1, rfl⟩
set_option maxRecDepth 100000 in
theorem open_bal {n : Nat} {cs : List Value} {x : DataW H × List MemPlace} (h : DataW.trod encH Try.prog w base spare held n 40 cs = some x) (hl : cs.length = 7) : ∃ b : Bal, cs = b.cells := by
  obtain ⟨ys, n', _, _, _, hyl, hf⟩ := DataW.trod_struct Try.underlying40 h
  have hsz : ys.length = 7 := hyl
  obtain ⟨a0, c0⟩ := int_of (off := 0) (by rw [List.getElem?_eq_getElem (by omega)]; rfl) (by omega) (hf 0 _ rfl)
  obtain ⟨a1, c1⟩ := int_of (off := 1) (by rw [List.getElem?_eq_getElem (by omega)]; rfl) (by omega) (hf 1 _ rfl)
  obtain ⟨a2, c2⟩ := int_of (off := 2) (by rw [List.getElem?_eq_getElem (by omega)]; rfl) (by omega) (hf 2 _ rfl)
  obtain ⟨a3, c3⟩ := int_of (off := 3) (by rw [List.getElem?_eq_getElem (by omega)]; rfl) (by omega) (hf 3 _ rfl)
  obtain ⟨a4, c4⟩ := int_of (off := 4) (by rw [List.getElem?_eq_getElem (by omega)]; rfl) (by omega) (hf 4 _ rfl)
  obtain ⟨a5, c5⟩ := int_of (off := 5) (by rw [List.getElem?_eq_getElem (by omega)]; rfl) (by omega) (hf 5 _ rfl)
  obtain ⟨a6, c6⟩ := bool_of (off := 6) (by rw [List.getElem?_eq_getElem (by omega)]; rfl) (by omega) (hf 6 _ rfl)
  refine ⟨⟨a0, a1, a2, a3, a4, a5, a6⟩, ?_⟩
  apply List.ext_getElem?
  intro k
  rcases k with _ | _ | _ | _ | _ | _ | _ | k
  · rw [c0]; rfl
  · rw [c1]; rfl
  · rw [c2]; rfl
  · rw [c3]; rfl
  · rw [c4]; rfl
  · rw [c5]; rfl
  · rw [c6]; rfl
  · rw [List.getElem?_eq_none (by omega), List.getElem?_eq_none (by simp [Bal.cells])]
set_option maxRecDepth 100000 in
theorem open_hardv {r : Reach} {b0 : Nat} {v : Value} {d : DataW H} {p : List MemPlace} (hv : Value.okWide Try.prog w r b0 23 v) (h : DataW.Trod encH Try.prog w base spare held 23 v d p) : ∃ a b : Int, v = .agg #[.int .i64 a, .int .i64 b] := by
  have hC : Try.prog.cellsOf 23 = 2 := by kernel_rfl
  obtain ⟨cs, rfl, hsz⟩ : ∃ cs : Array Value, v = .agg cs ∧ cs.size = 2 := by
    simp only [Value.okWide, Try.underlying23] at hv
    obtain ⟨cs, rfl, hs, _⟩ := hv
    exact ⟨cs, rfl, by rw [hs, hC]⟩
  obtain ⟨fuel, hf⟩ := h
  obtain ⟨a, b, he⟩ := open_hard hf (by simpa [Value.cells] using hsz)
  refine ⟨a, b, ?_⟩
  have h1 : cs.toList = [.int .i64 a, .int .i64 b] := by simpa [Value.cells] using he
  obtain ⟨l⟩ := cs
  simp only at h1
  subst h1
  rfl
set_option maxRecDepth 100000 in
theorem open_who {n : Nat} {cs : List Value} {x : DataW H × List MemPlace} (h : DataW.trod encH Try.prog w base spare held n 28 cs = some x) (hl : cs.length = 6) : ∃ id t v VA vc vs LA lc ls pat, cs = (whoC id t v VA vs.length vc LA ls.length lc pat).toList ∧ RdI w VA vs.length vs ∧ RdI w LA ls.length ls := by
  obtain ⟨ys, n', _, _, _, hyl, hf⟩ := DataW.trod_struct Try.underlying28 h
  have hsz : ys.length = 4 := hyl
  obtain ⟨id, c0⟩ := int_of (off := 0) (by rw [List.getElem?_eq_getElem (by omega)]; rfl) (by omega) (hf 0 _ rfl)
  obtain ⟨z1, t1⟩ := cells_of (off := 1) (k := 2) (t := 23) (by rw [List.getElem?_eq_getElem (by omega)]; rfl) (by kernel_rfl) (hf 1 _ rfl)
  obtain ⟨t, v, e1⟩ := open_hard t1 (by rw [List.length_take, List.length_drop]; omega)
  obtain ⟨z2, t2⟩ := cells_of (off := 3) (k := 2) (t := 26) (by rw [List.getElem?_eq_getElem (by omega)]; rfl) (by kernel_rfl) (hf 2 _ rfl)
  obtain ⟨VA, vc, vs, LA, lc, ls, e2, hv, hl2⟩ := open_grp t2 (by rw [List.length_take, List.length_drop]; omega)
  obtain ⟨pat, c5⟩ := int_of (off := 5) (by rw [List.getElem?_eq_getElem (by omega)]; rfl) (by omega) (hf 3 _ rfl)
  refine ⟨id, t, v, VA, vc, vs, LA, lc, ls, pat, ?_, hv, hl2⟩
  apply List.ext_getElem?
  intro k
  rcases k with _ | _ | _ | _ | _ | _ | k
  · rw [c0]; rfl
  · exact sub_at e1 0 (by omega)
  · exact sub_at e1 1 (by omega)
  · exact sub_at e2 0 (by omega)
  · exact sub_at e2 1 (by omega)
  · rw [c5]; rfl
  · rw [List.getElem?_eq_none (by omega), List.getElem?_eq_none (by simp [whoC])]
set_option maxRecDepth 100000 in
theorem open_whov {r : Reach} {b0 : Nat} {v : Value} {d : DataW H} {p : List MemPlace} (hv : Value.okWide Try.prog w r b0 28 v) (h : DataW.Trod encH Try.prog w base spare held 28 v d p) : ∃ id t v' VA vc vs LA lc ls pat, v = .agg (whoC id t v' VA vs.length vc LA ls.length lc pat) ∧ RdI w VA vs.length vs ∧ RdI w LA ls.length ls := by
  have hC : Try.prog.cellsOf 28 = 6 := by kernel_rfl
  obtain ⟨cs, rfl, hsz⟩ : ∃ cs : Array Value, v = .agg cs ∧ cs.size = 6 := by
    simp only [Value.okWide, Try.underlying28] at hv
    obtain ⟨cs, rfl, hs, _⟩ := hv
    exact ⟨cs, rfl, by rw [hs, hC]⟩
  obtain ⟨fuel, hf⟩ := h
  obtain ⟨id, t, v', VA, vc, vs, LA, lc, ls, pat, he, h1, h2⟩ := open_who hf (by simpa [Value.cells] using hsz)
  refine ⟨id, t, v', VA, vc, vs, LA, lc, ls, pat, ?_, h1, h2⟩
  have h5 : cs.toList = (whoC id t v' VA vs.length vc LA ls.length lc pat).toList := by simpa [Value.cells] using he
  rw [Array.toList_inj.1 h5]
set_option maxRecDepth 100000 in
theorem open_step {n : Nat} {cs : List Value} {x : DataW H × List MemPlace} (h : DataW.trod encH Try.prog w base spare held n 42 cs = some x) (hl : cs.length = 13) : ∃ s : Stp, s.Ok w ∧ cs = s.cells := by
  obtain ⟨ys, n', _, _, _, hyl, hf⟩ := DataW.trod_struct Try.underlying42 h
  have hsz : ys.length = 5 := hyl
  obtain ⟨d, c0⟩ := int_of (off := 0) (by rw [List.getElem?_eq_getElem (by omega)]; rfl) (by omega) (hf 0 _ rfl)
  obtain ⟨draw, c1⟩ := int_of (off := 1) (by rw [List.getElem?_eq_getElem (by omega)]; rfl) (by omega) (hf 1 _ rfl)
  obtain ⟨z1, t1⟩ := cells_of (off := 2) (k := 2) (t := 38) (by rw [List.getElem?_eq_getElem (by omega)]; rfl) (by kernel_rfl) (hf 2 _ rfl)
  obtain ⟨l0, l1, e1⟩ := open_two t1 (by rw [List.length_take, List.length_drop]; omega)
  obtain ⟨z2, t2⟩ := cells_of (off := 4) (k := 7) (t := 40) (by rw [List.getElem?_eq_getElem (by omega)]; rfl) (by kernel_rfl) (hf 3 _ rfl)
  obtain ⟨b, e2⟩ := open_bal t2 (by rw [List.length_take, List.length_drop]; omega)
  obtain ⟨z3, t3⟩ := cells_of (off := 11) (k := 2) (t := 26) (by rw [List.getElem?_eq_getElem (by omega)]; rfl) (by kernel_rfl) (hf 4 _ rfl)
  obtain ⟨VA, vc, vs, LA, lc, ls, e3, hv, hl2⟩ := open_grp t3 (by rw [List.length_take, List.length_drop]; omega)
  refine ⟨⟨d, draw, l0, l1, b, VA, vc, vs, LA, lc, ls⟩, ⟨hv, hl2⟩, ?_⟩
  apply List.ext_getElem?
  intro k
  rcases k with _ | _ | _ | _ | _ | _ | _ | _ | _ | _ | _ | _ | _ | k
  · rw [c0]; rfl
  · rw [c1]; rfl
  · exact sub_at e1 0 (by omega)
  · exact sub_at e1 1 (by omega)
  · exact sub_at e2 0 (by omega)
  · exact sub_at e2 1 (by omega)
  · exact sub_at e2 2 (by omega)
  · exact sub_at e2 3 (by omega)
  · exact sub_at e2 4 (by omega)
  · exact sub_at e2 5 (by omega)
  · exact sub_at e2 6 (by omega)
  · exact sub_at e3 0 (by omega)
  · exact sub_at e3 1 (by omega)
  · rw [List.getElem?_eq_none (by omega), List.getElem?_eq_none (by simp [Stp.cells])]
set_option maxRecDepth 100000 in
theorem open_steps {fuel : Nat} {A : Option Addr} {len cap : Nat} {x : DataW H × List MemPlace} (h : DataW.trod encH Try.prog w base spare held fuel 29 [.slice A len cap] = some x) : ∃ l, RdSt w A len l := by
  rcases open_slice Try.underlying29 h with ⟨hcs, _⟩ | ⟨a, len', cap', m, n, D, Pl, hcs, hb, hl, hm, hmm, hx, hi⟩
  · simp at hcs
    obtain ⟨rfl, rfl, rfl⟩ := hcs
    exact ⟨[], rfl, by unfold maxLen; omega, fun h => by omega, fun a ha => by simp at ha⟩
  · simp at hcs
    obtain ⟨rfl, rfl, rfl⟩ := hcs
    have hlm : len ≤ m := by rw [hmm]; split <;> omega
    have hC : Try.prog.cellsOf 42 = 13 := by kernel_rfl
    have each : ∀ i, ∃ q : Stp, i < len → q.Ok w ∧ ∀ j, j < 13 → w.cell? (a.add (i * 13 + j)) = q.cells[j]? := by
      intro i
      by_cases hil : i < len
      · obtain ⟨cs', hc, ht'⟩ := hi i (by omega)
        rw [hC] at hc
        obtain ⟨_, hcl, hat⟩ := World.cells?_some hc
        obtain ⟨q, hq, he⟩ := open_step ht' (by omega)
        refine ⟨q, fun _ => ⟨hq, fun j hj => ?_⟩⟩
        rw [← he, ← hat j (by omega), add_add]
      · exact ⟨stp0, fun h => absurd h hil⟩
    obtain ⟨f, hf⟩ := Classical.axiomOfChoice each
    clear each
    refine ⟨(List.range len).map f, by simp, by omega, fun hp => ?_, ?_⟩
    · obtain ⟨b, off, sp⟩ := a
      have hspot : sp = none := by
        have h0 := (hf 0 hp).2 0 (by omega)
        have h1 : w.cell? ((⟨b, off, sp⟩ : Addr).add (0 * 13 + 0)) = some (.int .i64 (f 0).d) := h0
        simpa [Addr.add] using World.cell?_spot h1
      subst hspot
      refine ⟨b, off, rfl, fun i hil j hj => ?_⟩
      have hil' : i < len := by simpa using hil
      have hq := (hf i hil').2 j hj
      rw [addB, ← Nat.add_assoc] at hq
      rw [hq]
      simp
    · intro q hq
      simp only [List.mem_map, List.mem_range] at hq
      obtain ⟨i, hi2, rfl⟩ := hq
      exact (hf i hi2).1
end
end Go.Proofs.Ytjajgjpkiofhmaa.El
