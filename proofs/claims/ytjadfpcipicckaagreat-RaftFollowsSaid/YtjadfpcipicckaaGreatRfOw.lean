/-
  Layer 12: a Who by value, opened to cells. No condition.
-/
import Derived.Test.YtjadfpcipicckaaGreatJRfL
import Derived.Deep.Slices
import Derived.Deep.Fields
import Derived.ChangeSame
import Derived.OpenShut
namespace Go.Proofs.YtjadfpcipicckaaGreat.Rw
open Go.RowKit Go.ChangeShapes Go.WideShapes Go.Deep Go.Proofs.YtjadfpcipicckaaGreat.Fld Go.Proofs.YtjadfpcipicckaaGreat.Rg
open Go.Proofs.YtjadfpcipicckaaGreat.Qu (RdI)
set_option linter.unusedVariables false

theorem cell_one {α : Type} {l : List α} (j : Nat) {v : α} (h : l[j]? = some v) : (l.drop j).take 1 = [v] := by
  obtain ⟨hj, he⟩ := List.getElem?_eq_some_iff.1 h
  rw [List.drop_eq_getElem_cons hj, he]
  rfl
theorem sub_at {α : Type} {cs l : List α} {off k : Nat} (h : (cs.drop off).take k = l) (j : Nat) (hj : j < k) : cs[off + j]? = l[j]? := by
  rw [← h, List.getElem?_take, if_pos hj, List.getElem?_drop]
section
variable {H : Type} {encH : TypeId × Value → H} {w : World} {base : Nat} {spare : Nat → Bool} {held : Bool}
theorem open_numsI {fuel : Nat} {v : Value} {x : DataW H × List MemPlace} (h : DataW.trod encH Tryz.prog w base spare held fuel 24 [v] = some x) : ∃ A n cap zs, v = .slice A n cap ∧ RdI w A n zs := by
  rcases open_ints Tryz.underlying24 Tryz.underlying3 (by kernel_rfl) h with ⟨hcs, _⟩ | ⟨a, l, c, zs, hcs, _, hl, hm, hz, _, hcell, hwz⟩
  · simp at hcs
    exact ⟨none, 0, 0, [], hcs, rfl, by unfold maxLen; omega, fun h => by omega⟩
  · simp at hcs
    have hzl : l ≤ zs.length := by rw [hz]; split <;> omega
    have hzc : zs.length ≤ maxLen := by rw [hz]; split <;> omega
    refine ⟨some a, l, c, zs.take l, hcs, by rw [List.length_take]; omega, by omega, fun hn => ?_⟩
    obtain ⟨b, off, spot⟩ := a
    have h0 := hcell 0 (by omega)
    have hspot : spot = none := by simpa [Addr.add] using World.cell?_spot h0
    subst hspot
    refine ⟨b, off, rfl, fun i hi => ?_⟩
    have := hcell i (by omega)
    rw [List.getD_eq_getElem?_getD, List.getElem?_take, if_pos hi, ← List.getD_eq_getElem?_getD, ← this]
    congr 1
    unfold Addr.add
    split <;> simp_all
theorem cells_of {n off k : Nat} {t : TypeId} {cs : List Value} {y : Option (DataW H × List MemPlace)} (hy : y.isSome = true) (hc : Tryz.prog.cellsOf t = k) (h : DataW.trod encH Tryz.prog w base spare held n t ((cs.drop off).take (Tryz.prog.cellsOf t)) = y) : ∃ z, DataW.trod encH Tryz.prog w base spare held n t ((cs.drop off).take k) = some z := by
  obtain ⟨z, rfl⟩ := Option.isSome_iff_exists.1 hy
  rw [hc] at h
  exact ⟨z, h⟩
theorem int_of {n off : Nat} {cs : List Value} {y : Option (DataW H × List MemPlace)} (hy : y.isSome = true) (hl : off < cs.length) (h : DataW.trod encH Tryz.prog w base spare held n 3 ((cs.drop off).take (Tryz.prog.cellsOf 3)) = y) : ∃ a, cs[off]? = some (.int .i64 a) := by
  obtain ⟨z, hz⟩ := cells_of hy (show Tryz.prog.cellsOf 3 = 1 by kernel_rfl) h
  rw [cell_one off (List.getElem?_eq_getElem hl)] at hz
  obtain ⟨a, ha, _, _⟩ := DataW.trod_int Tryz.underlying3 hz
  simp only [List.cons.injEq, and_true] at ha
  exact ⟨a, by rw [List.getElem?_eq_getElem hl, ha]⟩
theorem nums_of {n off : Nat} {cs : List Value} {y : Option (DataW H × List MemPlace)} (hy : y.isSome = true) (hl : off < cs.length) (h : DataW.trod encH Tryz.prog w base spare held n 24 ((cs.drop off).take (Tryz.prog.cellsOf 24)) = y) : ∃ A n c zs, cs[off]? = some (.slice A n c) ∧ RdI w A n zs := by
  obtain ⟨z, hz⟩ := cells_of hy (show Tryz.prog.cellsOf 24 = 1 by kernel_rfl) h
  rw [cell_one off (List.getElem?_eq_getElem hl)] at hz
  obtain ⟨A, m, c, zs, ha, hr⟩ := open_numsI hz
  exact ⟨A, m, c, zs, by rw [List.getElem?_eq_getElem hl, ha], hr⟩
theorem open_hard {n : Nat} {cs : List Value} {x : DataW H × List MemPlace} (h : DataW.trod encH Tryz.prog w base spare held n 23 cs = some x) (hl : cs.length = 2) : ∃ a b : Int, cs = [.int .i64 a, .int .i64 b] := by
  obtain ⟨ys, n', _, _, _, hyl, hf⟩ := DataW.trod_struct Tryz.underlying23 h
  have hsz : ys.length = 2 := hyl
  obtain ⟨a, c0⟩ := int_of (off := 0) (by rw [List.getElem?_eq_getElem (by omega)]; rfl) (by omega) (hf 0 _ rfl)
  obtain ⟨b, c1⟩ := int_of (off := 1) (by rw [List.getElem?_eq_getElem (by omega)]; rfl) (by omega) (hf 1 _ rfl)
  refine ⟨a, b, ?_⟩
  apply List.ext_getElem?
  intro k
  rcases k with _ | _ | k
  · rw [c0]; rfl
  · rw [c1]; rfl
  · rw [List.getElem?_eq_none (by omega), List.getElem?_eq_none (by simp)]
set_option maxRecDepth 100000 in
theorem open_grp {n : Nat} {cs : List Value} {x : DataW H × List MemPlace} (h : DataW.trod encH Tryz.prog w base spare held n 26 cs = some x) (hl : cs.length = 2) : ∃ VA vc vs LA lc ls, cs = [.slice VA vs.length vc, .slice LA ls.length lc] ∧ RdI w VA vs.length vs ∧ RdI w LA ls.length ls := by
  obtain ⟨ys, n', _, _, _, hyl, hf⟩ := DataW.trod_struct Tryz.underlying26 h
  have hsz : ys.length = 2 := hyl
  obtain ⟨VA, vn, vc, vs, c0, hv⟩ := nums_of (off := 0) (by rw [List.getElem?_eq_getElem (by omega)]; rfl) (by omega) (hf 0 _ rfl)
  obtain ⟨LA, ln, lc, ls, c1, hl2⟩ := nums_of (off := 1) (by rw [List.getElem?_eq_getElem (by omega)]; rfl) (by omega) (hf 1 _ rfl)
  have e1 := hv.1
  have e2 := hl2.1
  subst e1 e2
  refine ⟨VA, vc, vs, LA, lc, ls, ?_, hv, hl2⟩
  apply List.ext_getElem?
  intro k
  rcases k with _ | _ | k
  · rw [c0]; rfl
  · rw [c1]; rfl
  · rw [List.getElem?_eq_none (by omega), List.getElem?_eq_none (by simp)]
set_option maxRecDepth 100000 in
theorem open_two {n : Nat} {cs : List Value} {x : DataW H × List MemPlace} (h : DataW.trod encH Tryz.prog w base spare held n 31 cs = some x) (hl : cs.length = 2) : ∃ a b : Int, cs = [.int .i64 a, .int .i64 b] := by
  have hI : Tryz.prog.cellsOf 3 = 1 := by kernel_rfl
  match cs, hl with
  | [v0, v1], _ =>
    obtain ⟨xs, m', _, _, _, hl', hx'⟩ := DataW.trod_array Tryz.underlying31 h
    have x0 := hx' 0 (by omega)
    have x1 := hx' 1 (by omega)
    rw [hI, List.getElem?_eq_getElem (by omega)] at x0 x1
    obtain ⟨n0, e0, _, w0⟩ := DataW.trod_int Tryz.underlying3 x0
    obtain ⟨n1, e1, _, w1⟩ := DataW.trod_int Tryz.underlying3 x1
    simp at e0 e1
    subst e0 e1
    exact ⟨n0, n1, rfl⟩
theorem add_none (b off k : Nat) : (⟨b, off, none⟩ : Addr).add k = ⟨b, off + k, none⟩ := add_at b off k
theorem open_bytes {fuel : Nat} {v : Value} {x : DataW H × List MemPlace} (h : DataW.trod encH Tryz.prog w base spare held fuel 27 [v] = some x) : ∃ A n cap zs, v = .slice A n cap ∧ Rd w A n zs ∧ (A = none → cap = 0) := by
  rcases open_ints Tryz.underlying27 Tryz.underlying5 (by kernel_rfl) h with ⟨hcs, _⟩ | ⟨a, l, c, zs, hcs, _, hl, hm, hz, _, hcell, hwz⟩
  · simp at hcs
    exact ⟨none, 0, 0, [], hcs, Rd.nil w, fun _ => rfl⟩
  · simp at hcs
    refine ⟨some a, l, c, zs.take l, hcs, ?_, fun h => by cases h⟩
    have hzl : l ≤ zs.length := by rw [hz]; split <;> omega
    have hzc : zs.length ≤ maxLen := by rw [hz]; split <;> omega
    exact Rd.of_cells hzl hzc rfl hcell hwz
theorem cell_of {n off : Nat} {t : TypeId} {cs : List Value} {y : Option (DataW H × List MemPlace)} (hy : y.isSome = true) (hc : Tryz.prog.cellsOf t = 1) (hl : off < cs.length) (h : DataW.trod encH Tryz.prog w base spare held n t ((cs.drop off).take (Tryz.prog.cellsOf t)) = y) :
    ∃ v z, cs[off]? = some v ∧ DataW.trod encH Tryz.prog w base spare held n t [v] = some z := by
  obtain ⟨z, rfl⟩ := Option.isSome_iff_exists.1 hy
  rw [hc, cell_one off (List.getElem?_eq_getElem hl)] at h
  exact ⟨_, z, List.getElem?_eq_getElem hl, h⟩
theorem open_entry {n : Nat} {cs : List Value} {x : DataW H × List MemPlace} (h : DataW.trod encH Tryz.prog w base spare held n 67 cs = some x) (hl : cs.length = 4) : ∃ y : EA, (Rd w y.A y.e.data.length y.e.data ∧ (y.A = none → y.cap = 0)) ∧ cs = y.cells := by
  obtain ⟨ys, n', _, _, _, hyl, hf⟩ := DataW.trod_struct Tryz.underlying67 h
  have hsz : ys.length = 4 := hyl
  obtain ⟨v0, z0, c0, t0⟩ := cell_of (off := 0) (t := 3) (by rw [List.getElem?_eq_getElem (by omega)]; rfl) (by kernel_rfl) (by omega) (hf 0 _ rfl)
  obtain ⟨v1, z1, c1, t1⟩ := cell_of (off := 1) (t := 3) (by rw [List.getElem?_eq_getElem (by omega)]; rfl) (by kernel_rfl) (by omega) (hf 1 _ rfl)
  obtain ⟨v2, z2, c2, t2⟩ := cell_of (off := 2) (t := 3) (by rw [List.getElem?_eq_getElem (by omega)]; rfl) (by kernel_rfl) (by omega) (hf 2 _ rfl)
  obtain ⟨v3, z3, c3, t3⟩ := cell_of (off := 3) (t := 27) (by rw [List.getElem?_eq_getElem (by omega)]; rfl) (by kernel_rfl) (by omega) (hf 3 _ rfl)
  obtain ⟨a, ha, _, _⟩ := DataW.trod_int Tryz.underlying3 t0
  obtain ⟨b, hb, _, _⟩ := DataW.trod_int Tryz.underlying3 t1
  obtain ⟨c, hc, _, _⟩ := DataW.trod_int Tryz.underlying3 t2
  obtain ⟨BA, bn, bc, bs, hbb, hbr, hbz⟩ := open_bytes t3
  simp only [List.cons.injEq, and_true] at ha hb hc
  have hbl := hbr.1
  subst hbl
  refine ⟨⟨⟨a, b, c, bs⟩, BA, bc⟩, ⟨hbr, hbz⟩, ?_⟩
  apply List.ext_getElem?
  intro k
  rcases k with _ | _ | _ | _ | k
  · rw [c0, ha]; rfl
  · rw [c1, hb]; rfl
  · rw [c2, hc]; rfl
  · rw [c3, hbb]; rfl
  · rw [List.getElem?_eq_none (by omega), List.getElem?_eq_none (by simp [EA.cells])]
set_option maxRecDepth 100000 in
theorem open_entries {fuel : Nat} {v : Value} {x : DataW H × List MemPlace} (h : DataW.trod encH Tryz.prog w base spare held fuel 30 [v] = some x) : ∃ A len cap ls, v = .slice A len cap ∧ RdE w A len ls ∧ len ≤ cap ∧ cap ≤ maxLen ∧ (A = none → cap = 0) := by
  rcases open_slice Tryz.underlying30 h with ⟨hcs, _⟩ | ⟨a, len, cap, m, n, D, Pl, hcs, hb, hl, hm, hmm, hx, hi⟩
  · simp at hcs
    exact ⟨none, 0, 0, [], hcs, RdE.nil _ _, Nat.le_refl _, by unfold maxLen; omega, fun _ => rfl⟩
  · simp at hcs
    have hlm : len ≤ m := by rw [hmm]; split <;> omega
    have hC : Tryz.prog.cellsOf 67 = 4 := by kernel_rfl
    have each : ∀ i, ∃ q : EA, i < len → (Rd w q.A q.e.data.length q.e.data ∧ (q.A = none → q.cap = 0)) ∧ ∀ j, j < 4 → w.cell? (a.add (i * 4 + j)) = q.cells[j]? := by
      intro i
      by_cases hil : i < len
      · obtain ⟨cs', hc, ht'⟩ := hi i (by omega)
        rw [hC] at hc
        obtain ⟨_, hcl, hat⟩ := World.cells?_some hc
        obtain ⟨q, hq, he⟩ := open_entry ht' (by omega)
        refine ⟨q, fun _ => ⟨hq, fun j hj => ?_⟩⟩
        rw [← he, ← hat j (by omega), add_add]
      · exact ⟨ea0, fun h => absurd h hil⟩
    obtain ⟨f, hf⟩ := Classical.axiomOfChoice each
    clear each
    refine ⟨some a, len, cap, (List.range len).map f, hcs, ⟨by simp, by omega, fun hp => ?_, ?_⟩, hl, hm, fun h => by cases h⟩
    · obtain ⟨b, off, sp⟩ := a
      have hspot : sp = none := by
        have h0 := (hf 0 hp).2 0 (by omega)
        have h1 : w.cell? ((⟨b, off, sp⟩ : Addr).add (0 * 4 + 0)) = some (.int .i64 (f 0).e.idx) := h0
        simpa [Addr.add] using World.cell?_spot h1
      subst hspot
      refine ⟨b, off, rfl, fun jj v hv => ?_⟩
      have hjl : jj < len * 4 := by
        have := (List.getElem?_eq_some_iff.1 hv).1
        rw [rowE_len] at this
        simpa using this
      have hq := (hf (jj / 4) (by omega)).2 (jj % 4) (by omega)
      rw [add_none, show jj / 4 * 4 + jj % 4 = jj by omega] at hq
      rw [hq]
      have h1 := rowE_at ((List.range len).map f) (jj / 4) (jj % 4) (by simp; omega) (by omega)
      rw [show jj / 4 * 4 + jj % 4 = jj by omega, hv] at h1
      rw [h1, List.getD_eq_getElem?_getD, List.getElem?_map, List.getElem?_range (by omega)]
      rfl
    · intro q hq
      simp only [List.mem_map, List.mem_range] at hq
      obtain ⟨i, hi2, rfl⟩ := hq
      exact (hf i hi2).1
theorem open_group0 {n : Nat} {cs : List Value} {x : DataW H × List MemPlace} (h : DataW.trod encH Tryz.prog w base spare held n 26 cs = some x) (hl : cs.length = 2) : ∃ (VA : Option Addr) (vn vc : Nat) (vs : List Int) (LA : Option Addr) (ln lc : Nat) (ls : List Int), cs = [.slice VA vn vc, .slice LA ln lc] ∧ RdI w VA vn vs ∧ RdI w LA ln ls := by
  obtain ⟨VA, vc, vs, LA, lc, ls, h1, h2, h3⟩ := open_grp h hl
  exact ⟨VA, _, vc, vs, LA, _, lc, ls, h1, h2, h3⟩
theorem open_snap {n : Nat} {cs : List Value} {x : DataW H × List MemPlace} (h : DataW.trod encH Tryz.prog w base spare held n 29 cs = some x) (hl : cs.length = 5) : ∃ (i t : Int) (VA : Option Addr) (vn vc : Nat) (vs : List Int) (LA : Option Addr) (ln lc : Nat) (ls : List Int) (DA : Option Addr) (dn dc : Nat) (ds : List Int),
    cs = [.int .i64 i, .int .i64 t, .slice VA vn vc, .slice LA ln lc, .slice DA dn dc] ∧ RdI w VA vn vs ∧ RdI w LA ln ls ∧ Rd w DA dn ds ∧ (DA = none → dc = 0) := by
  obtain ⟨ys, n', _, _, _, hyl, hf⟩ := DataW.trod_struct Tryz.underlying29 h
  have hsz : ys.length = 4 := hyl
  obtain ⟨v0, z0, c0, t0⟩ := cell_of (off := 0) (t := 3) (by rw [List.getElem?_eq_getElem (by omega)]; rfl) (by kernel_rfl) (by omega) (hf 0 _ rfl)
  obtain ⟨v1, z1, c1, t1⟩ := cell_of (off := 1) (t := 3) (by rw [List.getElem?_eq_getElem (by omega)]; rfl) (by kernel_rfl) (by omega) (hf 1 _ rfl)
  obtain ⟨v4, z4, c4, t4⟩ := cell_of (off := 4) (t := 27) (by rw [List.getElem?_eq_getElem (by omega)]; rfl) (by kernel_rfl) (by omega) (hf 3 _ rfl)
  have hg := hf 2 _ rfl
  have hG : Tryz.prog.cellsOf 26 = 2 := by kernel_rfl
  have hg' : DataW.trod encH Tryz.prog w base spare held n' 26 ((cs.drop 2).take (Tryz.prog.cellsOf 26)) = ys[2]? := hg
  rw [hG, List.getElem?_eq_getElem (by omega)] at hg'
  obtain ⟨VA, vn, vc, vs, LA, ln, lc, ls, he, hv, hr⟩ := open_group0 hg' (by rw [List.length_take, List.length_drop]; omega)
  obtain ⟨a, ha, _, _⟩ := DataW.trod_int Tryz.underlying3 t0
  obtain ⟨b, hb, _, _⟩ := DataW.trod_int Tryz.underlying3 t1
  obtain ⟨DA, dn, dc, ds, hd, hdr, hdz⟩ := open_bytes t4
  simp only [List.cons.injEq, and_true] at ha hb
  refine ⟨a, b, VA, vn, vc, vs, LA, ln, lc, ls, DA, dn, dc, ds, ?_, hv, hr, hdr, hdz⟩
  have e2 : cs[2]? = some (.slice VA vn vc) := by
    have := congrArg (fun l => l[0]?) he
    simp only [List.getElem?_take, List.getElem?_drop] at this
    simpa using this
  have e3 : cs[3]? = some (.slice LA ln lc) := by
    have := congrArg (fun l => l[1]?) he
    simp only [List.getElem?_take, List.getElem?_drop] at this
    simpa using this
  apply List.ext_getElem?
  intro i
  rcases i with _ | _ | _ | _ | _ | i
  · rw [c0, ha]; rfl
  · rw [c1, hb]; rfl
  · rw [e2]; rfl
  · rw [e3]; rfl
  · rw [c4, hd]; rfl
  · rw [List.getElem?_eq_none (by omega), List.getElem?_eq_none (by simp)]
set_option maxRecDepth 1000000 in
theorem open_who {n : Nat} {cs : List Value} {x : DataW H × List MemPlace} (h : DataW.trod encH Tryz.prog w base spare held n 33 cs = some x) (hl : cs.length = 11) : ∃ (id hT hV i t : Int) (VA : Option Addr) (vn vc : Nat) (vs : List Int) (LA : Option Addr) (ln lc : Nat) (ls : List Int) (DA : Option Addr) (dn dc : Nat) (ds : List Int) (EA : Option Addr) (en ec : Nat) (es : List Rg.EA) (pat win : Int),
    cs = [.int .i64 id, .int .i64 hT, .int .i64 hV, .int .i64 i, .int .i64 t, .slice VA vn vc, .slice LA ln lc, .slice DA dn dc, .slice EA en ec, .int .i64 pat, .int .i64 win] ∧ RdI w VA vn vs ∧ RdI w LA ln ls ∧ Rd w DA dn ds ∧ (DA = none → dc = 0) ∧ Rg.RdE w EA en es ∧ (EA = none → ec = 0) := by
  obtain ⟨ys, n', _, _, _, hyl, hf⟩ := DataW.trod_struct Tryz.underlying33 h
  have hsz : ys.length = 5 := hyl
  obtain ⟨id, c0⟩ := int_of (off := 0) (by rw [List.getElem?_eq_getElem (by omega)]; rfl) (by omega) (hf 0 _ rfl)
  obtain ⟨z1, h1⟩ := cells_of (off := 1) (k := 2) (t := 23) (by rw [List.getElem?_eq_getElem (by omega)]; rfl) (by kernel_rfl) (hf 1 _ rfl)
  obtain ⟨hT, hV, e1⟩ := open_hard h1 (by rw [List.length_take, List.length_drop]; omega)
  obtain ⟨z2, h2⟩ := cells_of (off := 3) (k := 5) (t := 29) (by rw [List.getElem?_eq_getElem (by omega)]; rfl) (by kernel_rfl) (hf 2 _ rfl)
  obtain ⟨i, t, VA, vn, vc, vs, LA, ln, lc, ls, DA, dn, dc, ds, e2, r1, r2, r3, r4⟩ := open_snap h2 (by rw [List.length_take, List.length_drop]; omega)
  obtain ⟨v8, z8, c8, t8⟩ := cell_of (off := 8) (t := 30) (by rw [List.getElem?_eq_getElem (by omega)]; rfl) (by kernel_rfl) (by omega) (hf 3 _ rfl)
  obtain ⟨EA, en, ec, es, e8, r5, _, _, r6⟩ := open_entries t8
  obtain ⟨z9, h9⟩ := cells_of (off := 9) (k := 2) (t := 31) (by rw [List.getElem?_eq_getElem (by omega)]; rfl) (by kernel_rfl) (hf 4 _ rfl)
  obtain ⟨pat, win, e9⟩ := open_two h9 (by rw [List.length_take, List.length_drop]; omega)
  refine ⟨id, hT, hV, i, t, VA, vn, vc, vs, LA, ln, lc, ls, DA, dn, dc, ds, EA, en, ec, es, pat, win, ?_, r1, r2, r3, r4, r5, r6⟩
  have a1 := fun j hj => sub_at e1 j hj
  have a2 := fun j hj => sub_at e2 j hj
  have a9 := fun j hj => sub_at e9 j hj
  apply List.ext_getElem?
  intro k
  rcases k with _ | _ | _ | _ | _ | _ | _ | _ | _ | _ | _ | k
  · rw [c0]; rfl
  · exact a1 0 (by omega)
  · exact a1 1 (by omega)
  · exact a2 0 (by omega)
  · exact a2 1 (by omega)
  · exact a2 2 (by omega)
  · exact a2 3 (by omega)
  · exact a2 4 (by omega)
  · rw [c8, e8]; rfl
  · exact a9 0 (by omega)
  · exact a9 1 (by omega)
  · rw [List.getElem?_eq_none (by omega), List.getElem?_eq_none (by simp)]
set_option maxRecDepth 1000000 in
theorem open_pair {r : Reach} {b0 : Nat} {v : Value} {d : DataW H} {p : List MemPlace} (hv : Value.okWide Tryz.prog w r b0 31 v) (h : DataW.Trod encH Tryz.prog w base spare held 31 v d p) :
    ∃ x y : Int, v = .agg #[.int .i64 x, .int .i64 y] ∧ -9223372036854775808 ≤ x ∧ x ≤ 9223372036854775807 ∧ -9223372036854775808 ≤ y ∧ y ≤ 9223372036854775807 := by
  have hC : Tryz.prog.cellsOf 3 = 1 := by kernel_rfl
  have hC2 : Tryz.prog.cellsOf 31 = 2 := by kernel_rfl
  obtain ⟨cs, rfl, hsz⟩ : ∃ cs : Array Value, v = .agg cs ∧ cs.size = 2 := by
    simp only [Value.okWide, Tryz.underlying31] at hv
    obtain ⟨cs, rfl, hs, _⟩ := hv
    exact ⟨cs, rfl, by rw [hs, hC2]⟩
  obtain ⟨c0, c1, rfl⟩ : ∃ c0 c1, cs = #[c0, c1] := by
    obtain ⟨l⟩ := cs
    match l, hsz with
    | [c0, c1], _ => exact ⟨c0, c1, rfl⟩
  obtain ⟨fuel, hf⟩ := h
  obtain ⟨xs, m, _, _, _, hl, hx⟩ := DataW.trod_array Tryz.underlying31 hf
  have x0 := hx 0 (by omega)
  have x1 := hx 1 (by omega)
  rw [hC, List.getElem?_eq_getElem (by omega)] at x0 x1
  obtain ⟨n0, e0, _, w0⟩ := DataW.trod_int Tryz.underlying3 x0
  obtain ⟨n1, e1, _, w1⟩ := DataW.trod_int Tryz.underlying3 x1
  simp [Value.cells] at e0 e1
  subst e0 e1
  exact ⟨n0, n1, rfl, (i64_of_wf w0).1, (i64_of_wf w0).2, (i64_of_wf w1).1, (i64_of_wf w1).2⟩
set_option maxRecDepth 1000000 in
theorem open_whov {r : Reach} {b0 : Nat} {v : Value} {d : DataW H} {p : List MemPlace} (hv : Value.okWide Tryz.prog w r b0 33 v) (h : DataW.Trod encH Tryz.prog w base spare held 33 v d p) : ∃ (id hT hV i t : Int) (VA : Option Addr) (vn vc : Nat) (vs : List Int) (LA : Option Addr) (ln lc : Nat) (ls : List Int) (DA : Option Addr) (dn dc : Nat) (ds : List Int) (EA : Option Addr) (en ec : Nat) (es : List Rg.EA) (pat win : Int),
    v = .agg #[.int .i64 id, .int .i64 hT, .int .i64 hV, .int .i64 i, .int .i64 t, .slice VA vn vc, .slice LA ln lc, .slice DA dn dc, .slice EA en ec, .int .i64 pat, .int .i64 win] ∧ RdI w VA vn vs ∧ RdI w LA ln ls ∧ Rd w DA dn ds ∧ (DA = none → dc = 0) ∧ Rg.RdE w EA en es ∧ (EA = none → ec = 0) := by
  have hC : Tryz.prog.cellsOf 33 = 11 := by kernel_rfl
  obtain ⟨cs, rfl, hsz⟩ : ∃ cs : Array Value, v = .agg cs ∧ cs.size = 11 := by
    simp only [Value.okWide, Tryz.underlying33] at hv
    obtain ⟨cs, rfl, hs, _⟩ := hv
    exact ⟨cs, rfl, by rw [hs, hC]⟩
  obtain ⟨fuel, hf⟩ := h
  obtain ⟨id, hT, hV, i, t, VA, vn, vc, vs, LA, ln, lc, ls, DA, dn, dc, ds, EA, en, ec, es, pat, win, he, h1, h2, h3, h4, h5, h6⟩ := open_who hf (by simpa [Value.cells] using hsz)
  refine ⟨id, hT, hV, i, t, VA, vn, vc, vs, LA, ln, lc, ls, DA, dn, dc, ds, EA, en, ec, es, pat, win, ?_, h1, h2, h3, h4, h5, h6⟩
  have h7 := (show cs.toList = _ by simpa [Value.cells] using he)
  obtain ⟨l⟩ := cs
  simp only at h7
  subst h7
  rfl
end
end Go.Proofs.YtjadfpcipicckaaGreat.Rw
