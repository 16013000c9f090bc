/-
  Several texts in one: Layer 9, a group behind a change: what it is, and how it lies in memory. Conditions: the lists can be read. Layer 9: what Middle is, arrays of numbers in memory, the world behind a sort. Conditions: as each theorem states.
-/
import Derived.Test.YtjadfpcipicckaaGreatJQuC
import Derived.Deep.RegionHeld3
import Derived.Deep.RegionWith
import Derived.Deep.CutRange
import Derived.Deep.CutBlock
import Derived.Sort.Grow
import Derived.Laws.Rows
namespace Go.Proofs.YtjadfpcipicckaaGreat.Qu
open Go.RowKit Go.Proofs.YtjadfpcipicckaaGreat.Fld
set_option linter.unusedVariables false

/-- the group behind a change, and the error -/
def chG (vs ls : List Int) (kind x : Int) : List Int × List Int × Int :=
  if grpOk vs ls = true ∧ 1 ≤ kind ∧ kind ≤ 3 ∧ 1 ≤ x ∧ x ≤ 15 then
    if kind = 1 then (if (hasI vs x || hasI ls x) = true then ([], [], 7) else (remN vs x, insN ls x, 0))
    else if kind = 2 then (if hasI ls x = true then (insN vs x, remN ls x, 0) else ([], [], 7))
    else (if (!hasI vs x && !hasI ls x || hasI vs x && decide (vs.length = 1)) = true then ([], [], 7) else (remN vs x, remN ls x, 0))
  else ([], [], 1)
theorem chG_bad {vs ls : List Int} {kind x : Int} (h : ¬ (grpOk vs ls = true ∧ 1 ≤ kind ∧ kind ≤ 3 ∧ 1 ≤ x ∧ x ≤ 15)) : chG vs ls kind x = ([], [], 1) := by unfold chG; rw [if_neg h]
theorem chG_1 {vs ls : List Int} {x : Int} (h : grpOk vs ls = true) (h1 : 1 ≤ x) (h2 : x ≤ 15) : chG vs ls 1 x = (if (hasI vs x || hasI ls x) = true then ([], [], 7) else (remN vs x, insN ls x, 0)) := by unfold chG; rw [if_pos ⟨h, by omega, by omega, h1, h2⟩, if_pos rfl]
theorem chG_2 {vs ls : List Int} {x : Int} (h : grpOk vs ls = true) (h1 : 1 ≤ x) (h2 : x ≤ 15) : chG vs ls 2 x = (if hasI ls x = true then (insN vs x, remN ls x, 0) else ([], [], 7)) := by unfold chG; rw [if_pos ⟨h, by omega, by omega, h1, h2⟩, if_neg (by omega), if_pos rfl]
theorem chG_3 {vs ls : List Int} {x : Int} (h : grpOk vs ls = true) (h1 : 1 ≤ x) (h2 : x ≤ 15) : chG vs ls 3 x = (if (!hasI vs x && !hasI ls x || hasI vs x && decide (vs.length = 1)) = true then ([], [], 7) else (remN vs x, remN ls x, 0)) := by unfold chG; rw [if_pos ⟨h, by omega, by omega, h1, h2⟩, if_neg (by omega), if_neg (by omega)]
def ChIs (w : World) (r : List Int × List Int × Int) (e : Ending) (w' : World) : Prop := ∃ VA vc LA lc, e = .returned (.tuple #[.agg #[.slice VA r.1.length vc, .slice LA r.2.1.length lc], .int .i64 r.2.2]) ∧ RdI w' VA r.1.length r.1 ∧ RdI w' LA r.2.1.length r.2.1 ∧ Below w.heap.size w w'
theorem two_set {W : World} {R : Nat} {x0 x1 : Value} {ty : TypeId} (h : Blk W R #[x0, x1] ty) (v0 v1 : Value) : Blk ((W.setCell ⟨R, 0, none⟩ v0).setCell ⟨R, 1, none⟩ v1) R #[v0, v1] ty := by
  have := (h.set 0 v0 (by simp)).set 1 v1 (by simp)
  simpa using this
theorem below_set {w W : World} (h : Below w.heap.size w W) (p : Addr) (hp : w.heap.size ≤ p.block) (v : Value) : Below w.heap.size w (W.setCell p v) :=
  ⟨h.os, h.tape, h.output, by simpa [World.setCell] using h.size, fun k hk => by
    rw [Below.heap_setCell _ _ _ _ (by omega)]
    exact h.block k hk⟩
theorem RdI.far {W : World} {A : Option Addr} {n : Nat} {l : List Int} (h : RdI W A n l) {R : Nat} {cs : Array Value} {ty : TypeId} (hb : Blk W R cs ty) (i : Nat) (hi : ∀ c, cs[i]? ≠ some (.int .i64 c)) (v : Value) : RdI (W.setCell ⟨R, i, none⟩ v) A n l := by
  obtain ⟨h1, h2, h3⟩ := h
  refine ⟨h1, h2, fun hn => ?_⟩
  obtain ⟨b, off, rfl, hc⟩ := h3 hn
  refine ⟨b, off, rfl, fun j hj => ?_⟩
  have hne : (⟨b, off + j, none⟩ : Addr) ≠ ⟨R, i, none⟩ := by
    intro he
    have := hc j hj
    rw [he, cell_of_row W R i _ _ (0, 0) hb] at this
    exact hi _ this
  rw [World.cell?_setCell_other W _ _ _ (Ne.symm hne)]
  exact hc j hj
theorem far_two {W : World} {A : Option Addr} {n : Nat} {l : List Int} (h : RdI W A n l) {R : Nat} {A0 A1 : Option Addr} {n0 n1 c0 c1 : Nat} {ty : TypeId} (hb : Blk W R #[.slice A0 n0 c0, .slice A1 n1 c1] ty) (B0 B1 : Option Addr) (m0 m1 d0 d1 : Nat) : RdI ((W.setCell ⟨R, 0, none⟩ (.slice B0 m0 d0)).setCell ⟨R, 1, none⟩ (.slice B1 m1 d1)) A n l := by
  have k1 : Blk (W.setCell ⟨R, 0, none⟩ (.slice B0 m0 d0)) R #[.slice B0 m0 d0, .slice A1 n1 c1] ty := by
    have := hb.set 0 (.slice B0 m0 d0) (by simp)
    simpa using this
  exact (h.far hb 0 (by intro c h; cases h) _).far k1 1 (by intro c h; cases h) _
/-- a slice of numbers, with what its room is -/
def Sln (w : World) (A : Option Addr) (n cap : Nat) (l : List Int) : Prop := RdI w A n l ∧ (A = none → cap = 0) ∧ n ≤ cap ∧ cap ≤ maxLen
theorem Sln.below {w w' : World} {A : Option Addr} {n cap : Nat} {l : List Int} (h : Sln w A n cap l) (hb : Below w.heap.size w w') : Sln w' A n cap l := ⟨h.1.below hb, h.2⟩
theorem OwnI.sln {w0 w : World} {v : Value} {l : List Int} (h : OwnI w0 w v l) (hk : l.length ≤ 1000000) : ∃ A cap, v = .slice A l.length cap ∧ Sln w A l.length cap l := by
  obtain ⟨A, cap, e, h1, h2, h3, h4, _⟩ := h.form hk
  exact ⟨A, cap, e, h1, h2, h3, h4⟩
theorem Sln.set2 {W : World} {A : Option Addr} {n cap : Nat} {l : List Int} (h : Sln W A n cap l) {R : Nat} {A0 A1 : Option Addr} {n0 n1 c0 c1 : Nat} {ty : TypeId} (hb : Blk W R #[.slice A0 n0 c0, .slice A1 n1 c1] ty) (B0 B1 : Option Addr) (m0 m1 d0 d1 : Nat) : Sln ((W.setCell ⟨R, 0, none⟩ (.slice B0 m0 d0)).setCell ⟨R, 1, none⟩ (.slice B1 m1 d1)) A n cap l := ⟨far_two h.1 hb B0 B1 m0 m1 d0 d1, h.2⟩
theorem meet5 {w2 W : World} {H n1 n2 : Nat} {A1 A2 : Option Addr} {d1 d2 : Nat} {l1 l2 : List Int} {ty : TypeId} (hk : Blk W H #[.slice none 0 0, .slice none 0 0] ty) (h1 : Sln W A1 n1 d1 l1) (h2 : Sln W A2 n2 d2 l2) (hb : Below w2.heap.size w2 W) (hH : w2.heap.size ≤ H) :
    ∃ H' A1' d1' A2' d2', (Value.pointer (some ⟨H, 0, none⟩)) = .pointer (some ⟨H', 0, none⟩) ∧ Blk ((W.setCell ⟨H, 0, none⟩ (.slice A1 n1 d1)).setCell ⟨H, 1, none⟩ (.slice A2 n2 d2)) H' #[.slice A1' n1 d1', .slice A2' n2 d2'] ty ∧ Sln ((W.setCell ⟨H, 0, none⟩ (.slice A1 n1 d1)).setCell ⟨H, 1, none⟩ (.slice A2 n2 d2)) A1' n1 d1' l1 ∧ Sln ((W.setCell ⟨H, 0, none⟩ (.slice A1 n1 d1)).setCell ⟨H, 1, none⟩ (.slice A2 n2 d2)) A2' n2 d2' l2 ∧ Below w2.heap.size w2 ((W.setCell ⟨H, 0, none⟩ (.slice A1 n1 d1)).setCell ⟨H, 1, none⟩ (.slice A2 n2 d2)) ∧ w2.heap.size ≤ H' :=
  ⟨H, A1, d1, A2, d2, rfl, two_set hk _ _, h1.set2 hk _ _ _ _ _ _, h2.set2 hk _ _ _ _ _ _, below_set (below_set hb _ hH _) _ hH _, hH⟩
theorem ch_end {w W : World} {R : Nat} {ty : TypeId} (hk : Blk W R #[.slice none 0 0, .slice none 0 0] ty) (hb : Below w.heap.size w W) (hR : w.heap.size ≤ R) {A1 A2 : Option Addr} {n1 n2 d1 d2 : Nat} {l1 l2 : List Int} (h1 : RdI W A1 n1 l1) (h2 : RdI W A2 n2 l2) (er : Int) {r : List Int × List Int × Int} (hr : r = (l1, l2, er)) :
    ChIs w r (.returned (.tuple #[.agg #[.slice A1 n1 d1, .slice A2 n2 d2], .int .i64 er])) ((W.setCell ⟨R, 0, none⟩ (.slice A1 n1 d1)).setCell ⟨R, 1, none⟩ (.slice A2 n2 d2)) := by
  subst hr
  have e1 := h1.1
  have e2 := h2.1
  subst e1 e2
  exact ⟨A1, d1, A2, d2, rfl, far_two h1 hk _ _ _ _ _ _, far_two h2 hk _ _ _ _ _ _, below_set (below_set hb _ hR _) _ hR _⟩
theorem ch_end1 {w W : World} {R H : Nat} {ty : TypeId} (hk : Blk W R #[.slice none 0 0, .slice none 0 0] ty) (hb : Below w.heap.size w W) (hR : w.heap.size ≤ R) {B1 B2 : Option Addr} {m1 m2 b1 b2 : Nat} (hh : Blk W H #[.slice B1 m1 b1, .slice B2 m2 b2] ty) (hne : H ≠ R) (hH : w.heap.size ≤ H) (i : Nat) (hi : i < 2) (s : Value) {A1 A2 : Option Addr} {n1 n2 d1 d2 : Nat} {l1 l2 : List Int} (h1 : RdI W A1 n1 l1) (h2 : RdI W A2 n2 l2) (er : Int) {r : List Int × List Int × Int} (hr : r = (l1, l2, er)) :
    ChIs w r (.returned (.tuple #[.agg #[.slice A1 n1 d1, .slice A2 n2 d2], .int .i64 er])) (((W.setCell ⟨H, i, none⟩ s).setCell ⟨R, 0, none⟩ (.slice A1 n1 d1)).setCell ⟨R, 1, none⟩ (.slice A2 n2 d2)) :=
  have hx : ∀ c, (#[Value.slice B1 m1 b1, Value.slice B2 m2 b2])[i]? ≠ some (.int .i64 c) := by
    intro c h
    have : i = 0 ∨ i = 1 := by omega
    rcases this with rfl | rfl <;> cases h
  ch_end (hk.far _ hne s) (below_set hb _ hH _) hR (h1.far hh i hx s) (h2.far hh i hx s) er hr
theorem keep2 {W : World} {H : Nat} {p : Addr} {v0 v1 x : Value} (h : W.cell? p = some x) (hne : p.block ≠ H) : ((W.setCell ⟨H, 0, none⟩ v0).setCell ⟨H, 1, none⟩ v1).cell? p = some x := by
  have e0 : (⟨H, 0, none⟩ : Addr) ≠ p := by rintro rfl; exact hne rfl
  have e1 : (⟨H, 1, none⟩ : Addr) ≠ p := by rintro rfl; exact hne rfl
  rw [World.cell?_setCell_other _ _ _ _ e1, World.cell?_setCell_other _ _ _ _ e0]
  exact h
theorem results_two {P : Program} {fn : Func} {p u : Tmp} {ty : TypeId} (h : fn.results = #[.cell p ty, .tmp u]) (tmps : Array Value) (w : World) (g : Nat) (t : TypeId) (cs : Array Value) (fr : Nat × Nat) (d : TypeDesc)
    (hp : tmps.getD p undef = .pointer (some ⟨g, 0, none⟩)) (hg : w.heap[g]? = some (.cells cs t fr))
    (hu : P.underlying ty = some d) (hd : (match d with | .struct _ | .array _ _ => true | _ => false) = true) (hi : (P.info? ty).map (·.size) = some cs.size) :
    (results fn tmps).run P w = .ok (.tuple #[.agg cs, tmps.getD u undef]) w := by
  rw [results_cell_tmp h, hp]
  simp [asAddr, run_loadVar_row w g t ty cs fr d hg hu hd hi, Result.andThen]
theorem ok_len {vs ls : List Int} (h : grpOk vs ls = true) : vs.length ≤ 15 ∧ ls.length ≤ 15 := by
  obtain ⟨_, h1, h2, _⟩ := (grpOk_iff vs ls).1 h
  have a := upN_len vs 0 h1 (by omega)
  have b := upN_len ls 0 h2 (by omega)
  omega
theorem ins_rem {l : List Int} {x : Int} (h : hasI l x = false) : insN (remN l x) x = insN l x := by rw [remN_none l x ((has_not l x).1 h)]
theorem remN_pair {l : List Int} {x : Int} (h : upN 0 l = true) : (remN l x).Pairwise (· < ·) := ((upN_iff _ 0).1 (remN_up l x h)).2
end Go.Proofs.YtjadfpcipicckaaGreat.Qu

namespace Go.Proofs.YtjadfpcipicckaaGreat.Qu
open Go.RowKit Go.Proofs.YtjadfpcipicckaaGreat.Fld
set_option linter.unusedVariables false

/-- what stands at node v -/
def atOf (ps : List Int) (v : Int) : Int := ps.getD v.toNat 0
def midG (vs ls ps : List Int) : Int := if grpOk vs ls = true then midOf (vs.map (atOf ps)) (need vs) else 0
def arrC (ps : List Int) : Array Value := (vI ps).toArray
theorem arrC_size (ps : List Int) : (arrC ps).size = ps.length := by simp [arrC, vI]
theorem arrC_at (ps : List Int) (i : Nat) (h : i < ps.length) : (arrC ps)[i]? = some (.int .i64 (ps.getD i 0)) := by
  unfold arrC
  rw [List.getElem?_toArray]
  exact vI_at ps i h
theorem arrC_no (ps : List Int) (i : Nat) (A : Option Addr) (n c : Nat) : (arrC ps)[i]? ≠ some (.slice A n c) := by
  intro h
  unfold arrC at h
  rw [List.getElem?_toArray] at h
  unfold vI at h
  rw [List.getElem?_map] at h
  cases hq : ps[i]? with
  | none => rw [hq] at h; cases h
  | some q => rw [hq] at h; cases h
/-- the values so far, and noughts behind -/
def vals (ys : List Int) : List Int := ys ++ List.replicate (15 - ys.length) 0
theorem vals_len (ys : List Int) (h : ys.length ≤ 15) : (vals ys).length = 15 := by simp [vals]; omega
theorem vals_set (ys : List Int) (y : Int) (h : ys.length < 15) : (arrC (vals ys)).setIfInBounds ys.length (.int .i64 y) = arrC (vals (ys ++ [y])) := by
  apply Array.ext_getElem?
  intro i
  rw [Array.getElem?_setIfInBounds]
  have hl := vals_len ys (by omega)
  have hl2 := vals_len (ys ++ [y]) (by simp; omega)
  by_cases hi : ys.length = i
  · subst hi
    rw [if_pos rfl, if_pos (by rw [arrC_size, hl]; exact h), arrC_at _ _ (by rw [hl2]; exact h)]
    congr 2
    unfold vals
    rw [List.getD_eq_getElem?_getD, List.getElem?_append_left (by simp)]
    simp
  · rw [if_neg hi]
    by_cases h15 : i < 15
    · rw [arrC_at _ _ (by rw [hl]; exact h15), arrC_at _ _ (by rw [hl2]; exact h15)]
      congr 2
      unfold vals
      rw [List.getD_eq_getElem?_getD, List.getD_eq_getElem?_getD]
      by_cases hlt : i < ys.length
      · rw [List.getElem?_append_left hlt, List.getElem?_append_left (by simp; omega), List.getElem?_append_left hlt]
      · rw [List.getElem?_append_right (by omega), List.getElem?_append_right (by simp; omega)]
        rw [List.getElem?_replicate, List.getElem?_replicate]
        simp only [List.length_append, List.length_cons, List.length_nil]
        rw [if_pos (by omega), if_pos (by omega)]
    · rw [Array.getElem?_eq_none (by rw [arrC_size, hl]; omega), Array.getElem?_eq_none (by rw [arrC_size, hl2]; omega)]
theorem vals_at (ys : List Int) (i : Nat) (h : i < ys.length) (h15 : ys.length ≤ 15) : (arrC (vals ys))[i]? = some (.int .i64 (ys.getD i 0)) := by
  rw [arrC_at _ _ (by rw [vals_len ys h15]; omega)]
  congr 2
  unfold vals
  rw [List.getD_eq_getElem?_getD, List.getD_eq_getElem?_getD, List.getElem?_append_left h]
theorem vals_holds {w : World} {V : Nat} {ys : List Int} {ty : TypeId} (h : Blk w V (arrC (vals ys)) ty) (h15 : ys.length ≤ 15) : Sort.Holds (Value.int .i64) w V 0 ys.toArray := by
  intro j hj
  have hj' : j < ys.length := by simpa using hj
  rw [Nat.zero_add]
  refine ⟨?_, h.free j⟩
  rw [h.cell j _ (vals_at ys j hj' h15)]
  congr 2
  rw [List.getD_eq_getElem?_getD, List.getElem?_eq_getElem hj', getElem!_pos _ j hj]
  simp
theorem sorted_world {w0 w w' : World} {V : Nat} {ys : List Int} {ty : TypeId} {m : Nat} {os : Array Obj} (hb : Below w0.heap.size w0 w) (hV : w0.heap.size ≤ V) (hk : Blk w V (arrC (vals ys)) ty) (h15 : ys.length ≤ 15)
    (h : w' = Sort.grow (Sort.putRow (Value.int .i64) (Sort.ahead w m) V 0 (srt ys).toArray) os) :
    Below w0.heap.size w0 w' ∧ (∀ k, k < w.heap.size → k ≠ V → w'.heap[k]? = w.heap[k]?) ∧ ∀ j, j < ys.length → w'.cell? ⟨V, j, none⟩ = some (.int .i64 ((srt ys).getD j 0)) := by
  have hlt := hk.lt
  have hoth : ∀ k, k < w.heap.size → k ≠ V → w'.heap[k]? = w.heap[k]? := by
    intro k hkl hne
    rw [h, Sort.heap_grow_old _ _ (by rw [Sort.size_putRow]; exact hkl)]
    unfold Sort.putRow Sort.mapBlock
    simp [Array.getElem?_modify, Ne.symm hne]
  refine ⟨⟨by rw [h]; exact hb.os, by rw [h]; exact hb.tape, by rw [h]; exact hb.output, ?_, fun k hkl => ?_⟩, hoth, fun j hj => ?_⟩
  · rw [h, Sort.size_grow, Sort.size_putRow]
    have := hb.size
    show w0.heap.size ≤ w.heap.size + os.size
    omega
  · rw [hoth k (Nat.lt_of_lt_of_le hkl hb.size) (by omega)]
    exact hb.block k hkl
  · rw [h, Sort.cell?_grow _ _ _ (by rw [Sort.size_putRow]; exact hlt)]
    have hh := vals_holds hk h15
    have := Sort.cell?_putRow (Value.int .i64) (Sort.ahead w m) V 0 ys.toArray (srt ys).toArray hh (by simp [srt_len]) j (by simp [srt_len]; exact hj)
    rw [Nat.zero_add] at this
    rw [this]
    congr 2
    rw [List.getD_eq_getElem?_getD, List.getElem?_eq_getElem (by rw [srt_len]; exact hj), getElem!_pos _ j (by simp [srt_len]; exact hj)]
    simp
theorem node_nat {vs ls : List Int} (h : grpOk vs ls = true) (k : Nat) (hk : k < vs.length) : ∃ m : Nat, vs.getD k 0 = (m : Int) ∧ 1 ≤ m ∧ m ≤ 15 := by
  obtain ⟨_, h1, _, _⟩ := (grpOk_iff vs ls).1 h
  obtain ⟨ha, _⟩ := (upN_iff vs 0).1 h1
  have := ha (vs.getD k 0) (by rw [List.getD_eq_getElem?_getD, List.getElem?_eq_getElem hk]; exact List.getElem_mem hk)
  exact ⟨(vs.getD k 0).toNat, by omega, by omega, by omega⟩
theorem map_take (vs : List Int) (f : Int → Int) (k : Nat) (h : k < vs.length) : (vs.map f).take (k + 1) = (vs.map f).take k ++ [f (vs.getD k 0)] := by
  rw [take_succ _ k (by simpa using h)]
  congr 2
  simp [List.getD_eq_getElem?_getD, List.getElem?_eq_getElem h]
end Go.Proofs.YtjadfpcipicckaaGreat.Qu
