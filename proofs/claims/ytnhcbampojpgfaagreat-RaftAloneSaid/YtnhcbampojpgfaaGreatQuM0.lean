/-
  Layer 9: what Middle is, arrays of numbers in memory, the world behind a sort. Conditions: as each theorem states.
-/
import Derived.Test.YtnhcbampojpgfaaGreatQuF0
import Derived.Sort.Grow
import Derived.Laws.Rows
namespace Go.Proofs.YtnhcbampojpgfaaGreat.Qu
open Go.RowKit Go.Proofs.YtnhcbampojpgfaaGreat.Fld
set_option linter.unusedVariables false

/-- what stands at node v -/
def atOf (ps : List Int) (v : Int) : Int := ps.getD v.toNat 0
def midG (vs ls ps : List Int) : Int := if grpOk vs ls = true then midOf (vs.map (atOf ps)) (need vs) else 0
def arrC (ps : List Int) : Array Value := (vI ps).toArray
theorem arrC_size (ps : List Int) : (arrC ps).size = ps.length := by simp [arrC, vI]
theorem arrC_at (ps : List Int) (i : Nat) (h : i < ps.length) : (arrC ps)[i]? = some (.int .i64 (ps.getD i 0)) := by
  unfold arrC
  rw [List.getElem?_toArray]
  exact vI_at ps i h
theorem arrC_no (ps : List Int) (i : Nat) (A : Option Addr) (n c : Nat) : (arrC ps)[i]? ≠ some (.slice A n c) := by
  intro h
  unfold arrC at h
  rw [List.getElem?_toArray] at h
  unfold vI at h
  rw [List.getElem?_map] at h
  cases hq : ps[i]? with
  | none => rw [hq] at h; cases h
  | some q => rw [hq] at h; cases h
/-- the values so far, and noughts behind -/
def vals (ys : List Int) : List Int := ys ++ List.replicate (15 - ys.length) 0
theorem vals_len (ys : List Int) (h : ys.length ≤ 15) : (vals ys).length = 15 := by simp [vals]; omega
theorem vals_set (ys : List Int) (y : Int) (h : ys.length < 15) : (arrC (vals ys)).setIfInBounds ys.length (.int .i64 y) = arrC (vals (ys ++ [y])) := by
  apply Array.ext_getElem?
  intro i
  rw [Array.getElem?_setIfInBounds]
  have hl := vals_len ys (by omega)
  have hl2 := vals_len (ys ++ [y]) (by simp; omega)
  by_cases hi : ys.length = i
  · subst hi
    rw [if_pos rfl, if_pos (by rw [arrC_size, hl]; exact h), arrC_at _ _ (by rw [hl2]; exact h)]
    congr 2
    unfold vals
    rw [List.getD_eq_getElem?_getD, List.getElem?_append_left (by simp)]
    simp
  · rw [if_neg hi]
    by_cases h15 : i < 15
    · rw [arrC_at _ _ (by rw [hl]; exact h15), arrC_at _ _ (by rw [hl2]; exact h15)]
      congr 2
      unfold vals
      rw [List.getD_eq_getElem?_getD, List.getD_eq_getElem?_getD]
      by_cases hlt : i < ys.length
      · rw [List.getElem?_append_left hlt, List.getElem?_append_left (by simp; omega), List.getElem?_append_left hlt]
      · rw [List.getElem?_append_right (by omega), List.getElem?_append_right (by simp; omega)]
        rw [List.getElem?_replicate, List.getElem?_replicate]
        simp only [List.length_append, List.length_cons, List.length_nil]
        rw [if_pos (by omega), if_pos (by omega)]
    · rw [Array.getElem?_eq_none (by rw [arrC_size, hl]; omega), Array.getElem?_eq_none (by rw [arrC_size, hl2]; omega)]
theorem vals_at (ys : List Int) (i : Nat) (h : i < ys.length) (h15 : ys.length ≤ 15) : (arrC (vals ys))[i]? = some (.int .i64 (ys.getD i 0)) := by
  rw [arrC_at _ _ (by rw [vals_len ys h15]; omega)]
  congr 2
  unfold vals
  rw [List.getD_eq_getElem?_getD, List.getD_eq_getElem?_getD, List.getElem?_append_left h]
theorem vals_holds {w : World} {V : Nat} {ys : List Int} {ty : TypeId} (h : Blk w V (arrC (vals ys)) ty) (h15 : ys.length ≤ 15) : Sort.Holds (Value.int .i64) w V 0 ys.toArray := by
  intro j hj
  have hj' : j < ys.length := by simpa using hj
  rw [Nat.zero_add]
  refine ⟨?_, h.free j⟩
  rw [h.cell j _ (vals_at ys j hj' h15)]
  congr 2
  rw [List.getD_eq_getElem?_getD, List.getElem?_eq_getElem hj', getElem!_pos _ j hj]
  simp
theorem sorted_world {w0 w w' : World} {V : Nat} {ys : List Int} {ty : TypeId} {m : Nat} {os : Array Obj} (hb : Below w0.heap.size w0 w) (hV : w0.heap.size ≤ V) (hk : Blk w V (arrC (vals ys)) ty) (h15 : ys.length ≤ 15)
    (h : w' = Sort.grow (Sort.putRow (Value.int .i64) (Sort.ahead w m) V 0 (srt ys).toArray) os) :
    Below w0.heap.size w0 w' ∧ (∀ k, k < w.heap.size → k ≠ V → w'.heap[k]? = w.heap[k]?) ∧ ∀ j, j < ys.length → w'.cell? ⟨V, j, none⟩ = some (.int .i64 ((srt ys).getD j 0)) := by
  have hlt := hk.lt
  have hoth : ∀ k, k < w.heap.size → k ≠ V → w'.heap[k]? = w.heap[k]? := by
    intro k hkl hne
    rw [h, Sort.heap_grow_old _ _ (by rw [Sort.size_putRow]; exact hkl)]
    unfold Sort.putRow Sort.mapBlock
    simp [Array.getElem?_modify, Ne.symm hne]
  refine ⟨⟨by rw [h]; exact hb.os, by rw [h]; exact hb.tape, by rw [h]; exact hb.output, ?_, fun k hkl => ?_⟩, hoth, fun j hj => ?_⟩
  · rw [h, Sort.size_grow, Sort.size_putRow]
    have := hb.size
    show w0.heap.size ≤ w.heap.size + os.size
    omega
  · rw [hoth k (Nat.lt_of_lt_of_le hkl hb.size) (by omega)]
    exact hb.block k hkl
  · rw [h, Sort.cell?_grow _ _ _ (by rw [Sort.size_putRow]; exact hlt)]
    have hh := vals_holds hk h15
    have := Sort.cell?_putRow (Value.int .i64) (Sort.ahead w m) V 0 ys.toArray (srt ys).toArray hh (by simp [srt_len]) j (by simp [srt_len]; exact hj)
    rw [Nat.zero_add] at this
    rw [this]
    congr 2
    rw [List.getD_eq_getElem?_getD, List.getElem?_eq_getElem (by rw [srt_len]; exact hj), getElem!_pos _ j (by simp [srt_len]; exact hj)]
    simp
theorem node_nat {vs ls : List Int} (h : grpOk vs ls = true) (k : Nat) (hk : k < vs.length) : ∃ m : Nat, vs.getD k 0 = (m : Int) ∧ 1 ≤ m ∧ m ≤ 15 := by
  obtain ⟨_, h1, _, _⟩ := (grpOk_iff vs ls).1 h
  obtain ⟨ha, _⟩ := (upN_iff vs 0).1 h1
  have := ha (vs.getD k 0) (by rw [List.getD_eq_getElem?_getD, List.getElem?_eq_getElem hk]; exact List.getElem_mem hk)
  exact ⟨(vs.getD k 0).toNat, by omega, by omega, by omega⟩
theorem map_take (vs : List Int) (f : Int → Int) (k : Nat) (h : k < vs.length) : (vs.map f).take (k + 1) = (vs.map f).take k ++ [f (vs.getD k 0)] := by
  rw [take_succ _ k (by simpa using h)]
  congr 2
  simp [List.getD_eq_getElem?_getD, List.getElem?_eq_getElem h]
end Go.Proofs.YtnhcbampojpgfaaGreat.Qu
