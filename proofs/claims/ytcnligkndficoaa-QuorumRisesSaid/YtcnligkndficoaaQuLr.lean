/-
  Layer 9, greater numbers, in arrays of sixteen. Conditions: the lists can be read.
-/
import Derived.Test.YtcnligkndficoaaQuL5
import Derived.Deep.RegionHeld3
import Derived.Deep.RegionWith
namespace Go.Proofs.Ytcnligkndficoaa.Qu
open Go.RowKit Go.Proofs.Ytcnligkndficoaa.Fld
set_option linter.unusedVariables false

/-- numbers so far, and noughts up to sixteen -/
def fil (ys : List Int) : List Int := ys ++ List.replicate (16 - ys.length) 0
theorem fil_len (ys : List Int) (h : ys.length ≤ 16) : (fil ys).length = 16 := by simp [fil]; omega
theorem fil_all (ys : List Int) (h : ys.length = 16) : fil ys = ys := by simp [fil, h]
theorem fil_set (ys : List Int) (y : Int) (h : ys.length < 16) : (arrC (fil ys)).setIfInBounds ys.length (.int .i64 y) = arrC (fil (ys ++ [y])) := by
  apply Array.ext_getElem?
  intro i
  rw [Array.getElem?_setIfInBounds]
  have hl := fil_len ys (by omega)
  have hl2 := fil_len (ys ++ [y]) (by simp; omega)
  by_cases hi : ys.length = i
  · subst hi
    rw [if_pos rfl, if_pos (by rw [arrC_size, hl]; exact h), arrC_at _ _ (by rw [hl2]; exact h)]
    congr 2
    unfold fil
    rw [List.getD_eq_getElem?_getD, List.getElem?_append_left (by simp)]
    simp
  · rw [if_neg hi]
    by_cases h15 : i < 16
    · rw [arrC_at _ _ (by rw [hl]; exact h15), arrC_at _ _ (by rw [hl2]; exact h15)]
      congr 2
      unfold fil
      rw [List.getD_eq_getElem?_getD, List.getD_eq_getElem?_getD]
      by_cases hlt : i < ys.length
      · rw [List.getElem?_append_left hlt, List.getElem?_append_left (by simp; omega), List.getElem?_append_left hlt]
      · rw [List.getElem?_append_right (by omega), List.getElem?_append_right (by simp; omega)]
        rw [List.getElem?_replicate, List.getElem?_replicate]
        simp only [List.length_append, List.length_cons, List.length_nil]
        rw [if_pos (by omega), if_pos (by omega)]
    · rw [Array.getElem?_eq_none (by rw [arrC_size, hl]; omega), Array.getElem?_eq_none (by rw [arrC_size, hl2]; omega)]
def maxs (ps qs : List Int) : List Int := List.zipWith max ps qs
theorem maxs_len (ps qs : List Int) (h1 : ps.length = 16) (h2 : qs.length = 16) : (maxs ps qs).length = 16 := by simp [maxs, h1, h2]
theorem maxs_at (ps qs : List Int) (h1 : ps.length = 16) (h2 : qs.length = 16) (i : Nat) (hi : i < 16) : (maxs ps qs).getD i 0 = max (ps.getD i 0) (qs.getD i 0) := by
  unfold maxs
  simp [List.getD_eq_getElem?_getD, List.getElem?_zipWith, List.getElem?_eq_getElem (show i < ps.length by omega), List.getElem?_eq_getElem (show i < qs.length by omega)]
theorem rises_math {vs ls ps qs : List Int} (h : grpOk vs ls = true) (h1 : ps.length = 16) (h2 : qs.length = 16) : midG vs ls ps ≤ midG vs ls (maxs ps qs) := by
  unfold midG
  rw [if_pos h, if_pos h]
  obtain ⟨a, b, _, _⟩ := (grpOk_iff vs ls).1 h
  obtain ⟨ha, _⟩ := (upN_iff vs 0).1 b
  have hn : 0 < vs.length := List.length_pos_iff.2 a
  refine mid_rises _ _ vs _ (by unfold need; omega) (by unfold need; omega) (fun v hv => ?_)
  have := ha v hv
  unfold atOf
  rw [maxs_at ps qs h1 h2 v.toNat (by omega)]
  omega
theorem same_math {vs ls : List Int} (h : grpOk vs ls = true) (c : Int) : midG vs ls (List.replicate 16 c) = c := by
  unfold midG
  rw [if_pos h]
  obtain ⟨a, b, _, _⟩ := (grpOk_iff vs ls).1 h
  obtain ⟨ha, _⟩ := (upN_iff vs 0).1 b
  have hn : 0 < vs.length := List.length_pos_iff.2 a
  refine mid_same c _ _ (by unfold need; omega) (by rw [List.length_map]; unfold need; omega) (fun x hx => ?_)
  obtain ⟨v, hv, rfl⟩ := List.mem_map.1 hx
  have := ha v hv
  unfold atOf
  rw [List.getD_eq_getElem?_getD, List.getElem?_replicate, if_pos (by omega)]
  rfl
theorem keep1 {W : World} {p a : Addr} {v x : Value} (h : W.cell? p = some x) (hne : p.block ≠ a.block) : (W.setCell a v).cell? p = some x := by
  rw [World.cell?_setCell_other _ _ _ _ (by rintro rfl; exact hne rfl)]
  exact h
theorem max_run (s k : Int) (W : World) : (Builtin.max_ #[3, 3] 3 #[.int .i64 s, .int .i64 k]).run Try.prog W = .ok (.int .i64 (max s k)) W := by
  simp only [go_sem]
end Go.Proofs.Ytcnligkndficoaa.Qu
