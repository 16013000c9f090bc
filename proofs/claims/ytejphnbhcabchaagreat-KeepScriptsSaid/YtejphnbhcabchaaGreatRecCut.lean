/-
  That the law RecordCut answers true and leaves all memory that was there as it was. Conditions: the list can be read.
-/
import Derived.Test.YtejphnbhcabchaaGreatRecFirstL
namespace Go.Proofs.YtejphnbhcabchaaGreat.Rc
open Go.RowKit
open Fld (Bytes val Rd RdL)
set_option linter.unusedVariables false

/-- records cut off anywhere -/
theorem cut_sc (ls : List (List Int)) (hs : Small ls) (j a : Nat) (hj : j ≤ ls.length) (h1 : (recs (ls.take j)).length ≤ a) (h2 : j < ls.length → a < endOf ls j) (h3 : a ≤ (recs ls).length) : Sc ((recs ls).take a) (ls.take j) := by
  have hsp := recs_split ls j
  have ht : (recs ls).take a = recs (ls.take j) ++ (recs (ls.drop j)).take (a - (recs (ls.take j)).length) := by
    rw [hsp, List.take_append, List.take_of_length_le h1]
  rw [ht]
  refine Sc.of (small_take hs j) ?_
  rcases Nat.lt_or_ge j ls.length with hlt | hge
  · have h4 := h2 hlt
    have ht4 : (ls.getD j []).length ≤ 65536 := hs _ (by rw [List.getD_eq_getElem?_getD, List.getElem?_eq_getElem hlt]; simp)
    unfold endOf at h4
    rw [recs_take ls j hlt, List.length_append] at h4
    have e0 : a - (recs (ls.take j)).length - (recd (ls.getD j [])).length = 0 := by omega
    rw [recs_drop ls j hlt, List.take_append, e0, List.take_zero, List.append_nil]
    exact first_cut _ _ ht4 (by omega)
  · rw [List.drop_of_length_le hge]
    exact first_none (fun h => by have := h.1; simp [recs] at this)
theorem ints_rd {w : World} {base k : Nat} {u : Value} {ls : List (List Int)} (h : w.ownsRow base 3 1 u k (endsV ls k)) : ∃ A c, u = .slice A k c ∧ (0 < k → ∃ g, A = some ⟨g, 0, none⟩ ∧ ∀ i, i < k → w.cell? ⟨g, i, none⟩ = some (.int .i64 ((endOf ls i : Nat) : Int))) := by
  obtain ⟨h1, h2⟩ := h
  rcases h2 with ⟨rfl, h0⟩ | ⟨g, cap, cur, rfl, hg, hh, hnc, hcm, hcs, hcu⟩
  · exact ⟨none, 0, by rw [h0], fun h => by omega⟩
  · refine ⟨_, cap, rfl, fun _ => ⟨g, rfl, fun i hi => ?_⟩⟩
    have h3 : (cur.toList.take (k * 1))[i]? = (endsV ls k)[i]? := by rw [hcu]
    rw [List.getElem?_take, if_pos (by omega), Array.getElem?_toList] at h3
    rw [cell_of_row w g i cur _ (0, 0) hh, h3]
    simp [endsV, hi]
def CutR (ls : List (List Int)) (M a : Nat) (k s : Value) : Prop := ∃ j : Nat, j ≤ M ∧ k = .int .i64 (j : Int) ∧ s = .int .i64 (((recs (ls.take j)).length : Nat) : Int) ∧ (recs (ls.take j)).length ≤ a
end Go.Proofs.YtejphnbhcabchaaGreat.Rc
