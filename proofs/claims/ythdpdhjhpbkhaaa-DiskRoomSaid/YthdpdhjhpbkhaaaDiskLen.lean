/-
  How many files an act may add: one. No condition.
-/
import Derived.Test.YthdpdhjhpbkhaaaDiskAll
namespace Go.Proofs.Ythdpdhjhpbkhaaa.Dk
open Go.RowKit Go.Proofs.Ythdpdhjhpbkhaaa.Fld
set_option linter.unusedVariables false

theorem fput_len (f : Fil) (fs : List Fil) : (fput f fs).length ≤ fs.length + 1 := by
  have h1 : (fput f fs).length = (fdel f.1 fs).length + 1 := by
    have := (ins_perm (key := Prod.fst) f (fdel f.1 fs)).length_eq
    rw [List.length_cons] at this
    exact this
  have h2 := fdel_len fs f.1
  omega
theorem fput_len_in {f : Fil} {fs : List Fil} (h : Up Prod.fst fs) {x : Fil} (hg : fget f.1 fs = some x) : (fput f fs).length = fs.length := by
  have h1 : (fput f fs).length = (fdel f.1 fs).length + 1 := by
    have := (ins_perm (key := Prod.fst) f (fdel f.1 fs)).length_eq
    rw [List.length_cons] at this
    exact this
  obtain ⟨h2, h3⟩ := get_some hg
  have h4 := (perm_at h h2).length_eq
  rw [List.length_cons, h3] at h4
  have h5 : (fdel f.1 fs).length = (del Prod.fst f.1 fs).length := rfl
  omega
theorem doing_len (ok : Bool) (t : St) (f : St → Int × St) (hf : ∀ t, (f t).2.fs.length ≤ t.fs.length + 1) : (doing ok t f).2.fs.length ≤ t.fs.length + 1 := by
  unfold doing
  split
  · split
    · have := hf (chg t).2
      rw [(chg_same t).2] at this
      exact this
    · rw [(chg_same t).2]; omega
  · simp
theorem stDo_len (a : Acc) (t : St) : (stDo a t).fs.length ≤ t.fs.length + 1 := by
  unfold stDo
  split
  · refine doing_len _ _ _ fun t => ?_
    unfold app1
    split
    · simp
    · simp only
      split
      · exact fput_len _ _
      · exact fput_len _ _
  split
  · refine doing_len _ _ _ fun t => ?_
    unfold sync1
    split
    · exact fput_len _ _
    · simp
  split
  · refine doing_len _ _ _ fun t => ?_
    unfold ren1
    split
    · split
      · simp
      · simp only
        refine Nat.le_trans (fdel_len _ _) (Nat.le_trans (fput_len _ _) ?_)
        have := fdel_len t.fs a.to.data.toList
        omega
    · simp
  split
  · refine doing_len _ _ _ fun t => ?_
    unfold unl1
    split
    · simp only
      have := fdel_len t.fs a.nm.data.toList
      omega
    · simp
  split
  · unfold stFail; split <;> simp
  split
  · unfold stArm; split <;> simp
  split
  · unfold stCrash; simp only; rw [crashTo_len]; omega
  · omega
end Go.Proofs.Ythdpdhjhpbkhaaa.Dk
