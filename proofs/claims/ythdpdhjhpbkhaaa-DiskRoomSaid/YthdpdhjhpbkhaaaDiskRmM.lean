/-
  What DiskRoom holds of a disk: the plain mathematics. Conditions: as each theorem states.
-/
import Derived.Test.YthdpdhjhpbkhaaaDiskLasM
namespace Go.Proofs.Ythdpdhjhpbkhaaa.Dk
open Go.RowKit Go.Proofs.Ythdpdhjhpbkhaaa.Fld
set_option linter.unusedVariables false

theorem doing_room (ok : Bool) (t : St) (f : St → Int × St) (hf : ∀ t, (f t).2.room = t.room) : (doing ok t f).2.room = t.room := by
  unfold doing
  split
  · split
    · rw [hf, (chg_same t).1]
    · exact (chg_same t).1
  · rfl
theorem app_room (x : Nm) (b : List Int) (t : St) : (stAppend x b t).2.room = t.room := doing_room _ _ _ fun t => by unfold app1; split <;> rfl
theorem stDo_room (a : Acc) (t : St) : (stDo a t).room = t.room := by
  unfold stDo
  split
  · exact app_room _ _ _
  split
  · exact doing_room _ _ _ fun t => by unfold sync1; split <;> rfl
  split
  · refine doing_room _ _ _ fun t => ?_
    unfold ren1
    split
    · split <;> rfl
    · rfl
  split
  · exact doing_room _ _ _ fun t => by unfold unl1; split <;> rfl
  split
  · unfold stFail; split <;> rfl
  split
  · unfold stArm; split <;> rfl
  split
  · rfl
  · rfl
theorem app_flen (x : Nm) (b : List Int) (t : St) : (stAppend x b t).2.fs.length ≤ t.fs.length + 1 := by
  refine doing_len _ _ _ fun t => ?_
  unfold app1
  split
  · simp
  · simp only
    split <;> exact fput_len _ _
theorem read_same {t u : St} (x : Nm) (ho : u.off = t.off) (hf : u.fs = t.fs) : stRead x u = stRead x t := by unfold stRead; rw [ho, hf]
theorem chg_off {t : St} (h : (chg t).1 ≠ 5) : (chg t).2.off = t.off ∧ t.off = false := by
  unfold chg at h ⊢
  cases ho : t.off with
  | true => rw [ho] at h; simp at h
  | false =>
    rw [ho] at h
    simp only [Bool.false_eq_true, if_false] at h ⊢
    split at h
    · simp at h
    · rename_i h1
      rw [if_neg h1]
      split
      · exact ⟨rfl, trivial⟩
      · exact ⟨rfl, trivial⟩
def AppCase (x : Nm) (b : List Int) (t : St) : Prop :=
  ((stAppend x b t).1 = 0 ∧ stRead x (stAppend x b t).2 = (0, (stRead x t).2 ++ b) ∧ total (stAppend x b t).2.fs = total t.fs + b.length) ∨
  (stAppend x b t).1 = 5 ∨
  ((stAppend x b t).1 ≠ 0 ∧ (stAppend x b t).1 ≠ 5 ∧ stRead x (stAppend x b t).2 = stRead x t ∧ total (stAppend x b t).2.fs = total t.fs)
theorem app_case (x : Nm) (b : List Int) {t : St} (hG : Good t) : AppCase x b t := by
  unfold AppCase
  cases hx : okN x with
  | false =>
    rw [app_bad x b t hx]
    exact .inr (.inr ⟨show (1 : Int) ≠ 0 by decide, show (1 : Int) ≠ 5 by decide, rfl, rfl⟩)
  | true =>
    by_cases hc : (chg t).1 = 0
    · have h0 := chg_off (t := t) (by omega)
      have hs := (chg_same t).2
      have hr := (chg_same t).1
      have he : stAppend x b t = app1 x b (chg t).2 := by unfold stAppend doing; rw [hx, if_pos rfl, if_pos hc]
      rw [he]
      unfold app1
      split
      · exact .inr (.inr ⟨show (3 : Int) ≠ 0 by decide, show (3 : Int) ≠ 5 by decide, read_same x h0.1 hs, by rw [hs]⟩)
      · refine .inl ⟨rfl, ?_, ?_⟩
        · rw [show stRead x t = (match fget x t.fs with | some f => ((0 : Int), f.2.1) | none => (2, [])) by unfold stRead; rw [h0.2, hx]; rfl]
          have hup := hG.up
          unfold stRead
          simp only
          rw [h0.1, h0.2, hx, hs]
          simp only [Bool.false_eq_true, if_false, if_true]
          cases hg : fget x t.fs with
          | some f => simp only; rw [fgetPut (f := (x, f.2.1 ++ b, f.2.2)) hup]
          | none => simp only; rw [fgetPut (f := (x, b, 0)) hup]; rfl
        · have := total_app hG x b
          rw [← hs] at this ⊢
          exact this
    · have he : stAppend x b t = chg t := by unfold stAppend doing; rw [hx, if_pos rfl, if_neg hc]
      rw [he]
      by_cases h5 : (chg t).1 = 5
      · exact .inr (.inl h5)
      · exact .inr (.inr ⟨hc, h5, read_same x (chg_off h5).1 (chg_same t).2, by rw [(chg_same t).2]⟩)
end Go.Proofs.Ythdpdhjhpbkhaaa.Dk
