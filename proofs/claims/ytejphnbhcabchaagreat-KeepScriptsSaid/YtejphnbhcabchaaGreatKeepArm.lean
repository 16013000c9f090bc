/-
  Layer 7, mathematics: what writing a file whole leaves of a disk whose power may go at any change: the file as it was, or as it was to be. No condition but those that each theorem states.
-/
import Derived.Test.YtejphnbhcabchaaGreatKeepCalm
namespace Go.Proofs.YtejphnbhcabchaaGreat.Kp
open Go.Proofs.YtejphnbhcabchaaGreat.Dk Go.Proofs.YtejphnbhcabchaaGreat.Fld
set_option linter.unusedVariables false

structure On (t : St) : Prop where
  off : t.off = false
  fail : t.fail = none
theorem good_same {t u : St} (h : Dk.Good t) (hf : u.fs = t.fs) (hr : u.room = t.room) : Dk.Good u :=
  ⟨by rw [hr]; exact h.1, by rw [hr]; exact h.2, by rw [hr, hf]; exact h.3, by rw [hf]; exact h.4, by rw [hf]; exact h.5, by rw [hf]; exact h.6, by rw [hf]; exact h.7⟩
theorem chg_on {t : St} (h : On t) : (∃ u, chg t = (5, u) ∧ u.off = true ∧ u.fs = t.fs ∧ u.room = t.room) ∨ (∃ u, chg t = (0, u) ∧ On u ∧ u.fs = t.fs ∧ u.room = t.room) := by
  obtain ⟨room, fs, off, fail, arm⟩ := t
  obtain ⟨h1, h2⟩ := h
  simp only at h1 h2
  subst h1 h2
  rcases arm with _ | _ | k
  · exact .inr ⟨⟨room, fs, false, none, none⟩, rfl, ⟨rfl, rfl⟩, rfl, rfl⟩
  · exact .inl ⟨⟨room, fs, true, none, none⟩, rfl, rfl, rfl, rfl⟩
  · exact .inr ⟨⟨room, fs, false, none, some k⟩, rfl, ⟨rfl, rfl⟩, rfl, rfl⟩
theorem do_on {ok : Bool} {t : St} (f : St → Int × St) (hok : ok = true) (h : On t) :
    (∃ u, doing ok t f = (5, u) ∧ u.off = true ∧ u.fs = t.fs ∧ u.room = t.room) ∨ (∃ u, doing ok t f = f u ∧ On u ∧ u.fs = t.fs ∧ u.room = t.room) := by
  unfold doing
  rw [if_pos hok]
  rcases chg_on h with ⟨u, e, h1, h2, h3⟩ | ⟨u, e, h1, h2, h3⟩
  · rw [e]
    exact .inl ⟨u, rfl, h1, h2, h3⟩
  · rw [e]
    exact .inr ⟨u, rfl, h1, h2, h3⟩
theorem do_off {ok : Bool} {t : St} (f : St → Int × St) (hok : ok = true) (h : t.off = true) : doing ok t f = (5, t) := by
  unfold doing
  have e : chg t = (5, t) := by unfold chg; rw [if_pos h]
  rw [if_pos hok, e]
  rfl
/-- what becomes of a file that is being written -/
structure Torn (x : Nm) (z b : List Int) (t : St) (e : Int) (t' : St) : Prop where
  room : t'.room = t.room
  tot : total t'.fs ≤ total t.fs + b.length
  oth : ∀ y, y ≠ x → y ≠ x ++ newE → fget y t'.fs = fget y t.fs
  how : (e = 0 ∧ On t' ∧ fget x t'.fs = some (x, b, b.length)) ∨ (e = 5 ∧ t'.off = true ∧ fget x t'.fs = some (x, z, z.length))
theorem wr3_arm {t : St} {x : Nm} {z b : List Int} (hG : Dk.Good t) (hC : On t) (hx : okN x = true) (hx' : okN (x ++ newE) = true) (hn : fget (x ++ newE) t.fs = none) (hz : fget x t.fs = some (x, z, z.length)) (hb : ∀ c ∈ b, 0 ≤ c ∧ c ≤ 255) (hr : total t.fs + b.length ≤ t.room) : ∃ e t', wr3 x b t = (e, t') ∧ Torn x z b t e t' := by
  have hne := ne_new x
  unfold wr3
  rcases do_on (app1 (x ++ newE) b) hx' hC with ⟨u, e1, h1, h2, h3⟩ | ⟨u, e1, h1, h2, h3⟩
  · have e1' : stAppend (x ++ newE) b t = (5, u) := e1
    rw [e1', thn_no _ (show ¬ (5 : Int) = 0 by decide)]
    exact ⟨5, u, rfl, ⟨h3, by rw [h2]; omega, fun y _ _ => by rw [h2], .inr ⟨rfl, h1, by rw [h2]; exact hz⟩⟩⟩
  · have hGu := good_same hG h2 h3
    have hnu : fget (x ++ newE) u.fs = none := by rw [h2]; exact hn
    have ea : appFs (x ++ newE) b u.fs = fput (x ++ newE, b, 0) u.fs := by unfold appFs; rw [hnu]
    have e1' : stAppend (x ++ newE) b t = (0, { u with fs := fput (x ++ newE, b, 0) u.fs }) := by
      unfold stAppend
      rw [e1]
      unfold app1
      rw [if_neg (by rw [h3, h2]; omega), hnu]
    rw [e1', thn_ok _ rfl]
    simp only
    have hG1 := hGu.app (x ++ newE) b hx' hb (by rw [h3, h2]; exact hr)
    have ht1 := total_app hGu (x ++ newE) b
    rw [ea] at hG1 ht1
    have hg1 : fget (x ++ newE) (fput (x ++ newE, b, 0) u.fs) = some (x ++ newE, b, 0) := fget_put_eq (f := (x ++ newE, b, 0)) hGu.up
    have o1 : ∀ y, y ≠ x ++ newE → fget y (fput (x ++ newE, b, 0) u.fs) = fget y t.fs := fun y hy => by rw [fget_put_ne hy, h2]
    rcases do_on (sync1 (x ++ newE)) hx' (⟨h1.1, h1.2⟩ : On { u with fs := fput (x ++ newE, b, 0) u.fs }) with ⟨v, e2, k1, k2, k3⟩ | ⟨v, e2, k1, k2, k3⟩
    · have e2' : stSync (x ++ newE) { u with fs := fput (x ++ newE, b, 0) u.fs } = (5, v) := e2
      rw [e2', thn_no _ (show ¬ (5 : Int) = 0 by decide)]
      refine ⟨5, v, rfl, ⟨k3.trans h3, ?_, fun y _ hy => ?_, .inr ⟨rfl, k1, ?_⟩⟩⟩
      · rw [k2, ht1, h2]; exact Nat.le_refl _
      · rw [k2]; exact o1 y hy
      · rw [k2]; exact (o1 x hne).trans hz
    · have hGv := good_same hG1 k2 k3
      have hgv : fget (x ++ newE) v.fs = some (x ++ newE, b, 0) := by rw [k2]; exact hg1
      have e2' : stSync (x ++ newE) { u with fs := fput (x ++ newE, b, 0) u.fs } = (0, { v with fs := fput (x ++ newE, b, b.length) v.fs }) := by
        unfold stSync
        rw [e2]
        unfold sync1
        rw [hgv]
      rw [e2', thn_ok _ rfl]
      simp only
      have hG2 := hGv.sync hgv
      have ht2 := total_sync hGv hgv b.length
      simp only at hG2 ht2
      have hg2 : fget (x ++ newE) (fput (x ++ newE, b, b.length) v.fs) = some (x ++ newE, b, b.length) := fget_put_eq (f := (x ++ newE, b, b.length)) hGv.up
      have htv : total v.fs = total t.fs + b.length := by rw [k2]; simp only; rw [ht1, h2]
      have o2 : ∀ y, y ≠ x ++ newE → fget y (fput (x ++ newE, b, b.length) v.fs) = fget y t.fs := fun y hy => by rw [fget_put_ne hy, k2]; exact o1 y hy
      rcases do_on (ren1 (x ++ newE) x) (by rw [hx, hx']; rfl : (okN (x ++ newE) && okN x) = true) (⟨k1.1, k1.2⟩ : On { v with fs := fput (x ++ newE, b, b.length) v.fs }) with ⟨s, e3, l1, l2, l3⟩ | ⟨s, e3, l1, l2, l3⟩
      · have e3' : stRename (x ++ newE) x { v with fs := fput (x ++ newE, b, b.length) v.fs } = (5, s) := e3
        rw [e3']
        refine ⟨5, s, rfl, ⟨(l3.trans k3).trans h3, ?_, fun y _ hy => ?_, .inr ⟨rfl, l1, ?_⟩⟩⟩
        · rw [l2]; simp only; rw [ht2, htv]; exact Nat.le_refl _
        · rw [l2]; exact o2 y hy
        · rw [l2]; exact (o2 x hne).trans hz
      · have hGs := good_same hG2 l2 l3
        have hgs : fget (x ++ newE) s.fs = some (x ++ newE, b, b.length) := by rw [l2]; exact hg2
        have e3' : stRename (x ++ newE) x { v with fs := fput (x ++ newE, b, b.length) v.fs } = (0, { s with fs := fdel (x ++ newE) (fput (x, b, b.length) (fdel x s.fs)) }) := by
          unfold stRename
          rw [e3]
          unfold ren1
          rw [hgs]
          simp only
          rw [if_neg (Ne.symm hne)]
        have ht3 := total_ren hGs hgs (Ne.symm hne)
        have hts : total s.fs = total t.fs + b.length := by rw [l2]; simp only; rw [ht2, htv]
        rw [e3']
        refine ⟨0, _, rfl, ⟨(l3.trans k3).trans h3, ?_, fun y h5 hy => ?_, .inl ⟨rfl, ⟨l1.1, l1.2⟩, ?_⟩⟩⟩
        · simp only at ht3 ⊢
          rw [ht3]
          have := total_del_le s.fs x
          omega
        · simp only
          rw [fget_del_ne hy, fget_put_ne h5, fget_del_ne h5, l2]
          exact o2 y hy
        · simp only
          rw [fget_del_ne hne]
          exact fget_put_eq (f := (x, b, b.length)) (hGs.up.del x)
theorem write_arm {t : St} {x : Nm} {z b : List Int} (hG : Dk.Good t) (hC : On t) (hx : okN x = true) (hx' : okN (x ++ newE) = true) (hz : fget x t.fs = some (x, z, z.length)) (hb : ∀ c ∈ b, 0 ≤ c ∧ c ≤ 255) (hr : total t.fs + b.length ≤ t.room) : ∃ e t', stWrite x b t = (e, t') ∧ Torn x z b t e t' := by
  unfold stWrite
  have hne := ne_new x
  cases hg : fget (x ++ newE) t.fs with
  | none =>
    simp only [Option.isSome_none, Bool.false_eq_true, if_false]
    exact wr3_arm hG hC hx hx' hg hz hb hr
  | some f =>
    simp only [Option.isSome_some, if_true]
    rcases do_on (unl1 (x ++ newE)) hx' hC with ⟨u, e1, h1, h2, h3⟩ | ⟨u, e1, h1, h2, h3⟩
    · have e1' : stUnlink (x ++ newE) t = (5, u) := e1
      rw [e1', thn_no _ (show ¬ (5 : Int) = 0 by decide)]
      exact ⟨5, u, rfl, ⟨h3, by rw [h2]; omega, fun y _ _ => by rw [h2], .inr ⟨rfl, h1, by rw [h2]; exact hz⟩⟩⟩
    · have hgu : fget (x ++ newE) u.fs = some f := by rw [h2]; exact hg
      have e1' : stUnlink (x ++ newE) t = (0, { u with fs := fdel (x ++ newE) u.fs }) := by
        unfold stUnlink
        rw [e1]
        unfold unl1
        rw [hgu]
      rw [e1', thn_ok _ rfl]
      have hle := total_del_le u.fs (x ++ newE)
      rw [h2] at hle
      obtain ⟨e, t', e2, hT⟩ := wr3_arm (z := z) ((good_same hG h2 h3).del (x ++ newE)) (⟨h1.1, h1.2⟩ : On { u with fs := fdel (x ++ newE) u.fs }) hx hx' fget_del_eq (by simp only; rw [fget_del_ne hne, h2]; exact hz) hb (by simp only; rw [h2, h3]; omega)
      refine ⟨e, t', e2, ⟨hT.room.trans h3, ?_, fun y h5 h6 => ?_, hT.how⟩⟩
      · have := hT.tot
        simp only at this
        rw [h2] at this
        omega
      · rw [hT.oth y h5 h6]
        simp only
        rw [fget_del_ne h6, h2]
/-- with the power off nothing is written -/
theorem write_off {t : St} {x : Nm} {b : List Int} (h : t.off = true) (hx' : okN (x ++ newE) = true) : stWrite x b t = (5, t) := by
  unfold stWrite
  have e1 : stUnlink (x ++ newE) t = (5, t) := do_off _ hx' h
  have e2 : stAppend (x ++ newE) b t = (5, t) := do_off _ hx' h
  split
  · rw [e1, thn_no _ (show ¬ (5 : Int) = 0 by decide)]
  · unfold wr3
    rw [e2, thn_no _ (show ¬ (5 : Int) = 0 by decide)]
end Go.Proofs.YtejphnbhcabchaaGreat.Kp
