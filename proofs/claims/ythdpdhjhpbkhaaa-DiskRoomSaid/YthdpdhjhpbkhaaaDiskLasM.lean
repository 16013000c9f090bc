/-
  What DiskLasts does to a disk that is calm (on, no failure ahead): the plain mathematics. Conditions: as each theorem states.
-/
import Derived.Test.YthdpdhjhpbkhaaaDiskNames
namespace Go.Proofs.Ythdpdhjhpbkhaaa.Dk
open Go.RowKit Go.Proofs.Ythdpdhjhpbkhaaa.Fld
set_option linter.unusedVariables false

structure Calm (t : St) : Prop where
  off : t.off = false
  fail : t.fail = none
  arm : t.arm = none
theorem chg_calm {t : St} (h : Calm t) : chg t = (0, t) := by
  obtain ⟨room, fs, off, fail, arm⟩ := t
  obtain ⟨h1, h2, h3⟩ := h
  simp only at h1 h2 h3
  subst h1 h2 h3
  simp [chg]
theorem crash_calm (ks : List Int) (t : St) : Calm (stCrash ks t) := ⟨rfl, rfl, rfl⟩
theorem app_calm (x : Nm) (b : List Int) {t : St} (h : Calm t) (hx : okN x = true) : stAppend x b t = if t.room < total t.fs + b.length then (3, t) else (0, { t with fs := appFs x b t.fs }) := by
  unfold stAppend doing
  rw [hx, chg_calm h]
  rfl
theorem fgetPut {f : Fil} {fs : List Fil} (h : Up Prod.fst fs) : fget f.1 (fput f fs) = some f := get_mem (h.put f) (mem_fput.2 (.inl rfl))
theorem fget_app (x : Nm) (b : List Int) {fs : List Fil} (h : Up Prod.fst fs) : ∃ z s, fget x (appFs x b fs) = some (x, z ++ b, s) ∧ ∀ f, fget x fs = some f → z = f.2.1 ∧ s = f.2.2 := by
  unfold appFs
  cases hg : fget x fs with
  | some f => exact ⟨f.2.1, f.2.2, fgetPut (f := (x, f.2.1 ++ b, f.2.2)) h, fun f' h' => by cases h'; exact ⟨rfl, rfl⟩⟩
  | none => exact ⟨[], 0, fgetPut (f := (x, b, 0)) h, fun f' h' => by cases h'⟩
theorem app_len (x : Nm) (b : List Int) (fs : List Fil) : (appFs x b fs).length ≤ fs.length + 1 := by
  unfold appFs
  split <;> exact fput_len _ _
theorem las1 {u : St} (x : Nm) (hG : Good u) (hC : Calm u) (hx : okN x = true) : ∃ u1 z s, stAppend x [] u = (0, u1) ∧ Calm u1 ∧ fget x u1.fs = some (x, z, s) ∧ u1.fs.length ≤ u.fs.length + 1 := by
  obtain ⟨z, s, h1, _⟩ := fget_app x [] hG.up
  have hf := hG.fits
  rw [app_calm x [] hC hx, if_neg (by simp; omega)]
  exact ⟨_, z ++ [], s, rfl, ⟨hC.off, hC.fail, hC.arm⟩, h1, app_len x [] u.fs⟩
theorem las2 {u : St} {x : Nm} {z : List Int} {s : Nat} (hG : Good u) (hC : Calm u) (hx : okN x = true) (hg : fget x u.fs = some (x, z, s)) : ∃ u1, stSync x u = (0, u1) ∧ Calm u1 ∧ fget x u1.fs = some (x, z, z.length) ∧ u1.fs.length ≤ u.fs.length + 1 := by
  refine ⟨{ u with fs := fput (x, z, z.length) u.fs }, ?_, ⟨hC.off, hC.fail, hC.arm⟩, fgetPut (f := (x, z, z.length)) hG.up, fput_len _ _⟩
  unfold stSync doing
  rw [hx, chg_calm hC]
  simp only [if_true]
  unfold sync1
  rw [hg]
theorem las3 {u : St} {x : Nm} {z : List Int} (b : List Int) (hG : Good u) (hC : Calm u) (hx : okN x = true) (hg : fget x u.fs = some (x, z, z.length)) :
    ∃ c u1 q, stAppend x b u = (c, u1) ∧ (c = 0 ∨ c = 3) ∧ Calm u1 ∧ fget x u1.fs = some (x, q, z.length) ∧ z.length ≤ q.length ∧ q.take z.length = z ∧ u1.fs.length ≤ u.fs.length + 1 := by
  rw [app_calm x b hC hx]
  split
  · exact ⟨3, u, z, rfl, .inr rfl, hC, hg, Nat.le_refl _, List.take_length, by omega⟩
  · obtain ⟨z', s, h1, h2⟩ := fget_app x b hG.up
    obtain ⟨h3, h4⟩ := h2 _ hg
    simp only at h3 h4
    subst h3 h4
    exact ⟨0, _, z' ++ b, rfl, .inl rfl, ⟨hC.off, hC.fail, hC.arm⟩, h1, by simp, by simp, app_len x b u.fs⟩
theorem las4 {u : St} {x : Nm} {q : List Int} {n : Nat} (ks : List Int) (hg : fget x u.fs = some (x, q, n)) (hn : n ≤ q.length) (hG : Good (stCrash ks u)) : ∃ E, n ≤ E ∧ E ≤ q.length ∧ fget x (stCrash ks u).fs = some (x, q.take E, E) := by
  obtain ⟨h1, _⟩ := get_some hg
  obtain ⟨j, hj, he⟩ := List.getElem_of_mem h1
  refine ⟨stays (ks.getD j 0) (x, q, n), by unfold stays; simp only; omega, by unfold stays; simp only; omega, ?_⟩
  have hm : crash1 (ks.getD j 0) (x, q, n) ∈ (stCrash ks u).fs := by
    show _ ∈ crashTo u.fs.length ks u.fs
    refine List.mem_iff_getElem.2 ⟨j, by rw [crashTo_len]; exact hj, ?_⟩
    unfold crashTo
    rw [List.getElem_mapIdx, if_pos hj, he]
  exact get_mem hG.up hm
theorem las5 {u : St} {x : Nm} {z : List Int} {s : Nat} (ho : u.off = false) (hx : okN x = true) (hg : fget x u.fs = some (x, z, s)) : stRead x u = (0, z) := by
  unfold stRead
  rw [ho, hx, hg]
  rfl
theorem app_bad (x : Nm) (b : List Int) (t : St) (hx : okN x = false) : stAppend x b t = (1, t) := by
  unfold stAppend doing
  rw [hx]
  rfl
theorem crash_len (ks : List Int) (t : St) : (stCrash ks t).fs.length = t.fs.length := by unfold stCrash; simp only; rw [crashTo_len]
theorem rdi_block {w : World} {A : Option Addr} {n : Nat} {ks : List Int} (h : RdI w A n ks) (hn : 0 < n) (a : Addr) (ha : A = some a) : a.block < w.heap.size := by
  obtain ⟨b, off, e, hc⟩ := h.2.2 hn
  rw [ha] at e
  injection e with e
  subst e
  exact lt_of_cell (hc 0 hn)
end Go.Proofs.Ythdpdhjhpbkhaaa.Dk
