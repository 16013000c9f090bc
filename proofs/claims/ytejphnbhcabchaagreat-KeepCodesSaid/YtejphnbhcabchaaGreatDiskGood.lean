/-
  What holds of a disk holds of it behind each call: names rise, sizes fit, what is synced is there. No condition but those that each theorem states.
-/
import Derived.Test.YtejphnbhcabchaaGreatDiskMath
namespace Go.Proofs.YtejphnbhcabchaaGreat.Dk

theorem total_cons (f : Fil) (fs : List Fil) : total (f :: fs) = f.2.1.length + total fs := by simp [total]
theorem total_perm {a b : List Fil} (h : a.Perm b) : total a = total b := by
  unfold total
  exact (h.map _).sum_nat
theorem perm_at {α : Type} {key : α → Nm} {l : List α} (h : Up key l) {e : α} (he : e ∈ l) : l.Perm (e :: del key (key e) l) := by
  induction l with
  | nil => simp at he
  | cons y r ih =>
    obtain ⟨h1, h2⟩ := List.pairwise_cons.1 h
    by_cases hy : key y = key e
    · obtain rfl : y = e := h.inj (by simp) he hy
      have : del key (key y) (y :: r) = r := by
        unfold del
        rw [List.filter_cons_of_neg (by simp), List.filter_eq_self]
        intro a ha
        have := before_ne (h1 a ha)
        simp
        exact fun h => this h.symm
      rw [this]
    · have hd : del key (key e) (y :: r) = y :: del key (key e) r := by
        unfold del
        rw [List.filter_cons_of_pos (by simpa using hy)]
      rw [hd]
      rcases List.mem_cons.1 he with rfl | he
      · exact absurd rfl hy
      · exact ((ih h2 he).cons y).trans (List.Perm.swap _ _ _)
theorem total_put (f : Fil) (fs : List Fil) : total (fput f fs) = f.2.1.length + total (fdel f.1 fs) := by
  rw [← total_cons]
  exact total_perm (ins_perm _ _)
theorem total_del {fs : List Fil} (h : Up Prod.fst fs) {x : Nm} {f : Fil} (hg : fget x fs = some f) : total fs = f.2.1.length + total (fdel x fs) := by
  obtain ⟨h1, h2⟩ := get_some hg
  rw [← total_cons]
  have := total_perm (perm_at h h1)
  rw [h2] at this
  exact this
theorem total_del_none {fs : List Fil} {x : Nm} (hg : fget x fs = none) : fdel x fs = fs := del_none hg
theorem total_del_le (fs : List Fil) (x : Nm) : total (fdel x fs) ≤ total fs := by
  unfold fdel del
  induction fs with
  | nil => simp
  | cons y r ih =>
    rw [List.filter_cons]
    split
    · rw [total_cons, total_cons]; omega
    · rw [total_cons]; omega
theorem mem_fput {f a : Fil} {fs : List Fil} : a ∈ fput f fs ↔ a = f ∨ (a ∈ fs ∧ a.1 ≠ f.1) := mem_put
theorem mem_fdel {a : Fil} {x : Nm} {fs : List Fil} : a ∈ fdel x fs ↔ a ∈ fs ∧ a.1 ≠ x := mem_del

theorem Good.chg {t : St} (h : Good t) : Good (chg t).2 := by
  unfold Dk.chg
  split
  · exact h
  · split
    · exact ⟨h.1, h.2, h.3, h.4, h.5, h.6, h.7⟩
    · split
      · exact ⟨h.1, h.2, h.3, h.4, h.5, h.6, h.7⟩
      · exact ⟨h.1, h.2, h.3, h.4, h.5, h.6, h.7⟩
theorem chg_same (t : St) : (Dk.chg t).2.room = t.room ∧ (Dk.chg t).2.fs = t.fs := by
  unfold Dk.chg
  split
  · exact ⟨rfl, rfl⟩
  · split
    · exact ⟨rfl, rfl⟩
    · split <;> exact ⟨rfl, rfl⟩
theorem Good.put {t : St} (h : Good t) (f : Fil) (hn : okN f.1 = true) (hs : f.2.2 ≤ f.2.1.length) (hb : ∀ c ∈ f.2.1, 0 ≤ c ∧ c ≤ 255) (ht : total (fput f t.fs) ≤ t.room) : Good { t with fs := fput f t.fs } := by
  refine ⟨h.1, h.2, ht, h.up.put f, ?_, ?_, ?_⟩
  · intro a ha
    rcases mem_fput.1 ha with rfl | ⟨ha, _⟩
    · exact hn
    · exact h.name a ha
  · intro a ha
    rcases mem_fput.1 ha with rfl | ⟨ha, _⟩
    · exact hs
    · exact h.synced a ha
  · intro a ha
    rcases mem_fput.1 ha with rfl | ⟨ha, _⟩
    · exact hb
    · exact h.byte a ha
theorem Good.del {t : St} (h : Good t) (x : Nm) : Good { t with fs := fdel x t.fs } := by
  refine ⟨h.1, h.2, Nat.le_trans (total_del_le _ _) h.3, h.up.del x, ?_, ?_, ?_⟩
  · intro a ha
    exact h.name a (mem_fdel.1 ha).1
  · intro a ha
    exact h.synced a (mem_fdel.1 ha).1
  · intro a ha
    exact h.byte a (mem_fdel.1 ha).1
/-- the files behind an Append that is made -/
def appFs (x : Nm) (b : List Int) (fs : List Fil) : List Fil := match fget x fs with | some f => fput (x, f.2.1 ++ b, f.2.2) fs | none => fput (x, b, 0) fs
theorem total_app {t : St} (h : Good t) (x : Nm) (b : List Int) : total (appFs x b t.fs) = total t.fs + b.length := by
  unfold appFs
  cases hg : fget x t.fs with
  | none => simp only; rw [total_put, total_del_none hg]; simp only; omega
  | some f =>
    simp only
    rw [total_put, total_del h.up hg]
    simp only [List.length_append]
    omega
theorem Good.app {t : St} (h : Good t) (x : Nm) (b : List Int) (hx : okN x = true) (hb : ∀ c ∈ b, 0 ≤ c ∧ c ≤ 255) (hr : total t.fs + b.length ≤ t.room) : Good { t with fs := appFs x b t.fs } := by
  have ht := total_app h x b
  unfold appFs at ht ⊢
  cases hg : fget x t.fs with
  | none =>
    rw [hg] at ht
    simp only at ht ⊢
    exact h.put (x, b, 0) hx (by simp) hb (by omega)
  | some f =>
    rw [hg] at ht
    simp only at ht ⊢
    obtain ⟨h1, h2⟩ := get_some hg
    refine h.put (x, f.2.1 ++ b, f.2.2) hx ?_ ?_ (by omega)
    · have := h.synced f h1
      simp
      omega
    · intro c hc
      rcases List.mem_append.1 hc with hc | hc
      · exact h.byte f h1 c hc
      · exact hb c hc
theorem Good.sync {t : St} (h : Good t) {x : Nm} {f : Fil} (hg : fget x t.fs = some f) : Good { t with fs := fput (x, f.2.1, f.2.1.length) t.fs } := by
  obtain ⟨h1, h2⟩ := get_some hg
  refine h.put (x, f.2.1, f.2.1.length) (by rw [← h2]; exact h.name f h1) (Nat.le_refl _) (h.byte f h1) ?_
  rw [total_put]
  have := total_del h.up hg
  have := h.3
  simp only
  omega
theorem total_sync {t : St} (h : Good t) {x : Nm} {f : Fil} (hg : fget x t.fs = some f) (k : Nat) : total (fput (x, f.2.1, k) t.fs) = total t.fs := by
  rw [total_put]
  have := total_del h.up hg
  simp only
  omega
/-- the files behind a Rename that is made -/
theorem total_ren {t : St} (h : Good t) {x y : Nm} {f : Fil} (hg : fget x t.fs = some f) (hxy : x ≠ y) : total (fdel x (fput (y, f.2.1, f.2.2) (fdel y t.fs))) = total (fdel y t.fs) := by
  have h1 : fget x (fput (y, f.2.1, f.2.2) (fdel y t.fs)) = some f := by
    have hu : Up Prod.fst (fput (y, f.2.1, f.2.2) (fdel y t.fs)) := (h.up.del y).put _
    obtain ⟨h1, h2⟩ := get_some hg
    have hm : f ∈ fput (y, f.2.1, f.2.2) (fdel y t.fs) := mem_fput.2 (.inr ⟨mem_fdel.2 ⟨h1, by rw [h2]; exact hxy⟩, by rw [h2]; exact hxy⟩)
    have := get_mem hu hm
    rw [h2] at this
    exact this
  have h2 : total (fput (y, f.2.1, f.2.2) (fdel y t.fs)) = f.2.1.length + total (fdel x (fput (y, f.2.1, f.2.2) (fdel y t.fs))) := total_del ((h.up.del y).put (y, f.2.1, f.2.2)) h1
  have h3 := total_put (y, f.2.1, f.2.2) (fdel y t.fs)
  have h4 : fdel y (fdel y t.fs) = fdel y t.fs := by
    unfold fdel del
    rw [List.filter_filter]
    congr 1
    funext a
    simp
  simp only [h4] at h3
  rw [h3] at h2
  omega
theorem Good.ren {t : St} (h : Good t) {x y : Nm} {f : Fil} (hg : fget x t.fs = some f) (hxy : x ≠ y) (hy : okN y = true) : Good { t with fs := fdel x (fput (y, f.2.1, f.2.2) (fdel y t.fs)) } := by
  have ht := total_ren h hg hxy
  have hl := total_del_le t.fs y
  have h3 := h.3
  obtain ⟨h1, h2⟩ := get_some hg
  refine ⟨h.1, h.2, ?_, ((h.up.del y).put _).del x, ?_, ?_, ?_⟩
  · simp only; omega
  · intro a ha
    rcases mem_fput.1 (mem_fdel.1 ha).1 with rfl | ⟨ha, _⟩
    · exact hy
    · exact h.name a (mem_fdel.1 ha).1
  · intro a ha
    rcases mem_fput.1 (mem_fdel.1 ha).1 with rfl | ⟨ha, _⟩
    · exact h.synced f h1
    · exact h.synced a (mem_fdel.1 ha).1
  · intro a ha
    rcases mem_fput.1 (mem_fdel.1 ha).1 with rfl | ⟨ha, _⟩
    · exact h.byte f h1
    · exact h.byte a (mem_fdel.1 ha).1
end Go.Proofs.YtejphnbhcabchaaGreat.Dk
