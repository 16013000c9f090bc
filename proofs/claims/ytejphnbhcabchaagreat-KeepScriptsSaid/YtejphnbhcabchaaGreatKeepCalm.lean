/-
  Layer 7, mathematics: what writing a file whole leaves of a disk that is on and has no fault ahead. No condition but those that each theorem states.
-/
import Derived.Test.YtejphnbhcabchaaGreatKeepOne
namespace Go.Proofs.YtejphnbhcabchaaGreat.Kp
open Go.Proofs.YtejphnbhcabchaaGreat.Dk Go.Proofs.YtejphnbhcabchaaGreat.Fld
set_option linter.unusedVariables false

theorem find_ins {p : Fil → Bool} (e : Fil) (he : p e = false) : ∀ l : List Fil, (Dk.ins Prod.fst e l).find? p = l.find? p
  | [] => by simp [Dk.ins, he]
  | a :: r => by
    unfold Dk.ins
    split
    · rw [List.find?_cons, he]
    · rw [List.find?_cons, List.find?_cons, find_ins e he r]
theorem fget_del_ne {fs : List Fil} {x y : Nm} (h : y ≠ x) : fget y (fdel x fs) = fget y fs := by
  unfold fget fdel Dk.get Dk.del
  rw [List.find?_filter]
  congr 1
  funext a
  cases hb : (a.1 == y) with
  | false => simp
  | true =>
    have : a.1 = y := by simpa using hb
    simp [this, h]
theorem fget_del_eq {fs : List Fil} {x : Nm} : fget x (fdel x fs) = none := by
  unfold fget fdel Dk.get Dk.del
  rw [List.find?_filter, List.find?_eq_none]
  intro a _
  simp
theorem fget_put_ne {fs : List Fil} {f : Fil} {y : Nm} (h : y ≠ f.1) : fget y (fput f fs) = fget y fs := by
  unfold fput Dk.put
  show (Dk.ins Prod.fst f (fdel f.1 fs)).find? _ = _
  rw [find_ins f (by simp; exact fun e => h e.symm)]
  exact fget_del_ne h
theorem fget_put_eq {fs : List Fil} {f : Fil} (h : Up Prod.fst fs) : fget f.1 (fput f fs) = some f := get_mem (h.put f) (mem_fput.2 (.inl rfl))
structure Clm (t : St) : Prop where
  off : t.off = false
  fail : t.fail = none
  arm : t.arm = none
theorem chg_clm {t : St} (h : Clm t) : chg t = (0, t) := by
  obtain ⟨room, fs, off, fail, arm⟩ := t
  obtain ⟨h1, h2, h3⟩ := h
  simp only at h1 h2 h3
  subst h1 h2 h3
  rfl
theorem do_clm {ok : Bool} {t : St} (f : St → Int × St) (hok : ok = true) (h : Clm t) : doing ok t f = f t := by
  unfold doing
  rw [if_pos hok, chg_clm h]
  rfl
/-- what a file is behind its being written, and all others -/
structure Wrote (x : Nm) (b : List Int) (t t' : St) : Prop where
  clm : Clm t'
  room : t'.room = t.room
  it : fget x t'.fs = some (x, b, b.length)
  oth : ∀ y, y ≠ x → y ≠ x ++ newE → fget y t'.fs = fget y t.fs
  tot : total t'.fs ≤ total t.fs + b.length
theorem ne_new (x : Nm) : x ≠ x ++ newE := fun h => by
  have := congrArg List.length h
  simp [newE] at this
theorem wr3_clm {t : St} {x : Nm} {b : List Int} (hG : Dk.Good t) (hC : Clm t) (hx : okN x = true) (hx' : okN (x ++ newE) = true) (hn : fget (x ++ newE) t.fs = none) (hb : ∀ c ∈ b, 0 ≤ c ∧ c ≤ 255) (hr : total t.fs + b.length ≤ t.room) : ∃ t', wr3 x b t = (0, t') ∧ Wrote x b t t' := by
  have e1 : stAppend (x ++ newE) b t = (0, { t with fs := appFs (x ++ newE) b t.fs }) := by
    unfold stAppend
    rw [do_clm _ hx' hC]
    unfold app1
    rw [if_neg (by omega)]
    rfl
  have ea : appFs (x ++ newE) b t.fs = fput (x ++ newE, b, 0) t.fs := by unfold appFs; rw [hn]
  have hG1 := hG.app (x ++ newE) b hx' hb hr
  have ht1 := total_app hG (x ++ newE) b
  rw [ea] at e1 hG1 ht1
  have hg1 : fget (x ++ newE) (fput (x ++ newE, b, 0) t.fs) = some (x ++ newE, b, 0) := fget_put_eq (f := (x ++ newE, b, 0)) hG.up
  have hC1 : Clm { t with fs := fput (x ++ newE, b, 0) t.fs } := ⟨hC.1, hC.2, hC.3⟩
  have e2 : stSync (x ++ newE) { t with fs := fput (x ++ newE, b, 0) t.fs } = (0, { t with fs := fput (x ++ newE, b, b.length) (fput (x ++ newE, b, 0) t.fs) }) := by
    unfold stSync
    rw [do_clm _ hx' hC1]
    unfold sync1
    simp only
    rw [hg1]
  have hG2 := hG1.sync hg1
  have ht2 := total_sync hG1 hg1 b.length
  simp only at hG2 ht2
  have hg2 : fget (x ++ newE) (fput (x ++ newE, b, b.length) (fput (x ++ newE, b, 0) t.fs)) = some (x ++ newE, b, b.length) := fget_put_eq (f := (x ++ newE, b, b.length)) hG1.up
  have hC2 : Clm { t with fs := fput (x ++ newE, b, b.length) (fput (x ++ newE, b, 0) t.fs) } := ⟨hC.1, hC.2, hC.3⟩
  have hne := ne_new x
  have e3 : stRename (x ++ newE) x { t with fs := fput (x ++ newE, b, b.length) (fput (x ++ newE, b, 0) t.fs) } = (0, { t with fs := fdel (x ++ newE) (fput (x, b, b.length) (fdel x (fput (x ++ newE, b, b.length) (fput (x ++ newE, b, 0) t.fs)))) }) := by
    unfold stRename
    rw [do_clm _ (by rw [hx, hx']; rfl) hC2]
    unfold ren1
    simp only
    rw [hg2]
    simp only
    rw [if_neg (Ne.symm hne)]
  have ht3 := total_ren hG2 hg2 (Ne.symm hne)
  refine ⟨{ t with fs := fdel (x ++ newE) (fput (x, b, b.length) (fdel x (fput (x ++ newE, b, b.length) (fput (x ++ newE, b, 0) t.fs)))) }, ?_, ⟨?_, ?_, ?_, ?_, ?_⟩⟩
  · unfold wr3
    rw [e1, thn_ok _ rfl]
    simp only
    rw [e2, thn_ok _ rfl]
    simp only
    exact e3
  · exact ⟨hC.1, hC.2, hC.3⟩
  · rfl
  · simp only
    rw [fget_del_ne hne]
    exact fget_put_eq (f := (x, b, b.length)) (hG2.up.del x)
  · intro y h1 h2
    simp only
    rw [fget_del_ne h2, fget_put_ne h1, fget_del_ne h1, fget_put_ne h2, fget_put_ne h2]
  · simp only at ht3 ⊢
    rw [ht3]
    have := total_del_le (fput (x ++ newE, b, b.length) (fput (x ++ newE, b, 0) t.fs)) x
    omega
theorem write_clm {t : St} {x : Nm} {b : List Int} (hG : Dk.Good t) (hC : Clm t) (hx : okN x = true) (hx' : okN (x ++ newE) = true) (hb : ∀ c ∈ b, 0 ≤ c ∧ c ≤ 255) (hr : total t.fs + b.length ≤ t.room) : ∃ t', stWrite x b t = (0, t') ∧ Wrote x b t t' := by
  unfold stWrite
  cases hg : fget (x ++ newE) t.fs with
  | none =>
    simp only [Option.isSome_none, Bool.false_eq_true, if_false]
    exact wr3_clm hG hC hx hx' hg hb hr
  | some f =>
    simp only [Option.isSome_some, if_true]
    have e1 : stUnlink (x ++ newE) t = (0, { t with fs := fdel (x ++ newE) t.fs }) := by
      unfold stUnlink
      rw [do_clm _ hx' hC]
      unfold unl1
      rw [hg]
    have hle := total_del_le t.fs (x ++ newE)
    obtain ⟨t', e2, hW⟩ := wr3_clm (hG.del (x ++ newE)) (⟨hC.1, hC.2, hC.3⟩ : Clm { t with fs := fdel (x ++ newE) t.fs }) hx hx' fget_del_eq hb (by simp only; omega)
    refine ⟨t', ?_, ⟨hW.clm, hW.room, hW.it, ?_, ?_⟩⟩
    · rw [e1, thn_ok _ rfl]
      exact e2
    · intro y h1 h2
      rw [hW.oth y h1 h2]
      exact fget_del_ne h2
    · have := hW.tot
      simp only at this
      omega
theorem read_clm {t : St} {x : Nm} {b : List Int} {n : Nat} (ho : t.off = false) (hx : okN x = true) (hg : fget x t.fs = some (x, b, n)) : stRead x t = (0, b) := by
  unfold stRead
  rw [ho, hx, hg]
  rfl
theorem single_recd (c : List Int) (h : c.length ≤ 65536) : single (Rc.recd c) = some c := by
  unfold single
  rw [show Rc.first (Rc.recd c) = some c by
    rw [← List.append_nil (Rc.recd c)]
    exact Rc.first_recd _ [] h]
  simp
/-! ### what was made is read -/
theorem rdN_code (n most : Nat) (h : n ≤ most) (hm : most < 18446744073709551616) (r : List Int) : rdN (code n ++ r, false) most = (n, (r, false)) := by
  unfold rdN
  simp only [Bool.false_eq_true, if_false]
  rw [cutNum_code n (by omega)]
  simp only
  rw [if_pos h]
theorem decHard_code (m n : Nat) (hm : m ≤ 1099511627776) (hn : n ≤ 15) : decHard (hardC m n) = (((m : Int), (n : Int)), 0) := by
  have h1 := rdN_code m 1099511627776 hm (by omega) (code n)
  have h2 := rdN_code n 15 hn (by omega) []
  rw [List.append_nil] at h2
  unfold decHard hardC
  simp only
  rw [h1]
  simp only
  rw [h2]
  simp
end Go.Proofs.YtejphnbhcabchaaGreat.Kp
