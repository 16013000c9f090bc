/-
  Several texts in one: The plain mathematics of layer 6: what the parts of a method make of a log's files, and of the logs that a crash may leave. Conditions: as each theorem states. The plain mathematics of layer 6: what Append, Cut, Reset and Sync make of a log's files, and of the logs that a crash may leave. Conditions: as each theorem states. The plain mathematics of layer 6: on a disk that is on, with no failure ahead and room enough, what is appended is put in. Conditions: as each theorem states. The plain mathematics of layer 6: opening a disk that is on, with no failure ahead and room enough. Conditions: as each theorem states. The plain mathematics of layer 6: an empty disk is opened; sizes; what a crash leaves can be opened. Conditions: as each theorem states.
-/
import Derived.Test.YtgmpdifggaggdaaGreatDoorJWalGet
namespace Go.Proofs.YtgmpdifggaggdaaGreatDoor.Wl
open Go.Proofs.YtgmpdifggaggdaaGreatDoor.Fld Go.Proofs.YtgmpdifggaggdaaGreatDoor.Rc
set_option linter.unusedVariables false

theorem scanR_false_ok (num : Nat) : ∀ (ts : List (List Int)) (c : Ct) (l : List Sg) (s : Sg), c.segs = l ++ [s] → (scanR num false c ts).2 = true → (scanR num false c ts).1.segs = l ++ [⟨s.num, s.next, s.size + (recs ts).length⟩]
  | [], c, l, s, h, _ => by rw [scanR]; simp only [recs, List.length_nil, Nat.add_zero]; exact h
  | b :: r, c, l, s, h, ho => by
    cases hq : acc num false c b with
    | none => rw [scanR_none hq] at ho; cases ho
    | some c' =>
      rw [scanR_some hq] at ho ⊢
      have h1 := acc_false hq
      rw [h, addSz_snoc] at h1
      rw [scanR_false_ok num r c' l ⟨s.num, s.next, s.size + (8 + b.length)⟩ h1 ho, recs, List.length_append, recd_len]
      simp only
      rw [Nat.add_assoc]
theorem ctOf_segs {f : Fl} {c0 : Ct} (ok : (scanR f.n true c0 f.rs).2 = true) (ne : f.rs ≠ []) : ∃ i, (ctOf f c0).segs = c0.segs ++ [⟨f.n, i, (recs f.rs).length⟩] := by
  unfold ctOf
  cases hr : f.rs with
  | nil => exact absurd hr ne
  | cons b r =>
    rw [hr] at ok
    cases hq : acc f.n true c0 b with
    | none => rw [scanR_none hq] at ok; cases ok
    | some c' =>
      rw [scanR_some hq] at ok ⊢
      obtain ⟨i, h1⟩ := acc_true hq
      refine ⟨i, ?_⟩
      rw [scanR_false_ok f.n r c' c0.segs ⟨f.n, i, 8 + b.length⟩ h1 ok, recs, List.length_append, recd_len]
theorem lastN_last {c : Ct} {l : List Sg} {s : Sg} (h : c.segs = l ++ [s]) : lastN c = s.num := by unfold lastN; rw [h, List.getLast?_append]; rfl
/-- what a part of a method leaves: files, the logs that a crash may leave, and the content where it was carried out -/
def Res (q : Int × Ct × Dk.St) (P : Lg → Prop) : Prop := ∃ Fs f c0, Dsk Fs f c0 q.2.2.fs ∧ (∀ g, Poss f c0 g → P g) ∧ (q.1 = 0 → q.2.1 = ctOf f c0)
theorem Res.mono {q : Int × Ct × Dk.St} {P Q : Lg → Prop} (h : Res q P) (hp : ∀ g, P g → Q g) : Res q Q := by
  obtain ⟨Fs, f, c0, h1, h2, h3⟩ := h
  exact ⟨Fs, f, c0, h1, fun g hg => hp g (h2 g hg), h3⟩
section
variable {Fs : List Fl} {f : Fl} {c0 : Ct} {t : Dk.St}
theorem res_sync (h : Dsk Fs f c0 t.fs) : (spSync (ctOf f c0) t).2.1 = ctOf f c0 ∧ (((spSync (ctOf f c0) t).1 ≠ 0 ∧ (spSync (ctOf f c0) t).2.2.fs = t.fs) ∨ ((spSync (ctOf f c0) t).1 = 0 ∧ Dsk Fs ⟨f.n, f.rs, (recs f.rs).length⟩ c0 (spSync (ctOf f c0) t).2.2.fs)) := by
  obtain ⟨i, hi⟩ := ctOf_segs h.ok h.ne
  have hl := lastN_last hi
  simp only at hl
  refine ⟨rfl, ?_⟩
  show ((Dk.stSync (segN (lastN (ctOf f c0))) t).1 ≠ 0 ∧ (Dk.stSync (segN (lastN (ctOf f c0))) t).2.fs = t.fs) ∨ _
  rw [hl]
  rcases sync_alt h.get with h1 | ⟨h1, h2⟩
  · exact .inl h1
  · refine .inr ⟨?_, ?_⟩
    · show (Dk.stSync (segN (lastN (ctOf f c0))) t).1 = 0
      rw [hl]; exact h1
    · show Dsk Fs _ c0 (Dk.stSync (segN (lastN (ctOf f c0))) t).2.fs
      rw [hl, h2]
      exact h.synced
/-- a record that may stand there is written -/
theorem res_write (h : Dsk Fs f c0 t.fs) {b : List Int} (hb : b.length ≤ 65536) {c' : Ct} (ha : acc f.n false (ctOf f c0) b = some c') :
    ((spWrite (recd b) (ctOf f c0) t).1 ≠ 0 ∧ (spWrite (recd b) (ctOf f c0) t).2.2.fs = t.fs) ∨ ((spWrite (recd b) (ctOf f c0) t).1 = 0 ∧ (spWrite (recd b) (ctOf f c0) t).2.1 = ⟨(ctOf f c0).lg, addSz (8 + b.length) (ctOf f c0).segs⟩ ∧ Dsk Fs ⟨f.n, f.rs ++ [b], f.s⟩ c0 (spWrite (recd b) (ctOf f c0) t).2.2.fs ∧ ctOf ⟨f.n, f.rs ++ [b], f.s⟩ c0 = c' ∧ ∀ g, Poss ⟨f.n, f.rs ++ [b], f.s⟩ c0 g → Poss f c0 g ∨ g = c'.lg) := by
  obtain ⟨i, hi⟩ := ctOf_segs h.ok h.ne
  have hl := lastN_last hi
  simp only at hl
  have hp := poss_write h.ok h.ne ha
  unfold spWrite
  simp only [hl]
  rcases app_alt f.n (recd b) t with h1 | ⟨h1, h2⟩
  · exact .inl h1
  · refine .inr ⟨h1, ?_, ?_, hp.1, hp.2.2⟩
    · rw [if_pos h1, recd_len]
    · rw [h2]; exact h.write hb ha
/-- a segment more -/
theorem res_create (h : Dsk Fs f c0 t.fs) (hs : f.s = (recs f.rs).length) (hn : f.n < 99999999) (hl : (ctOf f c0).lg.last ≤ MI) : Res (spCreate (f.n + 1) (ctOf f c0) t) (fun g => g = (ctOf f c0).lg) ∧ ((spCreate (f.n + 1) (ctOf f c0) t).1 = 0 → (spCreate (f.n + 1) (ctOf f c0) t).2.1.lg = (ctOf f c0).lg) := by
  obtain ⟨i, hi⟩ := ctOf_segs h.ok h.ne
  have hold : ∀ g, Poss f c0 g → g = (ctOf f c0).lg := by
    have := poss_sync (f := f) (c0 := c0)
    rw [show (⟨f.n, f.rs, (recs f.rs).length⟩ : Fl) = f by rw [← hs]] at this
    exact this
  have hcok : (Ch.head (f.n + 1) ((ctOf f c0).lg.last + 1)).Ok := ⟨by omega, by omega, by omega, by omega⟩
  have hb := head_len (f.n + 1) ((ctOf f c0).lg.last + 1) (by omega) (by unfold MI at hl; omega)
  obtain ⟨b, hbd⟩ : ∃ b, chC (.head (f.n + 1) ((ctOf f c0).lg.last + 1)) = b := ⟨_, rfl⟩
  have hdec := dec_chC _ hcok
  rw [hbd] at hb hdec
  have hbl : b.length ≤ 65536 := by rw [recd_len] at hb; omega
  obtain ⟨c, hc⟩ : ∃ c, ctOf f c0 = c := ⟨_, rfl⟩
  have hsne : c.segs ≠ [] := by rw [← hc, hi]; simp
  have hacc : acc (f.n + 1) true c b = some ⟨c.lg, c.segs ++ [⟨f.n + 1, c.lg.last + 1, 8 + b.length⟩]⟩ := by
    unfold acc
    rw [hdec]
    simp only
    rw [if_pos, if_neg hsne, hc]
    refine ⟨trivial, trivial, ?_⟩
    unfold follows
    rw [hc] at hi
    rw [hi, List.getLast?_append]
    simp [hc]
  have hsp : spCreate (f.n + 1) c t = spRun [spWrite (recd b), spSync] ⟨c.lg, c.segs ++ [⟨f.n + 1, c.lg.last + 1, 0⟩]⟩ t := by
    unfold spCreate
    rw [← hbd, hc]
  rw [hc] at hold ⊢
  rw [hsp]
  have hln : lastN (⟨c.lg, c.segs ++ [⟨f.n + 1, c.lg.last + 1, 0⟩]⟩ : Ct) = f.n + 1 := lastN_last (c := ⟨c.lg, c.segs ++ [⟨f.n + 1, c.lg.last + 1, 0⟩]⟩) (l := c.segs) (s := ⟨f.n + 1, c.lg.last + 1, 0⟩) rfl
  obtain ⟨q1, hq1⟩ : ∃ q1, spWrite (recd b) ⟨c.lg, c.segs ++ [⟨f.n + 1, c.lg.last + 1, 0⟩]⟩ t = q1 := ⟨_, rfl⟩
  have e1 : q1.1 = (Dk.stAppend (segN (f.n + 1)) (recd b) t).1 := by rw [← hq1]; unfold spWrite; simp only [hln]
  have e2 : q1.2.2 = (Dk.stAppend (segN (f.n + 1)) (recd b) t).2 := by rw [← hq1]; unfold spWrite; simp only [hln]
  have e3 : q1.1 = 0 → q1.2.1 = ⟨c.lg, c.segs ++ [⟨f.n + 1, c.lg.last + 1, 8 + b.length⟩]⟩ := by
    intro h0
    have h0' := h0
    rw [← hq1] at h0 ⊢
    unfold spWrite at h0 ⊢
    simp only at h0 ⊢
    rw [if_pos h0, addSz_snoc, recd_len]
    simp only [Nat.zero_add]
  rcases app_alt (f.n + 1) (recd b) t with ⟨h1, h2⟩ | ⟨h1, h2⟩
  · rw [spRun_no (by rw [hq1, e1]; exact h1), hq1]
    refine ⟨⟨Fs, f, c0, by rw [e2, h2]; exact h, hold, fun h0 => absurd (e1 ▸ h0) h1⟩, fun h0 => absurd (e1 ▸ h0) h1⟩
  · have h0 : q1.1 = 0 := e1.trans h1
    rw [spRun_ok (by rw [hq1]; exact h0), hq1, spRun_one, e3 h0]
    have hD := h.more hs (n := f.n + 1) (by omega) (by omega) hbl (by rw [hc]; exact hacc)
    rw [← h2, ← e2] at hD
    have hct : ctOf ⟨f.n + 1, [b], 0⟩ (ctOf f c0) = ⟨c.lg, c.segs ++ [⟨f.n + 1, c.lg.last + 1, 8 + b.length⟩]⟩ := by
      unfold ctOf at hc ⊢
      simp only
      rw [hc, scanR_some hacc, scanR]
    have hy := res_sync (t := q1.2.2) hD
    rw [hct] at hy
    obtain ⟨y1, y2⟩ := hy
    refine ⟨?_, fun _ => by rw [y1]⟩
    rcases y2 with ⟨y2, y3⟩ | ⟨y2, y3⟩
    · exact ⟨_, _, _, by rw [y3]; exact hD, fun g hg => by rw [hc] at hg; exact poss_new hacc rfl g hg, fun h' => absurd h' y2⟩
    · refine ⟨_, _, _, y3, fun g hg => ?_, fun _ => ?_⟩
      · have h4 := poss_sync (f := ⟨f.n + 1, [b], 0⟩) (c0 := ctOf f c0) g hg
        rw [h4, hct]
      · rw [y1, ← hct]
        rfl
end
end Go.Proofs.YtgmpdifggaggdaaGreatDoor.Wl

namespace Go.Proofs.YtgmpdifggaggdaaGreatDoor.Wl
open Go.Proofs.YtgmpdifggaggdaaGreatDoor.Fld Go.Proofs.YtgmpdifggaggdaaGreatDoor.Rc
set_option linter.unusedVariables false

section
variable {Fs : List Fl} {f : Fl} {c0 : Ct} {t : Dk.St}
/-- a record, then what it does to the log -/
theorem res_rec (h : Dsk Fs f c0 t.fs) {b : List Int} (hb : b.length ≤ 65536) (F : Lg → Lg) (ha : acc f.n false (ctOf f c0) b = some ⟨F (ctOf f c0).lg, addSz (8 + b.length) (ctOf f c0).segs⟩) :
    Res (spRun [spWrite (recd b), spLog F] (ctOf f c0) t) (fun g => Poss f c0 g ∨ g = F (ctOf f c0).lg) ∧ ((spRun [spWrite (recd b), spLog F] (ctOf f c0) t).1 = 0 → (spRun [spWrite (recd b), spLog F] (ctOf f c0) t).2.1.lg = F (ctOf f c0).lg) := by
  rcases res_write h hb ha with ⟨h1, h2⟩ | ⟨h1, h2, h3, h4, h5⟩
  · rw [spRun_no h1]
    exact ⟨⟨Fs, f, c0, by rw [h2]; exact h, fun g hg => .inl hg, fun h0 => absurd h0 h1⟩, fun h0 => absurd h0 h1⟩
  · rw [spRun_ok h1, spRun_one, h2]
    exact ⟨⟨_, _, _, h3, h5, fun _ => by rw [h4]; rfl⟩, fun _ => rfl⟩
theorem ctOf_num (h : Dsk Fs f c0 t.fs) : ∃ i, (ctOf f c0).segs.getLast? = some ⟨f.n, i, (recs f.rs).length⟩ := by
  obtain ⟨i, hi⟩ := ctOf_segs h.ok h.ne
  exact ⟨i, by rw [hi, List.getLast?_append]; rfl⟩
theorem res_room (lim : Nat) (h : Dsk Fs f c0 t.fs) (hl : (ctOf f c0).lg.last ≤ MI) : Res (spRoom lim (ctOf f c0) t) (Poss f c0) ∧ ((spRoom lim (ctOf f c0) t).1 = 0 → (spRoom lim (ctOf f c0) t).2.1.lg = (ctOf f c0).lg) := by
  obtain ⟨i, hi⟩ := ctOf_num h
  have hf := h.num f (by simp)
  have HRO : spRoom lim (ctOf f c0) t = if (recs f.rs).length < lim ∨ f.n = 99999999 then (0, ctOf f c0, t) else spRun [spSync, spCreate (f.n + 1)] (ctOf f c0) t := by unfold spRoom; rw [hi]
  rw [HRO]
  split
  · exact ⟨⟨Fs, f, c0, h, fun g hg => hg, fun _ => rfl⟩, fun _ => rfl⟩
  · rename_i hc
    obtain ⟨h0, h1⟩ := res_sync h
    rcases h1 with ⟨h1, h2⟩ | ⟨h1, h2⟩
    · rw [spRun_no h1]
      exact ⟨⟨Fs, f, c0, by rw [h2]; exact h, fun g hg => hg, fun h' => absurd h' h1⟩, fun h' => absurd h' h1⟩
    · rw [spRun_ok h1, spRun_one, h0]
      have := res_create h2 rfl (by show f.n < _; omega) hl
      exact ⟨this.1.mono fun g hg => by rw [hg]; exact Poss.now f c0, this.2⟩
theorem acc_entry_c {n : Nat} {c : Ct} {e : E} (he : e.Ok) (hi : e.idx = c.lg.last + 1) : acc n false c (chC (.entry e)) = some ⟨c.lg.add e, addSz (8 + (chC (.entry e)).length) c.segs⟩ := by
  unfold acc
  rw [dec_chC (.entry e) he]
  simp only
  rw [if_pos ⟨trivial, hi⟩]
theorem chC_entry_len (e : E) (he : e.Ok) : (chC (.entry e)).length ≤ 65536 := by
  have := entry_len e he
  rw [recd_len] at this
  omega
theorem res_add (lim : Nat) (h : Dsk Fs f c0 t.fs) (hl : (ctOf f c0).lg.last ≤ MI) (e : E) (he : e.Ok) (hi : e.idx = (ctOf f c0).lg.last + 1) : Res (spAdd lim e (ctOf f c0) t) (fun g => Poss f c0 g ∨ g = (ctOf f c0).lg.add e) ∧ ((spAdd lim e (ctOf f c0) t).1 = 0 → (spAdd lim e (ctOf f c0) t).2.1.lg = (ctOf f c0).lg.add e) := by
  obtain ⟨⟨Fs1, f1, c1, h1, h2, h3⟩, h4⟩ := res_room lim h hl
  unfold spAdd
  by_cases h0 : (spRoom lim (ctOf f c0) t).1 = 0
  · rw [spRun_ok h0, h3 h0]
    have h5 := h4 h0
    rw [h3 h0] at h5
    have := res_rec h1 (chC_entry_len e he) (fun l => l.add e) (acc_entry_c he (by rw [h5]; exact hi))
    rw [h5] at this
    exact ⟨this.1.mono fun g hg => hg.imp (h2 g) id, this.2⟩
  · rw [spRun_no h0]
    exact ⟨⟨Fs1, f1, c1, h1, fun g hg => .inl (h2 g hg), fun h' => absurd h' h0⟩, fun h' => absurd h' h0⟩
end
theorem res_app (lim : Nat) : ∀ (es : List E) (Fs : List Fl) (f : Fl) (c0 : Ct) (t : Dk.St), Dsk Fs f c0 t.fs → (ctOf f c0).lg.last ≤ MI → (∀ e ∈ es, e.Ok) → Seq (ctOf f c0).lg.last es →
    Res (spApp lim es (ctOf f c0) t) (fun g => Poss f c0 g ∨ ∃ i, i ≤ es.length ∧ g = addAll (ctOf f c0).lg (es.take i)) ∧ ((spApp lim es (ctOf f c0) t).1 = 0 → (spApp lim es (ctOf f c0) t).2.1.lg = addAll (ctOf f c0).lg es)
  | [], Fs, f, c0, t, h, hl, _, _ => ⟨⟨Fs, f, c0, h, fun g hg => .inl hg, fun _ => rfl⟩, fun _ => (addAll_nil _).symm⟩
  | e :: es, Fs, f, c0, t, h, hl, ho, hs => by
    have he := ho e (by simp)
    obtain ⟨⟨Fs1, f1, c1, h1, h2, h3⟩, h4⟩ := res_add lim h hl e he hs.1
    unfold spApp
    rw [List.map_cons]
    by_cases h0 : (spAdd lim e (ctOf f c0) t).1 = 0
    · rw [spRun_ok h0, h3 h0]
      have h5 := h4 h0
      rw [h3 h0] at h5
      have hla : (ctOf f1 c1).lg.last = (ctOf f c0).lg.last + 1 := by rw [h5]; simp [Lg.add, Lg.last]; omega
      have := res_app lim es Fs1 f1 c1 (spAdd lim e (ctOf f c0) t).2.2 h1 (by rw [hla, ← hs.1]; exact he.2.1) (fun x hx => ho x (by simp [hx])) (by rw [hla]; exact hs.2)
      rw [h5] at this
      have hq : ∀ xs, addAll ((ctOf f c0).lg.add e) xs = addAll (ctOf f c0).lg (e :: xs) := fun xs => by simp [addAll, Lg.add]
      refine ⟨this.1.mono fun g hg => ?_, fun h' => (this.2 h').trans (hq es)⟩
      rcases hg with hg | ⟨i, hi, hg⟩
      · rcases h2 g hg with hg | hg
        · exact .inl hg
        · exact .inr ⟨1, by simp, by rw [hg]; simp [addAll, Lg.add]⟩
      · exact .inr ⟨i + 1, by simp; omega, by rw [hg, hq, List.take_succ_cons]⟩
    · rw [spRun_no h0]
      refine ⟨⟨Fs1, f1, c1, h1, fun g hg => ?_, fun h' => absurd h' h0⟩, fun h' => absurd h' h0⟩
      rcases h2 g hg with hg | hg
      · exact .inl hg
      · exact .inr ⟨1, by simp, by rw [hg]; simp [addAll, Lg.add]⟩
section
variable {Fs : List Fl} {f : Fl} {c0 : Ct} {t : Dk.St}
theorem res_cut (h : Dsk Fs f c0 t.fs) (hl : (ctOf f c0).lg.last ≤ MI) (i : Nat) (h1 : 1 ≤ i) (h2 : i ≤ (ctOf f c0).lg.last) : Res (spCut i (ctOf f c0) t) (fun g => Poss f c0 g ∨ g = (ctOf f c0).lg.cut i) ∧ ((spCut i (ctOf f c0) t).1 = 0 → (spCut i (ctOf f c0) t).2.1.lg = (ctOf f c0).lg.cut i) := by
  have hb := cut_len i (by unfold MI at hl; omega)
  rw [recd_len] at hb
  refine res_rec h (by omega) (fun l => l.cut i) ?_
  unfold acc
  rw [dec_chC (.cut i) ⟨h1, by omega⟩]
  simp only
  rw [if_pos trivial]
theorem res_reset (h : Dsk Fs f c0 t.fs) (i : Nat) (h1 : 1 ≤ i) (h2 : i ≤ MI) : Res (spReset i (ctOf f c0) t) (fun g => Poss f c0 g ∨ g = Lg.restart i) ∧ ((spReset i (ctOf f c0) t).1 = 0 → (spReset i (ctOf f c0) t).2.1.lg = Lg.restart i) := by
  have hb := reset_len i (by unfold MI at h2; omega)
  rw [recd_len] at hb
  refine res_rec h (by omega) (fun _ => Lg.restart i) ?_
  unfold acc
  rw [dec_chC (.reset i) ⟨h1, by omega⟩]
  simp only
  rw [if_pos trivial]
theorem res_syn (h : Dsk Fs f c0 t.fs) : Res (spSync (ctOf f c0) t) (Poss f c0) ∧ ((spSync (ctOf f c0) t).1 = 0 → (spSync (ctOf f c0) t).2.1 = ctOf f c0 ∧ Res (spSync (ctOf f c0) t) (fun g => g = (ctOf f c0).lg)) := by
  obtain ⟨h0, h1⟩ := res_sync h
  rcases h1 with ⟨h1, h2⟩ | ⟨h1, h2⟩
  · exact ⟨⟨Fs, f, c0, by rw [h2]; exact h, fun g hg => hg, fun h' => absurd h' h1⟩, fun h' => absurd h' h1⟩
  · have hr : Res (spSync (ctOf f c0) t) (fun g => g = (ctOf f c0).lg) := ⟨_, _, _, h2, poss_sync, fun _ => h0⟩
    exact ⟨hr.mono fun g hg => by rw [hg]; exact Poss.now f c0, fun _ => ⟨h0, hr⟩⟩
end
end Go.Proofs.YtgmpdifggaggdaaGreatDoor.Wl

namespace Go.Proofs.YtgmpdifggaggdaaGreatDoor.Wl
open Go.Proofs.YtgmpdifggaggdaaGreatDoor.Fld Go.Proofs.YtgmpdifggaggdaaGreatDoor.Rc
set_option linter.unusedVariables false

/-- the disk is on, and no failure lies ahead -/
structure Calm (t : Dk.St) : Prop where
  off : t.off = false
  fail : t.fail = none
  arm : t.arm = none
theorem chg_calm {t : Dk.St} (h : Calm t) : Dk.chg t = (0, t) := by
  obtain ⟨room, fs, off, fail, arm⟩ := t
  obtain ⟨h1, h2, h3⟩ := h
  simp only at h1 h2 h3
  subst h1 h2 h3
  simp [Dk.chg]
theorem crash_calm (ks : List Int) (t : Dk.St) : Calm (Dk.stCrash ks t) := ⟨rfl, rfl, rfl⟩
theorem app_calm (x : Dk.Nm) (b : List Int) {t : Dk.St} (h : Calm t) (hx : Dk.okN x = true) : Dk.stAppend x b t = if t.room < Dk.total t.fs + b.length then (3, t) else (0, { t with fs := Dk.appFs x b t.fs }) := by
  unfold Dk.stAppend Dk.doing
  rw [hx, chg_calm h]
  rfl
theorem total_app2 (a b : List Dk.Fil) : Dk.total (a ++ b) = Dk.total a + Dk.total b := by simp [Dk.total]
theorem total_one (x : Dk.Fil) : Dk.total [x] = x.2.1.length := by simp [Dk.total]
section
variable {Fs : List Fl} {f : Fl} {c0 : Ct} {t : Dk.St}
theorem tot_is (h : Dsk Fs f c0 t.fs) : Dk.total t.fs = Dk.total (Fs.map Fl.fil) + (recs f.rs).length := by rw [h.fs, List.map_append, total_app2]; show _ + Dk.total [f.fil] = _; rw [total_one]; rfl
theorem tot_write (h : Dsk Fs f c0 t.fs) (b : List Int) : Dk.total (Dk.appFs (segN f.n) b t.fs) = Dk.total t.fs + b.length := by
  unfold Dk.appFs
  rw [h.get]
  simp only
  have := h.put (recs f.rs ++ b) f.s
  rw [show Dk.fput (segN f.n, f.fil.2.1 ++ b, f.fil.2.2) t.fs = Dk.fput (segN f.n, recs f.rs ++ b, f.s) t.fs from rfl, this, total_app2, total_one, tot_is h, List.length_append]
  omega
theorem tot_sync (h : Dsk Fs f c0 t.fs) (k : Nat) : Dk.total (Dk.fput (segN f.n, recs f.rs, k) t.fs) = Dk.total t.fs := by
  rw [h.put, total_app2, total_one, tot_is h]
theorem app_more (h : Dsk Fs f c0 t.fs) {n : Nat} (hn : f.n < n) (hn2 : n ≤ 99999999) (b : List Int) : Dk.appFs (segN n) b t.fs = t.fs ++ [(segN n, b, 0)] := by
  obtain ⟨h1, h2⟩ := h.fresh hn hn2
  unfold Dk.appFs
  rw [h1]
  simp only
  rw [h2]
/-- the disk is calm, of that room, and holds no more bytes than that -/
structure CR (R T : Nat) (t : Dk.St) : Prop where
  calm : Calm t
  room : t.room = R
  tot : Dk.total t.fs ≤ T
theorem cal_append {R T : Nat} {t : Dk.St} (h : CR R T t) (n : Nat) (b : List Int) (hr : T + b.length ≤ R) : Dk.stAppend (segN n) b t = (0, { t with fs := Dk.appFs (segN n) b t.fs }) := by
  rw [app_calm _ _ h.calm (okN_segN n), if_neg]
  have := h.room
  have := h.tot
  omega
theorem cal_sync {t : Dk.St} (h : Calm t) {n : Nat} {x : Dk.Fil} (hg : Dk.fget (segN n) t.fs = some x) : Dk.stSync (segN n) t = (0, { t with fs := Dk.fput (segN n, x.2.1, x.2.1.length) t.fs }) := by
  unfold Dk.stSync Dk.doing
  rw [okN_segN, chg_calm h]
  simp only [if_true]
  unfold Dk.sync1
  rw [hg]
theorem cr_sync {R T : Nat} (h : Dsk Fs f c0 t.fs) (hc : CR R T t) : (spSync (ctOf f c0) t).1 = 0 ∧ CR R T (spSync (ctOf f c0) t).2.2 := by
  obtain ⟨i, hi⟩ := ctOf_segs h.ok h.ne
  have hl := lastN_last hi
  simp only at hl
  have := cal_sync hc.calm h.get
  unfold spSync spDisk
  simp only [hl]
  rw [this]
  refine ⟨rfl, ⟨⟨hc.calm.off, hc.calm.fail, hc.calm.arm⟩, hc.room, ?_⟩⟩
  show Dk.total (Dk.fput (segN f.n, recs f.rs, (recs f.rs).length) t.fs) ≤ T
  rw [tot_sync h]
  exact hc.tot
theorem cr_write {R T : Nat} (h : Dsk Fs f c0 t.fs) (hc : CR R T t) (b : List Int) (hr : T + b.length ≤ R) : (spWrite b (ctOf f c0) t).1 = 0 ∧ CR R (T + b.length) (spWrite b (ctOf f c0) t).2.2 := by
  obtain ⟨i, hi⟩ := ctOf_segs h.ok h.ne
  have hl := lastN_last hi
  simp only at hl
  have := cal_append hc f.n b hr
  unfold spWrite
  simp only [hl]
  rw [this]
  refine ⟨rfl, ⟨⟨hc.calm.off, hc.calm.fail, hc.calm.arm⟩, hc.room, ?_⟩⟩
  show Dk.total (Dk.appFs (segN f.n) b t.fs) ≤ _
  rw [tot_write h]
  have := hc.tot
  omega
theorem head_le (n i : Nat) (hn : n ≤ 1099511627777) (hi : i ≤ 1099511627777) : (recd (chC (.head n i))).length ≤ 35 := by
  have h := enc_len [0, n, i] (by simp; omega)
  have e : (chC (.head n i)).length = (enc [0, n, i]).length := rfl
  rw [recd_len, e]
  simp only [List.length_cons, List.length_nil] at h
  omega
theorem entry_le (e : E) (he : e.Ok) : (recd (chC (.entry e))).length ≤ 53 + e.data.length := by
  obtain ⟨h1, h2, h3, h4, h5, h6⟩ := he
  unfold MI at h2 h3
  have h := enc_len [1, e.idx, e.term, e.kind] (by simp; omega)
  have h7 := digs_len8 e.data.length (by omega)
  have e8 : (chC (.entry e)).length = (enc [1, e.idx, e.term, e.kind]).length + (textC e.data).length := List.length_append
  rw [recd_len, e8, textC_len]
  simp only [List.length_cons, List.length_nil] at h
  omega
theorem cr_create {R T : Nat} (h : Dsk Fs f c0 t.fs) (hc : CR R T t) (hn : f.n < 99999999) (hl : (ctOf f c0).lg.last ≤ MI) (hr : T + 35 ≤ R) : (spCreate (f.n + 1) (ctOf f c0) t).1 = 0 ∧ CR R (T + 35) (spCreate (f.n + 1) (ctOf f c0) t).2.2 := by
  have hb := head_le (f.n + 1) ((ctOf f c0).lg.last + 1) (by omega) (by unfold MI at hl; omega)
  unfold spCreate
  generalize recd (chC (.head (f.n + 1) ((ctOf f c0).lg.last + 1))) = B at hb ⊢
  obtain ⟨c1, hc1⟩ : ∃ c1 : Ct, (⟨(ctOf f c0).lg, (ctOf f c0).segs ++ [⟨f.n + 1, (ctOf f c0).lg.last + 1, 0⟩]⟩ : Ct) = c1 := ⟨_, rfl⟩
  rw [hc1]
  have hln : lastN c1 = f.n + 1 := by rw [← hc1]; exact lastN_last (c := ⟨_, _⟩) (l := (ctOf f c0).segs) (s := ⟨f.n + 1, (ctOf f c0).lg.last + 1, 0⟩) rfl
  have ha := cal_append hc (f.n + 1) B (by omega)
  have hm := app_more h (n := f.n + 1) (by omega) (by omega) B
  rw [hm] at ha
  have hw : spWrite B c1 t = (0, ⟨c1.lg, addSz B.length c1.segs⟩, { t with fs := t.fs ++ [(segN (f.n + 1), B, 0)] }) := by
    unfold spWrite
    rw [hln, ha]
    rfl
  rw [spRun_ok (by rw [hw]), spRun_one, hw]
  simp only
  have hln2 : lastN ⟨c1.lg, addSz B.length c1.segs⟩ = f.n + 1 := by
    rw [← hc1]
    simp only
    rw [addSz_snoc]
    exact lastN_last (c := ⟨_, _⟩) (l := (ctOf f c0).segs) (s := ⟨f.n + 1, (ctOf f c0).lg.last + 1, 0 + B.length⟩) rfl
  have hg : Dk.fget (segN (f.n + 1)) (t.fs ++ [(segN (f.n + 1), B, 0)]) = some (segN (f.n + 1), B, 0) := by
    have h1 := (h.fresh (n := f.n + 1) (by omega) (by omega)).1
    unfold Dk.fget Dk.get at h1 ⊢
    rw [List.find?_append, h1]
    simp
  obtain ⟨t1, ht1⟩ : ∃ t1 : Dk.St, ({ t with fs := t.fs ++ [(segN (f.n + 1), B, 0)] } : Dk.St) = t1 := ⟨_, rfl⟩
  rw [ht1]
  have hfs : t1.fs = t.fs ++ [(segN (f.n + 1), B, 0)] := by rw [← ht1]
  have hC1 : Calm t1 := by rw [← ht1]; exact ⟨hc.calm.off, hc.calm.fail, hc.calm.arm⟩
  have hs := cal_sync hC1 (n := f.n + 1) (x := (segN (f.n + 1), B, 0)) (by rw [hfs]; exact hg)
  unfold spSync spDisk
  simp only [hln2]
  rw [hs]
  refine ⟨rfl, ⟨hC1.off, hC1.fail, hC1.arm⟩, by show t1.room = R; rw [← ht1]; exact hc.room, ?_⟩
  show Dk.total (Dk.fput (segN (f.n + 1), B, B.length) t1.fs) ≤ _
  have hu : Dk.Up Prod.fst t1.fs := by
    rw [hfs]
    unfold Dk.Up
    refine List.pairwise_append.2 ⟨?_, by simp, fun a ha b hb => ?_⟩
    · have := h.upf; rw [← h.fs] at this; exact this
    · simp at hb
      subst hb
      rw [h.fs] at ha
      obtain ⟨g, hg, rfl⟩ := List.mem_map.1 ha
      refine segN_before ?_ (by omega)
      rcases List.mem_append.1 hg with h3 | h3
      · have := (List.pairwise_append.1 h.up).2.2 g h3 f (by simp); omega
      · simp at h3; subst h3; omega
  have hp := Dk.put_at hu (segN (f.n + 1), B, B.length) t.fs.length (by rw [hfs]; simp) (by simp [hfs])
  unfold Dk.fput
  rw [hp, hfs, List.set_append_right _ _ (Nat.le_refl _), total_app2]
  simp only [Nat.sub_self, List.set_cons_zero, total_one]
  have := hc.tot
  omega
theorem cr_room {R T : Nat} (lim : Nat) (h : Dsk Fs f c0 t.fs) (hc : CR R T t) (hl : (ctOf f c0).lg.last ≤ MI) (hr : T + 35 ≤ R) : (spRoom lim (ctOf f c0) t).1 = 0 ∧ CR R (T + 35) (spRoom lim (ctOf f c0) t).2.2 := by
  obtain ⟨i, hi⟩ := ctOf_num h
  have hf := h.num f (by simp)
  have HRO : spRoom lim (ctOf f c0) t = if (recs f.rs).length < lim ∨ f.n = 99999999 then (0, ctOf f c0, t) else spRun [spSync, spCreate (f.n + 1)] (ctOf f c0) t := by unfold spRoom; rw [hi]
  rw [HRO]
  split
  · exact ⟨rfl, hc.calm, hc.room, by have := hc.tot; show Dk.total t.fs ≤ _; omega⟩
  · rename_i hq
    obtain ⟨h0, h1⟩ := res_sync h
    obtain ⟨k1, k2⟩ := cr_sync h hc
    rcases h1 with ⟨h1, _⟩ | ⟨h1, h2⟩
    · exact absurd k1 h1
    · rw [spRun_ok h1, spRun_one, h0]
      exact cr_create (f := ⟨f.n, f.rs, (recs f.rs).length⟩) h2 k2 (by show f.n < _; omega) hl hr
theorem cr_add {R T : Nat} (lim : Nat) (h : Dsk Fs f c0 t.fs) (hc : CR R T t) (hl : (ctOf f c0).lg.last ≤ MI) (e : E) (he : e.Ok) (hr : T + 88 + e.data.length ≤ R) : (spAdd lim e (ctOf f c0) t).1 = 0 ∧ CR R (T + 88 + e.data.length) (spAdd lim e (ctOf f c0) t).2.2 := by
  obtain ⟨k1, k2⟩ := cr_room lim h hc hl (by omega)
  obtain ⟨⟨Fs1, f1, c1, h1, h2, h3⟩, h4⟩ := res_room lim h hl
  have hb := entry_le e he
  unfold spAdd
  rw [spRun_ok k1, h3 k1]
  obtain ⟨q1, q2⟩ := cr_write h1 k2 (recd (chC (.entry e))) (by omega)
  rw [spRun_ok q1, spRun_one]
  exact ⟨rfl, q2.calm, q2.room, by have := q2.tot; show Dk.total (spWrite _ _ _).2.2.fs ≤ _; omega⟩
end
def cost (es : List E) : Nat := (es.map fun e => 88 + e.data.length).sum
theorem cr_app {R : Nat} (lim : Nat) : ∀ (es : List E) (T : Nat) (Fs : List Fl) (f : Fl) (c0 : Ct) (t : Dk.St), Dsk Fs f c0 t.fs → CR R T t → (ctOf f c0).lg.last ≤ MI → (∀ e ∈ es, e.Ok) → Seq (ctOf f c0).lg.last es → T + cost es ≤ R →
    (spApp lim es (ctOf f c0) t).1 = 0 ∧ CR R (T + cost es) (spApp lim es (ctOf f c0) t).2.2
  | [], T, Fs, f, c0, t, h, hc, hl, _, _, _ => ⟨rfl, hc⟩
  | e :: es, T, Fs, f, c0, t, h, hc, hl, ho, hs, hr => by
    have he := ho e (by simp)
    have hco : cost (e :: es) = 88 + e.data.length + cost es := by simp [cost]
    rw [hco] at hr ⊢
    obtain ⟨k1, k2⟩ := cr_add lim h hc hl e he (by omega)
    obtain ⟨⟨Fs1, f1, c1, h1, h2, h3⟩, h4⟩ := res_add lim h hl e he hs.1
    have h5 := h4 k1
    unfold spApp
    rw [List.map_cons, spRun_ok k1, h3 k1]
    rw [h3 k1] at h5
    have hla : (ctOf f1 c1).lg.last = (ctOf f c0).lg.last + 1 := by rw [h5]; simp [Lg.add, Lg.last]; omega
    have := cr_app lim es (T + 88 + e.data.length) Fs1 f1 c1 (spAdd lim e (ctOf f c0) t).2.2 h1 k2 (by rw [hla, ← hs.1]; exact he.2.1) (fun x hx => ho x (by simp [hx])) (by rw [hla]; exact hs.2) (by omega)
    rw [show T + (88 + e.data.length + cost es) = T + 88 + e.data.length + cost es by omega]
    exact this
end Go.Proofs.YtgmpdifggaggdaaGreatDoor.Wl

namespace Go.Proofs.YtgmpdifggaggdaaGreatDoor.Wl
open Go.Proofs.YtgmpdifggaggdaaGreatDoor.Fld Go.Proofs.YtgmpdifggaggdaaGreatDoor.Rc
set_option linter.unusedVariables false

theorem fget_put {e : Dk.Fil} {fs : List Dk.Fil} (h : Dk.Up Prod.fst fs) : Dk.fget e.1 (Dk.fput e fs) = some e := Dk.get_mem (h.put e) (Dk.mem_fput.2 (.inl rfl))
theorem fget_appFs (x : Dk.Nm) (b : List Int) {fs : List Dk.Fil} (h : Dk.Up Prod.fst fs) : ∃ e, Dk.fget x (Dk.appFs x b fs) = some e ∧ Dk.Up Prod.fst (Dk.appFs x b fs) := by
  unfold Dk.appFs
  cases hg : Dk.fget x fs with
  | some f => exact ⟨_, fget_put (e := (x, f.2.1 ++ b, f.2.2)) h, h.put _⟩
  | none => exact ⟨_, fget_put (e := (x, b, 0)) h, h.put _⟩
theorem cal_app {t : Dk.St} (h : Calm t) (x : Dk.Nm) (hx : Dk.okN x = true) (b : List Int) (hr : Dk.total t.fs + b.length ≤ t.room) : Dk.stAppend x b t = (0, { t with fs := Dk.appFs x b t.fs }) := by
  rw [app_calm _ _ h hx, if_neg (by omega)]
theorem cal_syn {t : Dk.St} (h : Calm t) {x : Dk.Nm} (hx : Dk.okN x = true) {e : Dk.Fil} (hg : Dk.fget x t.fs = some e) : Dk.stSync x t = (0, { t with fs := Dk.fput (x, e.2.1, e.2.1.length) t.fs }) := by
  unfold Dk.stSync Dk.doing
  rw [hx, chg_calm h]
  simp only [if_true]
  unfold Dk.sync1
  rw [hg]
theorem cal_ren {t : Dk.St} (h : Calm t) {x y : Dk.Nm} (hx : Dk.okN x = true) (hy : Dk.okN y = true) (hxy : x ≠ y) {e : Dk.Fil} (hg : Dk.fget x t.fs = some e) : Dk.stRename x y t = (0, { t with fs := Dk.fdel x (Dk.fput (y, e.2.1, e.2.2) (Dk.fdel y t.fs)) }) := by
  unfold Dk.stRename Dk.doing
  rw [hx, hy, chg_calm h]
  simp only [Bool.and_self, if_true]
  unfold Dk.ren1
  rw [hg]
  simp only
  rw [if_neg hxy]
theorem cal_unl {t : Dk.St} (h : Calm t) {x : Dk.Nm} (hx : Dk.okN x = true) {e : Dk.Fil} (hg : Dk.fget x t.fs = some e) : Dk.stUnlink x t = (0, { t with fs := Dk.fdel x t.fs }) := by
  unfold Dk.stUnlink Dk.doing
  rw [hx, chg_calm h]
  simp only [if_true]
  unfold Dk.unl1
  rw [hg]
/-- names that are there are unlinked, one behind the other -/
theorem rest_ok (c : Ct) : ∀ (l : List Nat) (t : Dk.St), Calm t → Dk.Up Prod.fst t.fs → l.Nodup → (∀ n ∈ l, n ≤ 99999999 ∧ ∃ e ∈ t.fs, e.1 = segN n) →
    ∃ t', spRun (l.map fun n => spDisk (Dk.stUnlink (segN n))) c t = (0, c, t') ∧ Calm t' ∧ Dk.Up Prod.fst t'.fs ∧ Dk.total t'.fs ≤ Dk.total t.fs ∧ t'.room = t.room
  | [], t, hc, hu, _, _ => ⟨t, rfl, hc, hu, Nat.le_refl _, rfl⟩
  | n :: l, t, hc, hu, hd, hl => by
    obtain ⟨hn, e, he, hek⟩ := hl n (by simp)
    have hg : Dk.fget (segN n) t.fs = some e := by rw [← hek]; exact Dk.get_mem hu he
    have h1 := cal_unl hc (okN_segN n) hg
    rw [List.map_cons, spRun_ok (show (spDisk (Dk.stUnlink (segN n)) c t).1 = 0 by unfold spDisk; rw [h1])]
    have h2 : spDisk (Dk.stUnlink (segN n)) c t = (0, c, { t with fs := Dk.fdel (segN n) t.fs }) := by unfold spDisk; rw [h1]
    rw [h2]
    obtain ⟨hd1, hd2⟩ := List.nodup_cons.1 hd
    obtain ⟨t', k1, k2, k3, k4, k5⟩ := rest_ok c l { t with fs := Dk.fdel (segN n) t.fs } ⟨hc.off, hc.fail, hc.arm⟩ (hu.del _) hd2 (fun m hm => by
      obtain ⟨q1, e', q2, q3⟩ := hl m (by simp [hm])
      refine ⟨q1, e', Dk.mem_fdel.2 ⟨q2, ?_⟩, q3⟩
      rw [q3]
      intro hq
      have := segN_inj q1 hn hq
      subst this
      exact hd1 hm)
    refine ⟨t', k1, k2, k3, ?_, k5⟩
    have := Dk.total_del_le t.fs (segN n)
    simp only at k4
    omega
theorem seg_filex {fs : List Dk.Fil} {p : Nat × List Int} (h : p ∈ segsOf fs) : ∃ e ∈ fs, e.1 = segN p.1 ∧ p.1 ≤ 99999999 ∧ e.2.1 = p.2 := by
  unfold segsOf at h
  obtain ⟨e, he, hf⟩ := List.mem_filterMap.1 h
  split at hf
  · rename_i hn
    cases hf
    exact ⟨e, he, (numOf_pos hn).1, (numOf_pos hn).2, rfl⟩
  · cases hf
theorem nums_file {fs : List Dk.Fil} {n : Nat} (h : n ∈ numsN fs) : n ≤ 99999999 ∧ ∃ e ∈ fs, e.1 = segN n := by
  unfold numsN at h
  obtain ⟨p, hp, rfl⟩ := List.mem_map.1 h
  obtain ⟨e, he, h1, h2, _⟩ := seg_filex hp
  exact ⟨h2, e, he, h1⟩
theorem nums_nodup {fs : List Dk.Fil} (h : Dk.Up Prod.fst fs) : (numsN fs).Nodup := by
  unfold numsN segsOf
  unfold Dk.Up at h
  induction fs with
  | nil => simp
  | cons e fs ih =>
    obtain ⟨h1, h2⟩ := List.pairwise_cons.1 h
    rw [List.filterMap_cons]
    by_cases hn : 0 < numOf e.1
    · rw [if_pos hn]
      simp only [List.map_cons, List.nodup_cons]
      refine ⟨fun hm => ?_, ih h2⟩
      obtain ⟨hq, e', he', hk⟩ := nums_file (fs := fs) (n := numOf e.1) hm
      have h3 := h1 e' he'
      rw [hk, ← (numOf_pos hn).1] at h3
      exact Dk.before_ne h3 rfl
    · rw [if_neg hn]
      exact ih h2
theorem create_ok {t : Dk.St} (hc : Calm t) (hu : Dk.Up Prod.fst t.fs) (c : Ct) (hl : c.lg.last ≤ MI) (hr : Dk.total t.fs + 35 ≤ t.room) : (spCreate 1 c t).1 = 0 ∧ (spCreate 1 c t).2.1.lg = c.lg := by
  have hb := head_le 1 (c.lg.last + 1) (by omega) (by unfold MI at hl; omega)
  have h0 : (spCreate 1 c t).1 = 0 := by
    unfold spCreate
    generalize recd (chC (.head 1 (c.lg.last + 1))) = B at hb ⊢
    obtain ⟨c1, hc1⟩ : ∃ c1 : Ct, (⟨c.lg, c.segs ++ [⟨1, c.lg.last + 1, 0⟩]⟩ : Ct) = c1 := ⟨_, rfl⟩
    rw [hc1]
    have hln : lastN c1 = 1 := by rw [← hc1]; exact lastN_last (c := ⟨_, _⟩) (l := c.segs) (s := ⟨1, c.lg.last + 1, 0⟩) rfl
    have ha := cal_app hc (segN 1) (okN_segN 1) B (by omega)
    have hw : spWrite B c1 t = (0, ⟨c1.lg, addSz B.length c1.segs⟩, { t with fs := Dk.appFs (segN 1) B t.fs }) := by
      unfold spWrite
      rw [hln, ha]
      rfl
    rw [spRun_ok (by rw [hw]), spRun_one, hw]
    simp only
    have hln2 : lastN ⟨c1.lg, addSz B.length c1.segs⟩ = 1 := by
      rw [← hc1]
      simp only
      rw [addSz_snoc]
      exact lastN_last (c := ⟨_, _⟩) (l := c.segs) (s := ⟨1, c.lg.last + 1, 0 + B.length⟩) rfl
    obtain ⟨e, he, hu2⟩ := fget_appFs (segN 1) B hu
    unfold spSync spDisk
    simp only [hln2]
    rw [cal_syn (t := { t with fs := Dk.appFs (segN 1) B t.fs }) ⟨hc.off, hc.fail, hc.arm⟩ (okN_segN 1) he]
  exact ⟨h0, (spCreate_sz 1 c t (by omega) hl h0).1⟩
theorem shorten_ok {t : Dk.St} (hc : Calm t) (hu : Dk.Up Prod.fst t.fs) (hf : Dk.fget freshN t.fs = none) (hr : 2 * Dk.total t.fs ≤ t.room) :
    ∃ t', spShorten (scanD t.fs) t = (0, scanD t.fs, t') ∧ Calm t' ∧ Dk.Up Prod.fst t'.fs ∧ t'.room = t.room ∧ ((scanD t.fs).segs = [] → t' = t) := by
  unfold spShorten
  cases hg : (scanD t.fs).segs.getLast? with
  | none => exact ⟨t, rfl, hc, hu, rfl, fun _ => rfl⟩
  | some s =>
    have hne : (scanD t.fs).segs ≠ [] := by intro h; rw [h] at hg; cases hg
    obtain ⟨p, hp, h1, h2⟩ := scanD_last t.fs s hg
    obtain ⟨e, he, h3, h4, h5⟩ := seg_filex hp
    rw [h1] at h3 h4
    have hge : Dk.fget (segN s.num) t.fs = some e := by rw [← h3]; exact Dk.get_mem hu he
    have hrd : Dk.stRead (segN s.num) t = (0, e.2.1) := by unfold Dk.stRead; rw [hc.off, okN_segN, hge]; rfl
    simp only
    rw [hrd]
    simp only
    split
    · exact ⟨t, rfl, hc, hu, rfl, fun h => absurd h hne⟩
    · have hle : (e.2.1.take s.size).length ≤ Dk.total t.fs := by
        have := Dk.total_del hu hge
        rw [List.length_take]
        omega
      have ha := cal_app hc freshN (by decide) (e.2.1.take s.size) (by omega)
      obtain ⟨e2, he2, hu2⟩ := fget_appFs freshN (e.2.1.take s.size) hu
      have hc2 : Calm { t with fs := Dk.appFs freshN (e.2.1.take s.size) t.fs } := ⟨hc.off, hc.fail, hc.arm⟩
      have hs := cal_syn hc2 (x := freshN) (by decide) he2
      have he3 := fget_put (e := (freshN, e2.2.1, e2.2.1.length)) hu2
      have hc3 : Calm { t with fs := Dk.fput (freshN, e2.2.1, e2.2.1.length) (Dk.appFs freshN (e.2.1.take s.size) t.fs) } := ⟨hc.off, hc.fail, hc.arm⟩
      have hn := cal_ren hc3 (x := freshN) (y := segN s.num) (by decide) (okN_segN _) (fun h => segN_ne_fresh s.num h.symm) he3
      rw [spRun_dok (by rw [ha]), ha]
      simp only
      rw [spRun_dok (by rw [hs]), hs]
      simp only
      rw [spRun_one]
      unfold spDisk
      rw [hn]
      refine ⟨_, rfl, ⟨hc.off, hc.fail, hc.arm⟩, ?_, rfl, fun h => absurd h hne⟩
      exact (((hu2.put _).del _).put _).del _
/-- opening finds the recoverable log -/
theorem open_calm (c : Ct) {t : Dk.St} (hc : Calm t) (hu : Dk.Up Prod.fst t.fs) (hf : Dk.fget freshN t.fs = none) (hr : 2 * Dk.total t.fs + 35 ≤ t.room) (hl : (scanD t.fs).lg.last ≤ MI) : (spOpen c t).1 = 0 ∧ (spOpen c t).2.1.lg = (scanD t.fs).lg := by
  have h1 : spFresh c t = (0, c, t) := by unfold spFresh; rw [hf]; rfl
  obtain ⟨t2, h2, hc2, hu2, hr2, hs2⟩ := shorten_ok hc hu hf (by omega)
  obtain ⟨t3, h3, hc3, hu3, ht3, hr3⟩ := rest_ok (scanD t.fs) ((numsN t2.fs).drop (scanD t.fs).segs.length) t2 hc2 hu2 ((nums_nodup hu2).sublist (List.drop_sublist _ _)) (fun n hn => nums_file (List.mem_of_mem_drop hn))
  unfold spOpen
  rw [spRun_ok (by rw [h1]), h1]
  simp only
  rw [spRun_ok (show (spLoad c t).1 = 0 from rfl)]
  show (spRun [spShorten, spRest, spStart] (scanD t.fs) t).1 = 0 ∧ _
  rw [show (spRun [spShorten, spRest, spStart] (spLoad c t).2.1 (spLoad c t).2.2) = spRun [spShorten, spRest, spStart] (scanD t.fs) t from rfl]
  rw [spRun_ok (by rw [h2]), h2]
  simp only
  have h4 : spRest (scanD t.fs) t2 = (0, scanD t.fs, t3) := h3
  rw [spRun_ok (by rw [h4]), h4]
  simp only
  rw [spRun_one]
  unfold spStart
  split
  · rename_i he
    have := hs2 he
    subst this
    exact create_ok hc3 hu3 _ hl (by omega)
  · exact ⟨rfl, rfl⟩
end Go.Proofs.YtgmpdifggaggdaaGreatDoor.Wl

namespace Go.Proofs.YtgmpdifggaggdaaGreatDoor.Wl
open Go.Proofs.YtgmpdifggaggdaaGreatDoor.Fld Go.Proofs.YtgmpdifggaggdaaGreatDoor.Rc
set_option linter.unusedVariables false

theorem recs_pos {rs : List (List Int)} (h : rs ≠ []) : 8 ≤ (recs rs).length := by
  cases rs with
  | nil => exact absurd rfl h
  | cons b r => rw [recs, List.length_append, recd_len]; omega
theorem tot_len : ∀ (l : List Fl), (∀ g ∈ l, g.rs ≠ []) → 8 * l.length ≤ Dk.total (l.map Fl.fil)
  | [], _ => by simp
  | g :: l, h => by
    have h1 := tot_len l (fun x hx => h x (by simp [hx]))
    have h2 := recs_pos (h g (by simp))
    rw [List.map_cons, Dk.total_cons, List.length_cons]
    show _ ≤ (recs g.rs).length + _
    omega
theorem walk_ne : ∀ (l : List Fl) (c c' : Ct), walk c l = some c' → (∀ g ∈ l, g.rs ≠ []) ∧ c'.segs.length = c.segs.length + l.length
  | [], c, c', h => by simp [walk] at h; subst h; simp
  | f :: r, c, c', h => by
    rw [walk] at h
    split at h
    · rename_i hc
      obtain ⟨h1, h2⟩ := walk_ne r _ _ h
      refine ⟨fun g hg => ?_, ?_⟩
      · rcases List.mem_cons.1 hg with rfl | hg
        · exact hc.1
        · exact h1 g hg
      · obtain ⟨i, hi⟩ := ctOf_segs (f := f) (c0 := c) hc.2 hc.1
        unfold ctOf at hi
        rw [h2, hi, List.length_append, List.length_cons, List.length_cons, List.length_nil]
        omega
    · cases h
section
variable {Fs : List Fl} {f : Fl} {c0 : Ct} {t : Dk.St}
/-- a log's files and its segments are few, and its last segment small -/
theorem Dsk.few (h : Dsk Fs f c0 t.fs) : 8 * t.fs.length ≤ Dk.total t.fs ∧ ∃ L S, (ctOf f c0).segs = L ++ [S] ∧ L.length + 1 = t.fs.length ∧ S.size ≤ Dk.total t.fs := by
  obtain ⟨h1, h2⟩ := walk_ne Fs _ _ h.w0
  have hl : 8 * (Fs ++ [f]).length ≤ Dk.total ((Fs ++ [f]).map Fl.fil) := tot_len _ fun g hg => by
    rcases List.mem_append.1 hg with hg | hg
    · exact h1 g hg
    · simp at hg; subst hg; exact h.ne
  obtain ⟨i, hi⟩ := ctOf_segs h.ok h.ne
  have htot := tot_is h
  refine ⟨by rw [h.fs, List.length_map]; exact hl, c0.segs, _, hi, ?_, ?_⟩
  · rw [h2, h.fs]; simp [ct0]
  · simp only; omega
/-- what a crash leaves can be opened -/
theorem crash_cr {R T : Nat} (h : Dsk Fs f c0 t.fs) (hc : CR R T t) (ks : List Int) : CR R T (Dk.stCrash ks t) ∧ Dk.Up Prod.fst (Dk.stCrash ks t).fs ∧ Dk.fget freshN (Dk.stCrash ks t).fs = none ∧ (Dk.stCrash ks t).fs.length = t.fs.length := by
  obtain ⟨E, h1, h2, h3⟩ := crash_fs h ks
  have h3' : (Dk.stCrash ks t).fs = Fs.map Fl.fil ++ [(segN f.n, (recs f.rs).take E, E)] := h3
  have hk : (Fs.map Fl.fil ++ [(segN f.n, (recs f.rs).take E, E)]).map Prod.fst = ((Fs ++ [f]).map Fl.fil).map Prod.fst := by simp [Fl.fil]
  have hu := h.upf
  unfold Dk.Up at hu
  rw [← List.pairwise_map (f := Prod.fst) (R := fun a b => bytesBefore a b = true), ← hk, List.pairwise_map] at hu
  refine ⟨⟨crash_calm ks t, hc.room, ?_⟩, by rw [h3']; exact hu, ?_, ?_⟩
  · rw [h3', total_app2, total_one]
    have := tot_is h
    have := hc.tot
    simp only [List.length_take]
    omega
  · rw [h3']
    cases hg : Dk.fget freshN (Fs.map Fl.fil ++ [(segN f.n, (recs f.rs).take E, E)]) with
    | none => rfl
    | some e =>
      obtain ⟨q1, q2⟩ := Dk.get_some hg
      exfalso
      rcases List.mem_append.1 q1 with q1 | q1
      · obtain ⟨g, _, rfl⟩ := List.mem_map.1 q1
        exact segN_ne_fresh g.n q2
      · simp at q1
        subst q1
        exact segN_ne_fresh f.n q2
  · rw [h3', h.fs]; simp
theorem Dsk.calm_fresh (h : Dsk Fs f c0 t.fs) : Dk.Up Prod.fst t.fs ∧ Dk.fget freshN t.fs = none := by
  refine ⟨by rw [h.fs]; exact h.upf, ?_⟩
  cases hg : Dk.fget freshN t.fs with
  | none => rfl
  | some e =>
    obtain ⟨q1, q2⟩ := Dk.get_some hg
    rw [h.fs] at q1
    obtain ⟨g, _, rfl⟩ := List.mem_map.1 q1
    exact absurd q2 (segN_ne_fresh g.n)
end
/-- an empty disk is opened -/
theorem open_empty (R : Nat) (hR : 35 ≤ R) : ∃ f t1, spOpen ct0 (Dk.st0 R) = (0, ctOf f ct0, t1) ∧ Dsk [] f ct0 t1.fs ∧ CR R 35 t1 ∧ (ctOf f ct0).lg = ⟨0, []⟩ ∧ f.s = (recs f.rs).length := by
  obtain ⟨B, hB⟩ : ∃ B, chC (.head 1 1) = B := ⟨_, rfl⟩
  have hlen := head_le 1 1 (by omega) (by omega)
  have hdec : dec B = some (.head 1 1) := by rw [← hB]; exact dec_chC _ ⟨by omega, by omega, by omega, by unfold MI; omega⟩
  rw [hB] at hlen
  have hacc : acc 1 true ct0 B = some ⟨⟨0, []⟩, [⟨1, 1, 8 + B.length⟩]⟩ := by
    unfold acc
    rw [hdec]
    simp [follows, ct0, Lg.restart]
  have hsc : scanR 1 true ct0 [B] = (⟨⟨0, []⟩, [⟨1, 1, 8 + B.length⟩]⟩, true) := by rw [scanR_some hacc, scanR]
  have hct : ctOf ⟨1, [B], 0⟩ ct0 = ⟨⟨0, []⟩, [⟨1, 1, 8 + B.length⟩]⟩ := by unfold ctOf; simp only; rw [hsc]
  have hrb : recs [B] = recd B := by rw [recs, recs, List.append_nil]
  have hD : Dsk [] ⟨1, [B], 0⟩ ct0 [(segN 1, recd B, 0)] := by
    refine ⟨by rw [← hrb]; rfl, rfl, by simp only; rw [hsc], by simp, by simp, ?_, ?_, by simp, Nat.zero_le _⟩
    · intro g hg
      simp at hg
      subst hg
      intro x hx
      simp at hx
      subst hx
      rw [recd_len] at hlen
      omega
    · intro g hg
      simp at hg
      subst hg
      simp
  obtain ⟨t0, ht0⟩ : ∃ t0 : Dk.St, (⟨R, [(segN 1, recd B, 0)], false, none, none⟩ : Dk.St) = t0 := ⟨_, rfl⟩
  have hC0 : Calm (Dk.st0 R) := ⟨rfl, rfl, rfl⟩
  have hCR : CR R 35 t0 := ⟨by rw [← ht0]; exact ⟨rfl, rfl, rfl⟩, by rw [← ht0], by rw [← ht0]; show Dk.total [(segN 1, recd B, 0)] ≤ 35; rw [total_one]; exact hlen⟩
  have hD0 : Dsk [] ⟨1, [B], 0⟩ ct0 t0.fs := by rw [← ht0]; exact hD
  have hsy := res_sync hD0
  have hcr := cr_sync hD0 hCR
  have hap : Dk.stAppend (segN 1) (recd B) (Dk.st0 R) = (0, t0) := by
    rw [cal_app hC0 (segN 1) (okN_segN 1) (recd B) (by show 0 + _ ≤ R; omega), ← ht0]
    rfl
  have hcreate : spCreate 1 ct0 (Dk.st0 R) = spSync (ctOf ⟨1, [B], 0⟩ ct0) t0 := by
    unfold spCreate
    rw [show chC (.head 1 (ct0.lg.last + 1)) = B from hB]
    have hw : spWrite (recd B) ⟨ct0.lg, ct0.segs ++ [⟨1, ct0.lg.last + 1, 0⟩]⟩ (Dk.st0 R) = (0, ctOf ⟨1, [B], 0⟩ ct0, t0) := by
      have hln : lastN ⟨ct0.lg, ct0.segs ++ [⟨1, ct0.lg.last + 1, 0⟩]⟩ = 1 := rfl
      unfold spWrite
      rw [hln, hap, hct]
      simp only [if_true]
      rw [recd_len]
      simp [ct0, addSz, Lg.last]
    rw [spRun_ok (by rw [hw]), hw, spRun_one]
  obtain ⟨hs1, hs2⟩ := hsy
  rcases hs2 with ⟨hs2, _⟩ | ⟨hs2, hs3⟩
  · exact absurd hcr.1 hs2
  · have hct2 : ctOf ⟨1, [B], (recs [B]).length⟩ ct0 = ctOf ⟨1, [B], 0⟩ ct0 := rfl
    refine ⟨⟨1, [B], (recs [B]).length⟩, (spSync (ctOf ⟨1, [B], 0⟩ ct0) t0).2.2, ?_, hs3, hcr.2, by rw [hct2, hct], rfl⟩
    have hopen : spOpen ct0 (Dk.st0 R) = spCreate 1 ct0 (Dk.st0 R) := by
      have e1 : spFresh ct0 (Dk.st0 R) = (0, ct0, Dk.st0 R) := rfl
      have e2 : spLoad ct0 (Dk.st0 R) = (0, ct0, Dk.st0 R) := rfl
      have e3 : spShorten ct0 (Dk.st0 R) = (0, ct0, Dk.st0 R) := rfl
      have e4 : spRest ct0 (Dk.st0 R) = (0, ct0, Dk.st0 R) := rfl
      unfold spOpen
      rw [spRun_ok (by rw [e1]), e1]
      simp only
      rw [spRun_ok (by rw [e2]), e2]
      simp only
      rw [spRun_ok (by rw [e3]), e3]
      simp only
      rw [spRun_ok (by rw [e4]), e4]
      simp only
      rw [spRun_one]
      unfold spStart
      rw [if_pos (show ct0.segs = [] from rfl)]
    rw [hopen, hcreate, hct2]
    refine Prod.ext hcr.1 (Prod.ext ?_ rfl)
    rw [hs1]
/-- a log on a disk that is on: its content, the logs that a crash may leave, the disk's room and bytes -/
def Cm (R T : Nat) (P : Lg → Prop) (c : Ct) (t : Dk.St) : Prop := ∃ Fs f c0, Dsk Fs f c0 t.fs ∧ c = ctOf f c0 ∧ (∀ g, Poss f c0 g → P g) ∧ CR R T t
theorem Cm.mono {R T : Nat} {P Q : Lg → Prop} {c : Ct} {t : Dk.St} (h : Cm R T P c t) (hp : ∀ g, P g → Q g) : Cm R T Q c t := by
  obtain ⟨Fs, f, c0, h1, h2, h3, h4⟩ := h
  exact ⟨Fs, f, c0, h1, h2, fun g hg => hp g (h3 g hg), h4⟩
theorem cm_empty (R : Nat) (hR : 35 ≤ R) : (spOpen ct0 (Dk.st0 R)).1 = 0 ∧ (spOpen ct0 (Dk.st0 R)).2.1.lg = ⟨0, []⟩ ∧ Cm R 35 (fun g => g = ⟨0, []⟩) (spOpen ct0 (Dk.st0 R)).2.1 (spOpen ct0 (Dk.st0 R)).2.2 ∧ (spOpen ct0 (Dk.st0 R)).2.2.fs.length = 1 := by
  obtain ⟨f, t1, h1, h2, h3, h4, h5⟩ := open_empty R hR
  rw [h1]
  refine ⟨rfl, h4, ⟨[], f, ct0, h2, rfl, fun g hg => ?_, h3⟩, by show t1.fs.length = 1; rw [h2.fs]; rfl⟩
  have h6 := poss_sync (f := f) (c0 := ct0) g (by rw [← h5]; exact hg)
  rw [h6, h4]
theorem Cm.few {R T : Nat} {P : Lg → Prop} {c : Ct} {t : Dk.St} (h : Cm R T P c t) : 8 * t.fs.length ≤ T ∧ ∃ L S, c.segs = L ++ [S] ∧ L.length + 1 = t.fs.length ∧ S.size ≤ T := by
  obtain ⟨Fs, f, c0, h1, h2, h3, h4⟩ := h
  obtain ⟨k1, L, S, k2, k3, k4⟩ := h1.few
  have := h4.tot
  exact ⟨by omega, L, S, by rw [h2]; exact k2, k3, by omega⟩
theorem Cm.off {R T : Nat} {P : Lg → Prop} {c : Ct} {t : Dk.St} (h : Cm R T P c t) : t.off = false := by
  obtain ⟨Fs, f, c0, h1, h2, h3, h4⟩ := h
  exact h4.calm.off
theorem Cm.app {R T : Nat} {P : Lg → Prop} {c : Ct} {t : Dk.St} (h : Cm R T P c t) (lim : Nat) (es : List E) (hl : c.lg.last ≤ MI) (ho : ∀ e ∈ es, e.Ok) (hs : Seq c.lg.last es) (hr : T + cost es ≤ R) :
    (spApp lim es c t).1 = 0 ∧ (spApp lim es c t).2.1.lg = addAll c.lg es ∧ Cm R (T + cost es) (fun g => P g ∨ ∃ i, i ≤ es.length ∧ g = addAll c.lg (es.take i)) (spApp lim es c t).2.1 (spApp lim es c t).2.2 := by
  obtain ⟨Fs, f, c0, h1, rfl, h3, h4⟩ := h
  obtain ⟨⟨Fs1, f1, c1, k1, k2, k3⟩, k4⟩ := res_app lim es Fs f c0 t h1 hl ho hs
  obtain ⟨q1, q2⟩ := cr_app lim es T Fs f c0 t h1 h4 hl ho hs hr
  exact ⟨q1, k4 q1, Fs1, f1, c1, k1, k3 q1, fun g hg => (k2 g hg).imp (h3 g) id, q2⟩
theorem Cm.syn {R T : Nat} {P : Lg → Prop} {c : Ct} {t : Dk.St} (h : Cm R T P c t) :
    (spSync c t).1 = 0 ∧ (spSync c t).2.1 = c ∧ Cm R T (fun g => g = c.lg) (spSync c t).2.1 (spSync c t).2.2 := by
  obtain ⟨Fs, f, c0, h1, rfl, h3, h4⟩ := h
  obtain ⟨k1, k2⟩ := res_syn h1
  obtain ⟨q1, q2⟩ := cr_sync h1 h4
  obtain ⟨k3, Fs1, f1, c1, k4, k5, k6⟩ := k2 q1
  exact ⟨q1, k3, Fs1, f1, c1, k4, k6 q1, k5, q2⟩
/-- behind a crash the log is opened -/
theorem Cm.crash {R T : Nat} {P : Lg → Prop} {c : Ct} {t : Dk.St} (h : Cm R T P c t) (hr : 2 * T + 35 ≤ R) (hP : ∀ g, P g → g.last ≤ MI) (ks : List Int) (c' : Ct) :
    (Dk.stCrash ks t).off = false ∧ (Dk.stCrash ks t).fs.length = t.fs.length ∧ (spOpen c' (Dk.stCrash ks t)).1 = 0 ∧ P (spOpen c' (Dk.stCrash ks t)).2.1.lg := by
  obtain ⟨Fs, f, c0, h1, rfl, h3, h4⟩ := h
  obtain ⟨k1, k2, k3, k4⟩ := crash_cr h1 h4 ks
  have hp := h3 _ (crash_poss h1 ks)
  have ht := k1.tot
  have hroom := k1.room
  obtain ⟨q1, q2⟩ := open_calm c' k1.calm k2 k3 (by omega) (hP _ hp)
  exact ⟨k1.calm.off, k4, q1, by rw [q2]; exact hp⟩
end Go.Proofs.YtgmpdifggaggdaaGreatDoor.Wl
