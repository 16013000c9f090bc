/-
  Several texts in one: The plain mathematics of layer 6: what Drop leaves of a log of heads and entries alone on a disk that is on. Conditions: as each theorem states. Layer 6: Open, Append and Drop on a disk that is on, as the law of Drop calls them; a second Open of the same disk. Conditions: the Wal and its disk lie in memory (Wa), above all that was there. Layer 6: WalDrops. Conditions: the entries can be read. Arguments opened to cells: slices of entries, steps, numbers, as the given rows read them. No condition. Layer 6: an argument's entries lie within its capacity. No condition.
-/
import Derived.Test.YtgmpdifggaggdaaGreatDoorJWalFgt
import Derived.Test.YtgmpdifggaggdaaGreatDoorJWalMch
import Derived.Deep.Slices
import Derived.Deep.Fields
import Derived.ChangeSame
import Derived.OpenShut
namespace Go.Proofs.YtgmpdifggaggdaaGreatDoor.Wl
open Go.Proofs.YtgmpdifggaggdaaGreatDoor.Fld Go.Proofs.YtgmpdifggaggdaaGreatDoor.Rc
set_option linter.unusedVariables false

theorem needless_lt (before : Int) : ∀ l : List Sg, l ≠ [] → needless before l < l.length
  | [], h => absurd rfl h
  | [s], _ => by simp [needless]
  | s :: u :: r, _ => by
    rw [needless]
    split
    · have := needless_lt before (u :: r) (by simp)
      simp at this ⊢
      omega
    · simp
/-- the segment behind the needless ones begins no later than before -/
theorem needless_next (before : Int) : ∀ (l : List Sg) (s : Sg) (r : List Sg), 1 ≤ needless before l → l.drop (needless before l) = s :: r → (s.next : Int) ≤ before
  | [], _, _, h, _ => by simp [needless] at h
  | [s], _, _, h, _ => by simp [needless] at h
  | s :: u :: t, x, r, h, hd => by
    rw [needless] at h hd
    split at hd
    · rename_i hu
      rcases Nat.eq_zero_or_pos (needless before (u :: t)) with h0 | h0
      · rw [h0] at hd
        simp at hd
        rw [← hd.1]
        exact hu
      · rw [List.drop_succ_cons] at hd
        exact needless_next before (u :: t) x r h0 hd
    · rename_i hu
      rw [if_neg hu] at h
      omega
theorem fdel_head (a : Fl) (l : List Fl) (ha : a.n ≤ 99999999) (hl : ∀ b ∈ l, a.n < b.n ∧ b.n ≤ 99999999) : Dk.fdel (segN a.n) ((a :: l).map Fl.fil) = l.map Fl.fil := by
  unfold Dk.fdel Dk.del
  rw [List.map_cons, List.filter_cons, if_neg (by simp [Fl.fil]), List.filter_eq_self]
  intro e he
  obtain ⟨b, hb, rfl⟩ := List.mem_map.1 he
  obtain ⟨h1, h2⟩ := hl b hb
  simp only [Fl.fil, Bool.not_eq_true', beq_eq_false_iff_ne, ne_eq]
  intro hq
  have := segN_inj h2 ha hq
  omega
theorem unl_files (c : Ct) (rest : List Sp) (B : List Fl) : ∀ (A : List Fl) (t : Dk.St), Calm t → t.fs = (A ++ B).map Fl.fil → (∀ g ∈ A ++ B, 1 ≤ g.n ∧ g.n ≤ 99999999) → (A ++ B).Pairwise (fun a b => a.n < b.n) →
    ∃ t', spRun (A.map (fun g => spDisk (Dk.stUnlink (segN g.n))) ++ rest) c t = spRun rest c t' ∧ Calm t' ∧ t'.fs = B.map Fl.fil ∧ t'.room = t.room
  | [], t, hc, hf, _, _ => ⟨t, rfl, hc, hf, rfl⟩
  | a :: A, t, hc, hf, hn, hp => by
    rw [List.cons_append, List.pairwise_cons] at hp
    have ha := (hn a (by simp)).2
    have hg : Dk.fget (segN a.n) t.fs = some a.fil := by
      rw [hf, List.cons_append, List.map_cons]
      unfold Dk.fget Dk.get
      rw [List.find?_cons]
      simp [Fl.fil]
    have h1 := cal_unl hc (okN_segN a.n) hg
    have h2 : spDisk (Dk.stUnlink (segN a.n)) c t = (0, c, { t with fs := Dk.fdel (segN a.n) t.fs }) := by unfold spDisk; rw [h1]
    rw [List.map_cons, List.cons_append, spRun_ok (by rw [h2]), h2]
    have h3 : Dk.fdel (segN a.n) t.fs = (A ++ B).map Fl.fil := by
      rw [hf, List.cons_append]
      exact fdel_head a (A ++ B) ha (fun b hb => ⟨hp.1 b hb, (hn b (by simp [List.mem_append.1 hb])).2⟩)
    obtain ⟨t', k1, k2, k3, k4⟩ := unl_files c rest B A { t with fs := Dk.fdel (segN a.n) t.fs } ⟨hc.off, hc.fail, hc.arm⟩ h3 (fun g hg => hn g (by simp [List.mem_append.1 hg])) hp.2
    exact ⟨t', k1, k2, k3, k4⟩
section
variable {Fs : List Fl} {f : Fl} {c0 : Ct} {t : Dk.St}
theorem Dsk.walk (h : Dsk Fs f c0 t.fs) : walk ct0 (Fs ++ [f]) = some (ctOf f c0) := walk_snoc h.w0 h.ne h.ok
/-- what Drop leaves -/
theorem drop_calm (h : Dsk Fs f c0 t.fs) (hp : PlFs t.fs) (hc : Calm t) (old : Nat) (h1 : 1 ≤ old) (h2 : old < (ctOf f c0).segs.length) :
    ∃ d t', spDrop old (ctOf f c0) t = (0, ⟨d.lg, (ctOf f c0).segs.drop old⟩, t') ∧ Sfx old (ctOf f c0) d ∧ scanD t'.fs = d ∧ Calm t' ∧ Dk.Up Prod.fst t'.fs ∧ Dk.fget freshN t'.fs = none ∧ Dk.total t'.fs ≤ Dk.total t.fs ∧ t'.room = t.room ∧ t'.fs.length ≤ t.fs.length := by
  have hw := h.walk
  have hnum := walk_nums _ _ _ hw
  have hlen := (walk_ne _ _ _ hw).2
  simp only [ct0, List.map_nil, List.nil_append, List.length_nil, Nat.zero_add] at hnum hlen
  obtain ⟨F, hF⟩ : ∃ F, Fs ++ [f] = F := ⟨_, rfl⟩
  have hfs := h.fs
  have hn := h.num
  have hup := h.up
  have hpl := hp.of h
  have hsm := h.small
  have hcf := h.calm_fresh
  have hU := h.upf
  rw [hF] at hw hnum hlen hfs hn hup hpl hsm hU
  generalize ctOf f c0 = c at *
  have hsp : F = F.take old ++ F.drop old := (List.take_append_drop old F).symm
  have hA : F.take old ≠ [] := by
    intro e
    have := congrArg List.length e
    rw [List.length_take, List.length_nil] at this
    omega
  have hB : F.drop old ≠ [] := by
    intro e
    have := congrArg List.length e
    rw [List.length_drop, List.length_nil] at this
    omega
  obtain ⟨d, hd1, hd2⟩ := walk_sfx hA hB (fun g hg => hpl g (List.mem_of_mem_drop hg)) (by rw [← hsp]; exact hw)
  have hAl : (F.take old).length = old := by rw [List.length_take]; omega
  rw [hAl] at hd2
  obtain ⟨t', k1, k2, k3, k4⟩ := unl_files c [spForget old] (F.drop old) (F.take old) t hc (by rw [← hsp]; exact hfs) (by rw [← hsp]; exact hn) (by rw [← hsp]; exact hup)
  have hst : (c.segs.take old).map (fun s => spDisk (Dk.stUnlink (segN s.num))) = (F.take old).map (fun g => spDisk (Dk.stUnlink (segN g.n))) := by
    have e1 : (c.segs.take old).map (fun s => spDisk (Dk.stUnlink (segN s.num))) = ((c.segs.map Sg.num).take old).map (fun n => spDisk (Dk.stUnlink (segN n))) := by rw [← List.map_take, List.map_map]; rfl
    have e2 : (F.take old).map (fun g => spDisk (Dk.stUnlink (segN g.n))) = ((F.map Fl.n).take old).map (fun n => spDisk (Dk.stUnlink (segN n))) := by rw [← List.map_take, List.map_map]; rfl
    rw [e1, e2, hnum]
  have hscan : scanD t'.fs = d := by
    unfold scanD
    rw [k3, segsOf_fil _ (fun g hg => hn g (List.mem_of_mem_drop hg))]
    have := scanS_walk (F.drop old) ct0 d [] hd1 (fun g hg => hsm g (List.mem_of_mem_drop hg))
    rw [List.append_nil] at this
    rw [this]
    rfl
  have hsub : ((F.drop old).map Fl.fil).Sublist (F.map Fl.fil) := (List.drop_sublist old F).map _
  refine ⟨d, t', ?_, hd2, hscan, k2, ?_, ?_, ?_, k4, by rw [k3, hfs, List.length_map, List.length_map, List.length_drop]; omega⟩
  · unfold spDrop
    rw [hst, k1, spRun_one]
    unfold spForget
    rw [hscan]
  · rw [k3]
    exact List.Pairwise.sublist hsub hU
  · cases hq : Dk.fget freshN t'.fs with
    | none => rfl
    | some e =>
      obtain ⟨q1, q2⟩ := Dk.get_some hq
      rw [k3] at q1
      have q3 : e ∈ t.fs := by rw [hfs]; exact hsub.subset q1
      have q4 := Dk.get_mem hcf.1 q3
      rw [q2] at q4
      have q5 : Dk.fget freshN t.fs = some e := q4
      rw [hcf.2] at q5
      cases q5
  · rw [k3, hfs]
    conv => rhs; rw [hsp]
    rw [List.map_append, total_app2]
    omega
end
end Go.Proofs.YtgmpdifggaggdaaGreatDoor.Wl

namespace Go.Proofs.YtgmpdifggaggdaaGreatDoor.Wl
open Go.RowKit Go.Proofs.YtgmpdifggaggdaaGreatDoor.Fld Go.Proofs.YtgmpdifggaggdaaGreatDoor.Rc
set_option linter.unusedVariables false

theorem pl_empty (R : Nat) (hR : 35 ≤ R) : PlFs (spOpen ct0 (Dk.st0 R)).2.2.fs := by
  obtain ⟨B, hB⟩ : ∃ B, chC (.head 1 1) = B := ⟨_, rfl⟩
  have hlen := head_le 1 1 (by omega) (by omega)
  have hdec : dec B = some (.head 1 1) := by rw [← hB]; exact dec_chC _ ⟨by omega, by omega, by omega, by unfold MI; omega⟩
  rw [hB] at hlen
  have hacc : acc 1 true ct0 B = some ⟨⟨0, []⟩, [⟨1, 1, 8 + B.length⟩]⟩ := by
    unfold acc
    rw [hdec]
    simp [follows, ct0, Lg.restart]
  have hsc : scanR 1 true ct0 [B] = (⟨⟨0, []⟩, [⟨1, 1, 8 + B.length⟩]⟩, true) := by rw [scanR_some hacc, scanR]
  have hct : ctOf ⟨1, [B], 0⟩ ct0 = ⟨⟨0, []⟩, [⟨1, 1, 8 + B.length⟩]⟩ := by unfold ctOf; simp only; rw [hsc]
  have hrb : recs [B] = recd B := by rw [recs, recs, List.append_nil]
  have hpr : PlR [B] := ⟨1, 1, [], by rw [hB]; rfl, ⟨by omega, by omega, by omega, by unfold MI; omega⟩, by simp⟩
  have hD : Dsk [] ⟨1, [B], 0⟩ ct0 [(segN 1, recd B, 0)] := by
    refine ⟨by rw [← hrb]; rfl, rfl, by simp only; rw [hsc], by simp, by simp, ?_, ?_, by simp, Nat.zero_le _⟩
    · intro g hg
      simp at hg
      subst hg
      intro x hx
      simp at hx
      subst hx
      rw [recd_len] at hlen
      omega
    · intro g hg
      simp at hg
      subst hg
      simp
  obtain ⟨t0, ht0⟩ : ∃ t0 : Dk.St, (⟨R, [(segN 1, recd B, 0)], false, none, none⟩ : Dk.St) = t0 := ⟨_, rfl⟩
  have hC0 : Calm (Dk.st0 R) := ⟨rfl, rfl, rfl⟩
  have hD0 : Dsk [] ⟨1, [B], 0⟩ ct0 t0.fs := by rw [← ht0]; exact hD
  have hp0 : PlFs t0.fs := PlFs.mk hD0 fun g hg => by simp at hg; subst hg; exact hpr
  have hap : Dk.stAppend (segN 1) (recd B) (Dk.st0 R) = (0, t0) := by
    rw [cal_app hC0 (segN 1) (okN_segN 1) (recd B) (by show 0 + _ ≤ R; omega), ← ht0]
    rfl
  have hcreate : spCreate 1 ct0 (Dk.st0 R) = spSync (ctOf ⟨1, [B], 0⟩ ct0) t0 := by
    unfold spCreate
    rw [show chC (.head 1 (ct0.lg.last + 1)) = B from hB]
    have hw : spWrite (recd B) ⟨ct0.lg, ct0.segs ++ [⟨1, ct0.lg.last + 1, 0⟩]⟩ (Dk.st0 R) = (0, ctOf ⟨1, [B], 0⟩ ct0, t0) := by
      have hln : lastN ⟨ct0.lg, ct0.segs ++ [⟨1, ct0.lg.last + 1, 0⟩]⟩ = 1 := rfl
      unfold spWrite
      rw [hln, hap, hct]
      simp only [if_true]
      rw [recd_len]
      simp [ct0, addSz, Lg.last]
    rw [spRun_ok (by rw [hw]), hw, spRun_one]
  have hopen : spOpen ct0 (Dk.st0 R) = spCreate 1 ct0 (Dk.st0 R) := by
    have e1 : spFresh ct0 (Dk.st0 R) = (0, ct0, Dk.st0 R) := rfl
    have e2 : spLoad ct0 (Dk.st0 R) = (0, ct0, Dk.st0 R) := rfl
    have e3 : spShorten ct0 (Dk.st0 R) = (0, ct0, Dk.st0 R) := rfl
    have e4 : spRest ct0 (Dk.st0 R) = (0, ct0, Dk.st0 R) := rfl
    unfold spOpen
    rw [spRun_ok (by rw [e1]), e1]
    simp only
    rw [spRun_ok (by rw [e2]), e2]
    simp only
    rw [spRun_ok (by rw [e3]), e3]
    simp only
    rw [spRun_ok (by rw [e4]), e4]
    simp only
    rw [spRun_one]
    unfold spStart
    rw [if_pos (show ct0.segs = [] from rfl)]
  rw [hopen, hcreate]
  exact pl_sync hD0 hp0
/-- an empty disk is opened -/
theorem open_pl {w0 w : World} {g b : Nat} (R : Nat) (hR : 35 ≤ R) (h : Dk.Sn w0 w g b [] (Dk.st0 R)) (hB : Base w0) (lim : Nat) (h1 : 32 ≤ lim) (h2 : lim ≤ 65536) :
    Calls Tryz.prog 7 #[.pointer (some ⟨g, 0, none⟩), .int .i64 (lim : Int)] w fun e w' => e = .returned (.tuple #[.pointer (some ⟨w.heap.size, 0, none⟩), .int .i64 0]) ∧ ∃ c t, Wa w0 w.heap.size g b lim w' c t ∧ Cm R 35 (fun g => g = ⟨0, []⟩) c t ∧ c.lg = ⟨0, []⟩ ∧ PlFs t.fs := by
  obtain ⟨k1, k2, k3, k4⟩ := cm_empty R hR
  have kp := pl_empty R hR
  refine (open_any (lo := w0.heap.size) (lim := lim) h.1 (hB.below h.2.1) h.2.2 h.2.1.size hB.lt h1 h2 rfl (by simp [Dk.st0])).mono ?_
  rintro e w' ⟨hr, F', hS, hf, _⟩
  rcases hr with ⟨_, rfl⟩ | ⟨hz, _⟩
  · exact ⟨rfl, _, _, Wa.of h.2.1 h.2.2 hS hf, k3, k2, kp⟩
  · exact absurd k1 hz
/-- what Append answers and leaves -/
def AppP (w0 : World) (W g b lim R T : Nat) (l : List XE) (c : Ct) (t : Dk.St) (e : Ending) (w' : World) : Prop :=
  ∃ (z : Int) (c' : Ct) (t' : Dk.St), e = .returned (.int .i64 z) ∧ Wa w0 W g b lim w' c' t' ∧
    ((z = 1 ∧ c' = c ∧ t' = t) ∨ (z = 7 ∧ c' = c ∧ t' = t) ∨ (z = 0 ∧ (∀ x ∈ l, okX x = true) ∧ c'.lg = addAll c.lg (l.map XE.e) ∧ (∃ P, Cm R (T + cost (l.map XE.e)) P c' t') ∧ PlFs t'.fs))
theorem app_pl {w0 w : World} {W g b lim R T : Nat} {P : Lg → Prop} {c : Ct} {t : Dk.St} (h : Wa w0 W g b lim w c t) (hc : Cm R T P c t) (hp : PlFs t.fs) (hT : T ≤ 400000) (hes : c.lg.es.length ≤ 1000000) (A : Option Addr) (n cap : Nat) (l : List XE) (hr : RdX w A n l) (hn : n ≤ 100000) (hlow : ∀ x ∈ l, 0 < x.d.length → ∀ a, x.A = some a → a.block < w0.heap.size) (hcost : (∀ x ∈ l, okX x = true) → T + cost (l.map XE.e) ≤ R) :
    Calls Tryz.prog 8 #[.pointer (some ⟨W, 0, none⟩), .slice A n cap] w (AppP w0 W g b lim R T l c t) := by
  obtain ⟨⟨m, ve, vs, xs, hX⟩, hB⟩ := h
  obtain ⟨k1, L, S, k2, k3, k4⟩ := hc.few
  refine (wappend_any hX k2 (by omega) (by omega) (by omega) hes A n cap l hr hn (fun x hx hp a ha hm => by have := hlow x hx hp a ha; have := hX.low _ hm; omega)).mono ?_
  rintro e w' (⟨_, rfl, hb⟩ | ⟨_, _, rfl, hb⟩ | ⟨hok, hseq, rfl, hq⟩)
  · exact ⟨1, c, t, rfl, (Wa.below ⟨⟨m, ve, vs, xs, hX⟩, hB⟩ hb), .inl ⟨rfl, rfl, rfl⟩⟩
  · exact ⟨7, c, t, rfl, (Wa.below ⟨⟨m, ve, vs, xs, hX⟩, hB⟩ hb), .inr (.inl ⟨rfl, rfl, rfl⟩)⟩
  · have hEO : ∀ e ∈ l.map XE.e, e.Ok := by
      intro e he
      obtain ⟨x, hx, rfl⟩ := List.mem_map.1 he
      exact XE.e_ok (hok x hx) (hr.2.2.2 x hx).1.2.2.1
    obtain ⟨q1, q2, q3⟩ := hc.app lim (l.map XE.e) hX.ct.ok.1.1 hEO hseq (hcost hok)
    have hpl : PlFs (spApp lim (l.map XE.e) c t).2.2.fs := by
      obtain ⟨Fs, f, c0, h1, hcc, _, _⟩ := hc
      rw [hcc]
      exact pl_app lim _ Fs f c0 t h1 hp (by rw [← hcc]; exact hX.ct.ok.1.1) hEO (by rw [← hcc]; exact hseq)
    rcases hq with ⟨_, F', hS, hf, _⟩ | ⟨h0, _⟩
    · exact ⟨0, _, _, by rw [q1], Wa.of hB (fun i hi => hX.low i hi) hS hf, .inr (.inr ⟨rfl, hok, q2, ⟨_, q3⟩, hpl⟩)⟩
    · exact absurd q1 h0
/-- what Drop leaves -/
structure Dropd (R T : Nat) (before : Int) (es : List E) (c' : Ct) (t' : Dk.St) : Prop where
  scan : (scanD t'.fs).lg = c'.lg
  calm : Calm t'
  up : Dk.Up Prod.fst t'.fs
  fresh : Dk.fget freshN t'.fs = none
  tot : Dk.total t'.fs ≤ T
  room : t'.room = R
  few : t'.fs.length ≤ 800000
  lo : c'.lg.base = 0 ∨ (c'.lg.base : Int) + 1 ≤ before
  hi : c'.lg.base ≤ es.length
  es : c'.lg.es = es.drop c'.lg.base
/-- what Drop answers -/
def DropP (w0 : World) (W g b lim R T : Nat) (before : Int) (es : List E) (e : Ending) (w' : World) : Prop :=
  (e = .returned (.int .i64 7) ∧ Below w0.heap.size w0 w') ∨ (e = .returned (.int .i64 0) ∧ Below w0.heap.size w0 w' ∧ ∃ c' t', Wa w0 W g b lim w' c' t' ∧ Dropd R T before es c' t')
theorem drop_pl {w0 w : World} {W g b lim R T : Nat} {P : Lg → Prop} {c : Ct} {t : Dk.St} {es : List E} (h : Wa w0 W g b lim w c t) (hc : Cm R T P c t) (hp : PlFs t.fs) (hT : T ≤ 400000) (hlg : c.lg = ⟨0, es⟩) (before : Int) :
    Calls Tryz.prog 9 #[.pointer (some ⟨W, 0, none⟩), .int .i64 before] w (DropP w0 W g b lim R T before es) := by
  obtain ⟨⟨m, ve, vs, xs, hX⟩, hB⟩ := h
  obtain ⟨k1, L, S, k2, k3, k4⟩ := hc.few
  obtain ⟨Fs, f, c0, h1, rfl, h3, h4⟩ := hc
  refine (wdrop_any hX h4.calm.off (by omega) (by rw [k2, List.length_append, List.length_singleton]; omega) before).mono ?_
  rintro e w' (⟨hl, rfl, hb⟩ | ⟨hl, h0, rfl, hb⟩ | ⟨hl, h0, hq⟩)
  · exact .inl ⟨rfl, hB.trans (hb.mono hB.size)⟩
  · refine .inr ⟨rfl, hB.trans (hb.mono hB.size), _, _, Wa.below ⟨⟨m, ve, vs, xs, hX⟩, hB⟩ hb, ?_⟩
    have hcf := h1.calm_fresh
    refine ⟨?_, h4.calm, hcf.1, hcf.2, h4.tot, h4.room, by omega, .inl (by rw [hlg]), by rw [hlg]; exact Nat.zero_le _, by rw [hlg]; rfl⟩
    unfold scanD
    rw [h1.fs, segsOf_fil _ h1.num]
    have := scanS_walk (Fs ++ [f]) ct0 _ [] h1.walk h1.small
    rw [List.append_nil] at this
    rw [this]
    rfl
  · have hne : (ctOf f c0).segs ≠ [] := by rw [k2]; simp
    have hlt := needless_lt before _ hne
    obtain ⟨d, t', q1, q2, q3, q4, q5, q6, q7, q8, q9⟩ := drop_calm h1 hp h4.calm _ h0 hlt
    rw [q1] at hq
    obtain ⟨he, hq⟩ := hq
    rcases hq with ⟨_, F', hS, hf, _⟩ | ⟨hz, _⟩
    · have hwa := Wa.of hB (fun i hi => hX.low i hi) hS hf
      refine .inr ⟨he, hwa.2, _, _, hwa, ?_⟩
      obtain ⟨s, r, n1, n2⟩ := q2.next
      have hnx := needless_next before _ s r h0 (by rw [← q2.segs, n1])
      have hlow := q2.low
      have hhigh := q2.high
      have hes := q2.es
      rw [hlg] at hlow hhigh hes
      have ht := h4.tot
      refine ⟨by rw [q3], q4, q5, q6, by show Dk.total t'.fs ≤ T; omega, by show t'.room = R; rw [q8]; exact h4.room, by show t'.fs.length ≤ 800000; omega, .inr (by show (d.lg.base : Int) + 1 ≤ before; omega), ?_, ?_⟩
      · show d.lg.base ≤ es.length
        simpa [Lg.last] using hhigh
      · show d.lg.es = es.drop d.lg.base
        simpa using hes
    · exact absurd rfl hz
/-- a Wal beside another one on the same disk -/
theorem WmX.beside {lo W V g b lim : Nat} {m m2 : List Dk.Ent} {ve vs ve2 vs2 : Value} {xs ys : List EA} {w w' : World} {c c2 : Ct} {t t2 : Dk.St} (h : WmX lo W g b lim m ve vs xs w c t) (h2 : WmX lo V g b lim m2 ve2 vs2 ys w' c2 t2) (hf : Dk.Fr (g :: b :: Dk.blks m) w w') (hs : ∀ i ∈ WFt V g b m2 ve2 vs2, i ∈ g :: b :: Dk.blks m ∨ w.heap.size ≤ i) : WmX lo W g b lim m2 ve vs xs w' c t2 := by
  refine ⟨h2.im, h.ct.of (fun i hi => hf.block i (h.ct.lt i hi) (h.apart i hi)), fun i hi hm => ?_, h2.base, fun i hi => ?_, h.glo, h.lim1, h.lim2⟩
  · rcases hs i (wft_disk i hm) with h1 | h1
    · exact h.apart i hi h1
    · have := h.ct.lt i hi
      omega
  · unfold WFt at hi
    simp only [List.mem_cons, List.mem_append] at hi
    rcases hi with h1 | h1 | h1 | h1
    · exact h2.low i (wft_disk i (by simp [h1]))
    · exact h2.low i (wft_disk i (by simp [h1]))
    · exact h2.low i (wft_disk i (by simp [h1]))
    · exact h.low i (by unfold WFt; simp [h1])
/-- the disk is opened a second time -/
theorem open_two {w0 w : World} {W g b lim R T : Nat} {before : Int} {es : List E} {c : Ct} {t : Dk.St} (h : Wa w0 W g b lim w c t) (hd : Dropd R T before es c t) (hr : 2 * T + 35 ≤ R) :
    Calls Tryz.prog 7 #[.pointer (some ⟨g, 0, none⟩), .int .i64 (lim : Int)] w fun e w' => e = .returned (.tuple #[.pointer (some ⟨w.heap.size, 0, none⟩), .int .i64 0]) ∧ ∃ c2 t', Wa w0 W g b lim w' c t' ∧ Wa w0 w.heap.size g b lim w' c2 t' ∧ c2.lg = c.lg := by
  obtain ⟨⟨m, ve, vs, xs, hX⟩, hB⟩ := h
  have htot := hd.tot
  have hroom := hd.room
  obtain ⟨q1, q2⟩ := open_calm ct0 hd.calm hd.up hd.fresh (by omega) (by rw [hd.scan]; exact hX.ct.ok.1.1)
  refine (open_any (lo := w0.heap.size) (lim := lim) hX.im hX.base (fun i hi => hX.low i (wft_disk _ hi)) hX.size hX.glo hX.lim1 hX.lim2 hd.calm.off hd.few).mono ?_
  rintro e w' ⟨hr, F', hS, hf, hsub⟩
  rcases hr with ⟨_, rfl⟩ | ⟨hz, _⟩
  · obtain ⟨m2, ve2, vs2, xs2, hY, rfl⟩ := hS
    have hb := hf.to_below hB (fun i hi => hX.low i (wft_disk _ hi))
    exact ⟨rfl, _, _, ⟨⟨m2, ve, vs, xs, hX.beside hY hf hsub⟩, hb⟩, ⟨⟨m2, ve2, vs2, xs2, hY⟩, hb⟩, by rw [q2, hd.scan]⟩
  · exact absurd q1 hz
theorem getL_low {B : Nat} {es : List E} (hB : B ≤ es.length) (low : Nat) (h1 : B + 1 ≤ low) : getL ⟨B, es.drop B⟩ (low : Int) (es.length : Int) = es.drop (low - 1) := by
  unfold getL
  split
  · rename_i hc
    simp only [Lg.last, List.length_drop] at hc
    rw [List.drop_of_length_le]
    omega
  · have e : ((low : Int) - ((B : Nat) : Int) - 1).toNat = low - 1 - B := by omega
    simp only [e, Int.toNat_natCast]
    rw [List.drop_drop, show B + (low - 1 - B) = low - 1 by omega, List.take_of_length_le]
    rw [List.length_drop]
    omega
/-- 'l[k:]' -/
theorem run_fromX (b off n cap k : Nat) (hk : k < n) (hn : n ≤ cap) (hm : cap ≤ 9223372036854775807) (W : World) : (Instr.slice 22 (.slice (some ⟨b, off, none⟩) n cap) (some (.int .i64 (k : Int))) none none).run Tryz.prog W = .ok (.slice (some ⟨b, off + k * 4, none⟩) (n - k) (cap - k)) W := by
  have h0 : ¬ cap = k := by omega
  have h1 : (0 : Int) ≤ (k : Int) := by omega
  have h2 : (k : Int) ≤ (n : Int) := by omega
  have h3 : (n : Int) ≤ (cap : Int) := by omega
  go_simp
theorem RdX.drop {w : World} {b off n : Nat} {l : List XE} (h : RdX w (some ⟨b, off, none⟩) n l) (k : Nat) (hk : k < n) : RdX w (some ⟨b, off + k * 4, none⟩) (n - k) (l.drop k) := by
  have hl := h.1
  refine ⟨by rw [List.length_drop]; omega, by have := h.2.1; omega, fun hp => ?_, fun x hx => h.2.2.2 x (List.mem_of_mem_drop hx)⟩
  obtain ⟨b', off', hA, hc⟩ := h.2.2.1 (by omega)
  cases hA
  refine ⟨_, _, rfl, fun i hi j hj => ?_⟩
  rw [List.length_drop] at hi
  rw [List.getElem_drop, ← hc (k + i) (by omega) j hj]
  congr 2
  omega
end Go.Proofs.YtgmpdifggaggdaaGreatDoor.Wl

namespace Go.Proofs.YtgmpdifggaggdaaGreatDoor.Wl
open Go.RowKit Go.Proofs.YtgmpdifggaggdaaGreatDoor.Fld
set_option linter.unusedVariables false

theorem RdX.none (w : World) : RdX w none 0 [] := ⟨rfl, by unfold maxLen; omega, fun h => absurd h (Nat.lt_irrefl 0), fun x hx => by cases hx⟩
set_option maxRecDepth 100000 in
set_option maxHeartbeats 3200000 in
theorem drops_walk (lim : Int) (A : Option Addr) (n cap : Nat) (l : List XE) (before : Int) (w : World) (hB : Base w) (hr : RdX w A n l) (hnc : n ≤ cap) (hcm : cap ≤ 9223372036854775807) :
    Calls Tryz.prog 3 #[.int .i64 lim, .slice A n cap, .int .i64 before] w fun e w' => e = .returned (.bool true) ∧ Below w.heap.size w w' := by
  have HB := Lib.hid hB
  have HR := Lib.hid hr
  have HLOW := Lib.hid hr.low
  have HN := Lib.hid hr.1
  have HAW := Lib.hid (awake_any w hB)
  clear hB hr
  go_enter Tryz.func3, Tryz.ntmps3
  go_wp2_with fail
  refine HAW.out.mono ?_
  rintro e w1 ⟨rfl, hb1⟩
  have HST := Lib.hid (one_step w1 A n cap l 27 (HR.out.below hb1))
  have HB1 := Lib.hid hb1
  have HB2 := Lib.hid (hb1.alloc hb1.size (.cells #[.int .i64 0, .int .i64 0, .int .i64 0, .slice A n cap, .slice none 0 0] 27))
  clear hb1 HAW
  go_wp2_with fail
  have HM := Lib.hid (much_any _ 1 1 _ _ HST.out)
  refine HM.out.mono ?_
  rintro e w2 ⟨mb, rfl, rfl, hmu⟩
  clear HM
  obtain ⟨w2, hw2⟩ : ∃ w2, w1.alloc (.cells #[.int .i64 0, .int .i64 0, .int .i64 0, .slice A n cap, .slice none 0 0] 27) = w2 := ⟨_, rfl⟩
  rw [hw2] at HB2 HST ⊢
  clear HST HB1 hw2
  cases mb with
  | true =>
    go_wp2
    go_ret
    exact ⟨rfl, HB2.out⟩
  | false =>
  have hmu := hmu rfl
  have HMU := Lib.hid (show n ≤ 1000 ∧ (tamX l → 30 * n + dsum l ≤ 30000) from by
    obtain ⟨h1, h2⟩ := hmu
    refine ⟨h1 ⟨0, 0, 0, A, n, cap, l, none, 0, 0, []⟩ (by simp), fun ht => ?_⟩
    have h3 := h2 (by intro x hx; simp at hx; subst hx; exact ht)
    simpa [wsum, Stp.wt] using h3)
  clear hmu
  by_cases hl1 : lim < 32
  · go_wp2
    go_ret
    exact ⟨rfl, HB2.out⟩
  by_cases hl2 : 65536 < lim
  · go_wp2
    go_ret
    exact ⟨rfl, HB2.out⟩
  obtain ⟨lm, rfl⟩ : ∃ lm : Nat, lim = (lm : Int) := ⟨lim.toNat, by omega⟩
  have hm1 : 32 ≤ lm := by omega
  have hm2 : lm ≤ 65536 := by omega
  have HNW := Lib.hid (Dk.new_sn 200000 w2 (by omega) (by omega))
  go_wp2_with fail
  refine HNW.out.mono ?_
  rintro e w3 ⟨b, g, rfl, hsn⟩
  have HSN := Lib.hid (show Dk.Sn w w3 g b [] (Dk.st0 200000) from ⟨hsn.1, HB2.out.trans (hsn.2.1.mono HB2.out.size), fun i hi => by have := hsn.2.2 i hi; have := HB2.out.size; omega⟩)
  clear hsn HNW
  have HOP := Lib.hid (open_pl 200000 (by omega) HSN.out HB.out lm hm1 hm2)
  go_wp2_with fail
  refine HOP.out.mono ?_
  rintro e w4 ⟨rfl, c, t, hWa, hCm, hlg, hpl⟩
  have HWA := Lib.hid hWa
  have HCM := Lib.hid hCm
  have HLG := Lib.hid hlg
  have HPL := Lib.hid hpl
  clear hWa hCm hlg hpl HOP
  generalize w3.heap.size = W at *
  have HAP := Lib.hid (app_pl HWA.out HCM.out HPL.out (by omega) (by rw [HLG.out]; simp) A n cap l (HR.out.below HWA.out.2) (by have := HMU.out.1; omega) HLOW.out (fun hok => by
    have h1 := HMU.out.2 (fun y hy => by have := (okX_iff y).1 (hok y hy); omega)
    have h2 := HMU.out.1
    have h3 := HN.out
    rw [cost_x]
    omega))
  go_wp2_with fail
  refine HAP.out.mono ?_
  rintro e w5 ⟨z, c5, t5, rfl, hWa, hz⟩
  clear HAP
  rcases hz with ⟨rfl, rfl, rfl⟩ | ⟨rfl, rfl, rfl⟩ | ⟨rfl, hok, hlg, ⟨P5, hCm⟩, hpl⟩
  · have HDR := Lib.hid (drop_pl hWa HCM.out HPL.out (by omega) HLG.out before)
    clear hWa
    go_wp2_with fail
    refine HDR.out.mono ?_
    rintro e w6 (⟨rfl, hb6⟩ | ⟨rfl, hb6, _⟩)
    · have HBE := Lib.hid hb6
      clear hb6 HDR
      go_wp2
      go_ret
      exact ⟨rfl, HBE.out⟩
    · have HBE := Lib.hid hb6
      clear hb6 HDR
      go_wp2
      go_ret
      exact ⟨rfl, HBE.out⟩
  · have HDR := Lib.hid (drop_pl hWa HCM.out HPL.out (by omega) HLG.out before)
    clear hWa
    go_wp2_with fail
    refine HDR.out.mono ?_
    rintro e w6 (⟨rfl, hb6⟩ | ⟨rfl, hb6, _⟩)
    · have HBE := Lib.hid hb6
      clear hb6 HDR
      go_wp2
      go_ret
      exact ⟨rfl, HBE.out⟩
    · have HBE := Lib.hid hb6
      clear hb6 HDR
      go_wp2
      go_ret
      exact ⟨rfl, HBE.out⟩
  have HOK := Lib.hid hok
  obtain ⟨es, hes⟩ : ∃ es, l.map XE.e = es := ⟨_, rfl⟩
  have hel : es.length = n := by rw [← hes, List.length_map]; exact HN.out
  have hcost : cost es ≤ 88000 := by
    rw [← hes, cost_x]
    have h1 := HMU.out.2 (fun y hy => by have := (okX_iff y).1 (hok y hy); omega)
    have h2 := HMU.out.1
    have h3 := HN.out
    omega
  have HES := Lib.hid hes
  have HEL := Lib.hid hel
  have hlg2 : c5.lg = ⟨0, es⟩ := by rw [hlg, HLG.out, hes]; simp [addAll]
  rw [hes] at hCm
  have HDR := Lib.hid (drop_pl hWa hCm hpl (by omega) hlg2 before)
  have HCO := Lib.hid hcost
  clear hWa hCm hlg hlg2 hok hes hel HWA HCM HLG HPL hpl hcost
  go_wp2_with fail
  refine HDR.out.mono ?_
  rintro e w6 (⟨rfl, hb6⟩ | ⟨rfl, hb6, c6, t6, hWa, hD⟩)
  · have HBE := Lib.hid hb6
    clear hb6 HDR
    go_wp2
    go_ret
    exact ⟨rfl, HBE.out⟩
  have HWA := Lib.hid hWa
  have HD := Lib.hid hD
  clear hWa hD hb6 HDR
  have hn1 := HMU.out.1
  obtain ⟨low, hlow⟩ : ∃ low : Nat, max before 1 = (low : Int) := ⟨(max before 1).toNat, by omega⟩
  have HL1 := Lib.hid (show 1 ≤ low ∧ (before < 1 ∨ before = (low : Int)) from by omega)
  have HGE := Lib.hid (show ∀ q : Int, q = (n : Int) → Calls Tryz.prog 11 #[.pointer (some ⟨W, 0, none⟩), .int .i64 (low : Int), .int .i64 q] w6 (GetIs w6 (es.drop (low - 1))) from by
    rintro _ rfl
    obtain ⟨⟨m, ve, vs, xs, hX⟩, _⟩ := HWA.out
    have hd := HD.out
    have h1 := hd.lo
    have h2 := hd.hi
    have h3 := HEL.out
    have h4 := HL1.out
    have hlg : c6.lg = ⟨c6.lg.base, es.drop c6.lg.base⟩ := by rw [← hd.es]
    have h := wget_any hX (by rw [hd.es, List.length_drop]; omega) (low : Int) (n : Int)
    rw [hlg, ← HEL.out, getL_low h2 low (by omega)] at h
    rw [← HEL.out]
    exact h)
  by_cases hln : (low : Int) ≤ (n : Int)
  · obtain ⟨b0, off0, hA0, _⟩ := HR.out.2.2.1 (by omega)
    subst hA0
    have hsl : ∀ V : World, (Instr.slice 22 (.slice (some ⟨b0, off0, none⟩) n cap) (some (.int .i64 (max before 1 - 1))) none none).run Tryz.prog V = .ok (.slice (some ⟨b0, off0 + (low - 1) * 4, none⟩) (n - (low - 1)) (cap - (low - 1))) V := fun V => by
      have h := run_fromX b0 off0 n cap (low - 1) (by have := HL1.out; omega) hnc hcm V
      rw [show (((low - 1 : Nat) : Int)) = max before 1 - 1 by rw [hlow]; have := HL1.out; omega] at h
      exact h
    go_wp2_with fail

    refine (HGE.out _ rfl).mono ?_
    intro e w7 hge
    obtain ⟨GA, gcap, ys, rfl, hrd, hq, hb7⟩ := get_rdx hge
    have HWA7 := Lib.hid (HWA.out.below hb7)
    have HQ := Lib.hid (show ys.map XE.q = (l.drop (low - 1)).map XE.q from by rw [hq, List.map_drop, List.map_drop, qs_e HOK.out, HES.out])
    have HSA := Lib.hid (same_any GA ys.length gcap ys (some ⟨b0, off0 + (low - 1) * 4, none⟩) (n - (low - 1)) (cap - (low - 1)) (l.drop (low - 1)) w7 hrd ((HR.out.drop (low - 1) (by have := HL1.out; omega)).below HWA7.out.2))
    clear hge hrd hq hb7 HGE HWA
    go_wp2_with fail
    refine HSA.out.mono ?_
    rintro e w8 ⟨b8, rfl, hb8, hst8⟩
    have hb8 := hb8.2 HQ.out
    subst hb8
    clear hb8
    have HWA8 := Lib.hid (HWA7.out.below (still_below hst8))
    clear hst8 HSA HQ HWA7
    have HOP := Lib.hid (open_two HWA8.out HD.out (by have := HCO.out; omega))
    go_wp2_with fail
    refine HOP.out.mono ?_
    rintro e w9 ⟨rfl, c9, t9, hWa, hXa, hlg9⟩
    have HWA := Lib.hid hWa
    have HXA := Lib.hid hXa
    have HLG := Lib.hid hlg9
    clear hWa hXa hlg9 HOP HWA8
    generalize w8.heap.size = V at *
    obtain ⟨B, hBd⟩ : ∃ B, c6.lg.base = B := ⟨_, rfl⟩
    have HFX := Lib.hid (fun (v : World) (hb : Below w9.heap.size w9 v) => show Calls Tryz.prog 12 #[.pointer (some ⟨V, 0, none⟩)] v (fun e w' => e = .returned (.int .i64 ((B : Int) + 1)) ∧ v = w') from by
      obtain ⟨⟨m, ve, vs, xs, hX⟩, _⟩ := HXA.out.below hb
      have h := first_any hX
      rw [HLG.out, hBd] at h
      exact h)
    have HFW := Lib.hid (fun (v : World) (hb : Below w9.heap.size w9 v) => show Calls Tryz.prog 12 #[.pointer (some ⟨W, 0, none⟩)] v (fun e w' => e = .returned (.int .i64 ((B : Int) + 1)) ∧ v = w') from by
      obtain ⟨⟨m, ve, vs, xs, hX⟩, _⟩ := HWA.out.below hb
      have h := first_any hX
      rw [hBd] at h
      exact h)
    have HGX := Lib.hid (fun (v : World) (hb : Below w9.heap.size w9 v) => show Calls Tryz.prog 11 #[.pointer (some ⟨V, 0, none⟩), .int .i64 ((B : Int) + 1), .int .i64 10000] v (GetIs v (getL c6.lg ((B : Int) + 1) 10000)) from by
      obtain ⟨⟨m, ve, vs, xs, hX⟩, _⟩ := HXA.out.below hb
      have h := wget_any hX (by rw [HLG.out, HD.out.es, List.length_drop]; have := HEL.out; omega) ((B : Int) + 1) 10000
      rw [HLG.out] at h
      exact h)
    have HGW := Lib.hid (fun (v : World) (hb : Below w9.heap.size w9 v) => show Calls Tryz.prog 11 #[.pointer (some ⟨W, 0, none⟩), .int .i64 ((B : Int) + 1), .int .i64 10000] v (GetIs v (getL c6.lg ((B : Int) + 1) 10000)) from by
      obtain ⟨⟨m, ve, vs, xs, hX⟩, _⟩ := HWA.out.below hb
      exact wget_any hX (by rw [HD.out.es, List.length_drop]; have := HEL.out; omega) ((B : Int) + 1) 10000)
    have HLO := Lib.hid (show B + 1 ≤ low from by
      have h1 := HD.out.lo
      have h2 := HL1.out
      omega)
    have HBE := Lib.hid HWA.out.2
    clear HD HLG HWA HXA HCO HL1
    go_wp2_with fail
    refine (HFX.out _ (Below.refl _ _)).mono ?_
    rintro e w10 ⟨rfl, rfl⟩
    go_wp2_with fail
    refine (HGX.out _ (Below.refl _ _)).mono ?_
    intro e w11 hge
    obtain ⟨A1, cap1, ys1, rfl, hrd1, hq1, hb11⟩ := get_rdx hge
    have HR1 := Lib.hid hrd1
    have HQ1 := Lib.hid hq1
    have HB11 := Lib.hid hb11
    clear hge hrd1 hq1 hb11 HGX
    go_wp2_with fail
    refine (HFW.out _ HB11.out).mono ?_
    rintro e w12 ⟨rfl, rfl⟩
    go_wp2_with fail
    refine (HGW.out _ HB11.out).mono ?_
    intro e w13 hge
    obtain ⟨A2, cap2, ys2, rfl, hrd2, hq2, hb13⟩ := get_rdx hge
    have HSA := Lib.hid (same_any A1 ys1.length cap1 ys1 A2 ys2.length cap2 ys2 w13 (HR1.out.below hb13) hrd2)
    have HQ := Lib.hid (show ys1.map XE.q = ys2.map XE.q by rw [hq2]; exact HQ1.out)
    have HB13 := Lib.hid (HB11.out.trans (hb13.mono HB11.out.size))
    clear hge hrd2 hq2 hb13 HGW HQ1 HR1 HB11
    go_wp2_with fail
    refine HSA.out.mono ?_
    rintro e w14 ⟨b14, rfl, hb14, hst14⟩
    have hb14 := hb14.2 HQ.out
    subst hb14
    clear hb14
    have HB14 := Lib.hid (HB13.out.trans ((still_below hst14).mono HB13.out.size))
    clear hst14 HSA HQ HB13
    go_wp2_with fail
    refine (HFW.out _ HB14.out).mono ?_
    rintro e w15 ⟨rfl, rfl⟩
    have hlo := HLO.out
    go_wp2_with fail
    refine (HFX.out _ HB14.out).mono ?_
    rintro e w16 ⟨rfl, rfl⟩
    go_wp2_with fail
    refine (HFW.out _ HB14.out).mono ?_
    rintro e w17 ⟨rfl, rfl⟩
    have HFI := Lib.hid (HBE.out.trans (HB14.out.mono HBE.out.size))
    go_wp2
    go_ret
    exact ⟨rfl, HFI.out⟩
  · go_wp2_with fail

    refine (HGE.out _ rfl).mono ?_
    intro e w7 hge
    obtain ⟨GA, gcap, ys, rfl, hrd, hq, hb7⟩ := get_rdx hge
    have HWA7 := Lib.hid (HWA.out.below hb7)
    have HQ := Lib.hid (show ys.map XE.q = ([] : List XE).map XE.q from by rw [hq, List.drop_of_length_le (by have := HEL.out; omega)]; rfl)
    have HSA := Lib.hid (same_any GA ys.length gcap ys none 0 0 ([] : List XE) w7 hrd (RdX.none w7))
    clear hge hrd hq hb7 HGE HWA
    go_wp2_with fail
    refine HSA.out.mono ?_
    rintro e w8 ⟨b8, rfl, hb8, hst8⟩
    have hb8 := hb8.2 HQ.out
    subst hb8
    clear hb8
    have HWA8 := Lib.hid (HWA7.out.below (still_below hst8))
    clear hst8 HSA HQ HWA7
    have HOP := Lib.hid (open_two HWA8.out HD.out (by have := HCO.out; omega))
    go_wp2_with fail
    refine HOP.out.mono ?_
    rintro e w9 ⟨rfl, c9, t9, hWa, hXa, hlg9⟩
    have HWA := Lib.hid hWa
    have HXA := Lib.hid hXa
    have HLG := Lib.hid hlg9
    clear hWa hXa hlg9 HOP HWA8
    generalize w8.heap.size = V at *
    obtain ⟨B, hBd⟩ : ∃ B, c6.lg.base = B := ⟨_, rfl⟩
    have HFX := Lib.hid (fun (v : World) (hb : Below w9.heap.size w9 v) => show Calls Tryz.prog 12 #[.pointer (some ⟨V, 0, none⟩)] v (fun e w' => e = .returned (.int .i64 ((B : Int) + 1)) ∧ v = w') from by
      obtain ⟨⟨m, ve, vs, xs, hX⟩, _⟩ := HXA.out.below hb
      have h := first_any hX
      rw [HLG.out, hBd] at h
      exact h)
    have HFW := Lib.hid (fun (v : World) (hb : Below w9.heap.size w9 v) => show Calls Tryz.prog 12 #[.pointer (some ⟨W, 0, none⟩)] v (fun e w' => e = .returned (.int .i64 ((B : Int) + 1)) ∧ v = w') from by
      obtain ⟨⟨m, ve, vs, xs, hX⟩, _⟩ := HWA.out.below hb
      have h := first_any hX
      rw [hBd] at h
      exact h)
    have HGX := Lib.hid (fun (v : World) (hb : Below w9.heap.size w9 v) => show Calls Tryz.prog 11 #[.pointer (some ⟨V, 0, none⟩), .int .i64 ((B : Int) + 1), .int .i64 10000] v (GetIs v (getL c6.lg ((B : Int) + 1) 10000)) from by
      obtain ⟨⟨m, ve, vs, xs, hX⟩, _⟩ := HXA.out.below hb
      have h := wget_any hX (by rw [HLG.out, HD.out.es, List.length_drop]; have := HEL.out; omega) ((B : Int) + 1) 10000
      rw [HLG.out] at h
      exact h)
    have HGW := Lib.hid (fun (v : World) (hb : Below w9.heap.size w9 v) => show Calls Tryz.prog 11 #[.pointer (some ⟨W, 0, none⟩), .int .i64 ((B : Int) + 1), .int .i64 10000] v (GetIs v (getL c6.lg ((B : Int) + 1) 10000)) from by
      obtain ⟨⟨m, ve, vs, xs, hX⟩, _⟩ := HWA.out.below hb
      exact wget_any hX (by rw [HD.out.es, List.length_drop]; have := HEL.out; omega) ((B : Int) + 1) 10000)
    have HLO := Lib.hid (show B + 1 ≤ low from by
      have h1 := HD.out.lo
      have h2 := HL1.out
      omega)
    have HBE := Lib.hid HWA.out.2
    clear HD HLG HWA HXA HCO HL1
    go_wp2_with fail
    refine (HFX.out _ (Below.refl _ _)).mono ?_
    rintro e w10 ⟨rfl, rfl⟩
    go_wp2_with fail
    refine (HGX.out _ (Below.refl _ _)).mono ?_
    intro e w11 hge
    obtain ⟨A1, cap1, ys1, rfl, hrd1, hq1, hb11⟩ := get_rdx hge
    have HR1 := Lib.hid hrd1
    have HQ1 := Lib.hid hq1
    have HB11 := Lib.hid hb11
    clear hge hrd1 hq1 hb11 HGX
    go_wp2_with fail
    refine (HFW.out _ HB11.out).mono ?_
    rintro e w12 ⟨rfl, rfl⟩
    go_wp2_with fail
    refine (HGW.out _ HB11.out).mono ?_
    intro e w13 hge
    obtain ⟨A2, cap2, ys2, rfl, hrd2, hq2, hb13⟩ := get_rdx hge
    have HSA := Lib.hid (same_any A1 ys1.length cap1 ys1 A2 ys2.length cap2 ys2 w13 (HR1.out.below hb13) hrd2)
    have HQ := Lib.hid (show ys1.map XE.q = ys2.map XE.q by rw [hq2]; exact HQ1.out)
    have HB13 := Lib.hid (HB11.out.trans (hb13.mono HB11.out.size))
    clear hge hrd2 hq2 hb13 HGW HQ1 HR1 HB11
    go_wp2_with fail
    refine HSA.out.mono ?_
    rintro e w14 ⟨b14, rfl, hb14, hst14⟩
    have hb14 := hb14.2 HQ.out
    subst hb14
    clear hb14
    have HB14 := Lib.hid (HB13.out.trans ((still_below hst14).mono HB13.out.size))
    clear hst14 HSA HQ HB13
    go_wp2_with fail
    refine (HFW.out _ HB14.out).mono ?_
    rintro e w15 ⟨rfl, rfl⟩
    have hlo := HLO.out
    go_wp2_with fail
    refine (HFX.out _ HB14.out).mono ?_
    rintro e w16 ⟨rfl, rfl⟩
    go_wp2_with fail
    refine (HFW.out _ HB14.out).mono ?_
    rintro e w17 ⟨rfl, rfl⟩
    have HFI := Lib.hid (HBE.out.trans (HB14.out.mono HBE.out.size))
    go_wp2
    go_ret
    exact ⟨rfl, HFI.out⟩
end Go.Proofs.YtgmpdifggaggdaaGreatDoor.Wl

namespace Go.Proofs.YtgmpdifggaggdaaGreatDoor.Wl
open Go.RowKit Go.ChangeShapes Go.WideShapes Go.Deep Go.Proofs.YtgmpdifggaggdaaGreatDoor.Fld
set_option linter.unusedVariables false

theorem cell_one {α : Type} {l : List α} (j : Nat) {v : α} (h : l[j]? = some v) : (l.drop j).take 1 = [v] := by
  obtain ⟨hj, he⟩ := List.getElem?_eq_some_iff.1 h
  rw [List.drop_eq_getElem_cons hj, he]
  rfl
section
variable {H : Type} {encH : TypeId × Value → H} {w : World} {base : Nat} {spare : Nat → Bool} {held : Bool}
theorem open_bytes {fuel : Nat} {v : Value} {x : DataW H × List MemPlace} (h : DataW.trod encH Tryz.prog w base spare held fuel 45 [v] = some x) : ∃ A n cap zs, v = .slice A n cap ∧ Rd w A n zs ∧ (A = none → cap = 0) := by
  rcases open_ints Tryz.underlying45 Tryz.underlying5 (by kernel_rfl) h with ⟨hcs, _⟩ | ⟨a, l, c, zs, hcs, _, hl, hm, hz, _, hcell, hwz⟩
  · simp at hcs
    exact ⟨none, 0, 0, [], hcs, Rd.nil w, fun _ => rfl⟩
  · simp at hcs
    refine ⟨some a, l, c, zs.take l, hcs, ?_, fun h => by cases h⟩
    have hzl : l ≤ zs.length := by rw [hz]; split <;> omega
    have hzc : zs.length ≤ maxLen := by rw [hz]; split <;> omega
    exact Rd.of_cells hzl hzc rfl hcell hwz
theorem open_numsI {fuel : Nat} {v : Value} {x : DataW H × List MemPlace} (h : DataW.trod encH Tryz.prog w base spare held fuel 25 [v] = some x) : ∃ A n cap zs, v = .slice A n cap ∧ Dk.RdI w A n zs := by
  rcases open_ints Tryz.underlying25 Tryz.underlying3 (by kernel_rfl) h with ⟨hcs, _⟩ | ⟨a, l, c, zs, hcs, _, hl, hm, hz, _, hcell, hwz⟩
  · simp at hcs
    exact ⟨none, 0, 0, [], hcs, rfl, by unfold maxLen; omega, fun h => by omega⟩
  · simp at hcs
    have hzl : l ≤ zs.length := by rw [hz]; split <;> omega
    have hzc : zs.length ≤ maxLen := by rw [hz]; split <;> omega
    refine ⟨some a, l, c, zs.take l, hcs, by rw [List.length_take]; omega, by omega, fun hn => ?_⟩
    obtain ⟨b, off, spot⟩ := a
    have h0 := hcell 0 (by omega)
    have hspot : spot = none := by simpa [Addr.add] using World.cell?_spot h0
    subst hspot
    refine ⟨b, off, rfl, fun i hi => ?_⟩
    have := hcell i (by omega)
    rw [List.getD_eq_getElem?_getD, List.getElem?_take, if_pos hi, ← List.getD_eq_getElem?_getD, ← this, add_atB]
theorem cell_of {n off : Nat} {t : TypeId} {cs : List Value} {y : Option (DataW H × List MemPlace)} (hy : y.isSome = true) (hc : Tryz.prog.cellsOf t = 1) (hl : off < cs.length) (h : DataW.trod encH Tryz.prog w base spare held n t ((cs.drop off).take (Tryz.prog.cellsOf t)) = y) :
    ∃ v z, cs[off]? = some v ∧ DataW.trod encH Tryz.prog w base spare held n t [v] = some z := by
  obtain ⟨z, rfl⟩ := Option.isSome_iff_exists.1 hy
  rw [hc, cell_one off (List.getElem?_eq_getElem hl)] at h
  exact ⟨_, z, List.getElem?_eq_getElem hl, h⟩
/-- four cells that read as an entry -/
theorem open_entry {n : Nat} {cs : List Value} {x : DataW H × List MemPlace} (h : DataW.trod encH Tryz.prog w base spare held n 49 cs = some x) (hl : cs.length = 4) : ∃ y : XE, y.At w ∧ cs = y.cells := by
  obtain ⟨ys, n', _, _, _, hyl, hf⟩ := DataW.trod_struct Tryz.underlying49 h
  have hsz : ys.length = 4 := hyl
  obtain ⟨v0, z0, c0, t0⟩ := cell_of (off := 0) (t := 3) (by rw [List.getElem?_eq_getElem (by omega)]; rfl) (by kernel_rfl) (by omega) (hf 0 _ rfl)
  obtain ⟨v1, z1, c1, t1⟩ := cell_of (off := 1) (t := 3) (by rw [List.getElem?_eq_getElem (by omega)]; rfl) (by kernel_rfl) (by omega) (hf 1 _ rfl)
  obtain ⟨v2, z2, c2, t2⟩ := cell_of (off := 2) (t := 3) (by rw [List.getElem?_eq_getElem (by omega)]; rfl) (by kernel_rfl) (by omega) (hf 2 _ rfl)
  obtain ⟨v3, z3, c3, t3⟩ := cell_of (off := 3) (t := 45) (by rw [List.getElem?_eq_getElem (by omega)]; rfl) (by kernel_rfl) (by omega) (hf 3 _ rfl)
  obtain ⟨a, ha, _, _⟩ := DataW.trod_int Tryz.underlying3 t0
  obtain ⟨b, hb, _, _⟩ := DataW.trod_int Tryz.underlying3 t1
  obtain ⟨c, hc, _, _⟩ := DataW.trod_int Tryz.underlying3 t2
  obtain ⟨BA, bn, bc, bs, hbb, hbr, hbz⟩ := open_bytes t3
  simp only [List.cons.injEq, and_true] at ha hb hc
  have hbl := hbr.1
  subst hbl
  refine ⟨⟨a, b, c, bs, BA, bc⟩, ⟨hbr, hbz⟩, ?_⟩
  apply List.ext_getElem?
  intro k
  rcases k with _ | _ | _ | _ | k
  · rw [c0, ha]; rfl
  · rw [c1, hb]; rfl
  · rw [c2, hc]; rfl
  · rw [c3, hbb]; rfl
  · rw [List.getElem?_eq_none (by omega), List.getElem?_eq_none (by simp [XE.cells])]
set_option maxRecDepth 100000 in
theorem open_entries {fuel : Nat} {v : Value} {x : DataW H × List MemPlace} (h : DataW.trod encH Tryz.prog w base spare held fuel 22 [v] = some x) : ∃ A len cap ls, v = .slice A len cap ∧ RdX w A len ls := by
  rcases open_slice Tryz.underlying22 h with ⟨hcs, _⟩ | ⟨a, len, cap, m, n, D, Pl, hcs, hb, hl, hm, hmm, hx, hi⟩
  · simp at hcs
    exact ⟨none, 0, 0, [], hcs, rfl, by unfold maxLen; omega, fun h => by omega, fun x hx => by simp at hx⟩
  · simp at hcs
    have hlm : len ≤ m := by rw [hmm]; split <;> omega
    have hC : Tryz.prog.cellsOf 49 = 4 := by kernel_rfl
    have each : ∀ i, ∃ q : XE, i < len → q.At w ∧ ∀ j, j < 4 → w.cell? (a.add (i * 4 + j)) = q.cells[j]? := by
      intro i
      by_cases hil : i < len
      · obtain ⟨cs', hc, ht'⟩ := hi i (by omega)
        rw [hC] at hc
        obtain ⟨_, hcl, hat⟩ := World.cells?_some hc
        obtain ⟨q, hq, he⟩ := open_entry ht' (by omega)
        refine ⟨q, fun _ => ⟨hq, fun j hj => ?_⟩⟩
        rw [← he, ← hat j (by omega), add_add]
      · exact ⟨xe0, fun h => absurd h hil⟩
    obtain ⟨f, hf⟩ := Classical.axiomOfChoice each
    clear each
    refine ⟨some a, len, cap, (List.range len).map f, hcs, by simp, by omega, fun hp => ?_, ?_⟩
    · obtain ⟨b, off, sp⟩ := a
      have hspot : sp = none := by
        have h0 := (hf 0 hp).2 0 (by omega)
        have h1 : w.cell? ((⟨b, off, sp⟩ : Addr).add (0 * 4 + 0)) = some (.int .i64 (f 0).i) := h0
        simpa [Addr.add] using World.cell?_spot h1
      subst hspot
      refine ⟨b, off, rfl, fun i hi' j hj => ?_⟩
      simp only [List.length_map, List.length_range] at hi'
      have hq := (hf i hi').2 j hj
      rw [add_atB, ← Nat.add_assoc] at hq
      rw [hq]
      simp
    · intro q hq
      simp only [List.mem_map, List.mem_range] at hq
      obtain ⟨i, hi2, rfl⟩ := hq
      exact (hf i hi2).1
/-- five cells that read as a step -/
theorem open_step {n : Nat} {cs : List Value} {x : DataW H × List MemPlace} (h : DataW.trod encH Tryz.prog w base spare held n 27 cs = some x) (hl : cs.length = 5) : ∃ s : Stp, s.At w ∧ cs = s.cells := by
  obtain ⟨ys, n', _, _, _, hyl, hf⟩ := DataW.trod_struct Tryz.underlying27 h
  have hsz : ys.length = 5 := hyl
  obtain ⟨v0, z0, c0, t0⟩ := cell_of (off := 0) (t := 3) (by rw [List.getElem?_eq_getElem (by omega)]; rfl) (by kernel_rfl) (by omega) (hf 0 _ rfl)
  obtain ⟨v1, z1, c1, t1⟩ := cell_of (off := 1) (t := 3) (by rw [List.getElem?_eq_getElem (by omega)]; rfl) (by kernel_rfl) (by omega) (hf 1 _ rfl)
  obtain ⟨v2, z2, c2, t2⟩ := cell_of (off := 2) (t := 3) (by rw [List.getElem?_eq_getElem (by omega)]; rfl) (by kernel_rfl) (by omega) (hf 2 _ rfl)
  obtain ⟨v3, z3, c3, t3⟩ := cell_of (off := 3) (t := 22) (by rw [List.getElem?_eq_getElem (by omega)]; rfl) (by kernel_rfl) (by omega) (hf 3 _ rfl)
  obtain ⟨v4, z4, c4, t4⟩ := cell_of (off := 4) (t := 25) (by rw [List.getElem?_eq_getElem (by omega)]; rfl) (by kernel_rfl) (by omega) (hf 4 _ rfl)
  obtain ⟨a, ha, _, _⟩ := DataW.trod_int Tryz.underlying3 t0
  obtain ⟨b, hb, _, _⟩ := DataW.trod_int Tryz.underlying3 t1
  obtain ⟨c, hc, _, _⟩ := DataW.trod_int Tryz.underlying3 t2
  obtain ⟨LA, ln, lc, ls, hll, hlr⟩ := open_entries t3
  obtain ⟨KA, kn, kc, ks, hkk, hkr⟩ := open_numsI t4
  simp only [List.cons.injEq, and_true] at ha hb hc
  refine ⟨⟨a, b, c, LA, ln, lc, ls, KA, kn, kc, ks⟩, ⟨hlr, hkr⟩, ?_⟩
  apply List.ext_getElem?
  intro k
  rcases k with _ | _ | _ | _ | _ | k
  · rw [c0, ha]; rfl
  · rw [c1, hb]; rfl
  · rw [c2, hc]; rfl
  · rw [c3, hll]; rfl
  · rw [c4, hkk]; rfl
  · rw [List.getElem?_eq_none (by omega), List.getElem?_eq_none (by simp [Stp.cells])]
end
end Go.Proofs.YtgmpdifggaggdaaGreatDoor.Wl

namespace Go.Proofs.YtgmpdifggaggdaaGreatDoor.Wl
open Go.RowKit Go.ChangeShapes Go.WideShapes Go.Deep Go.Proofs.YtgmpdifggaggdaaGreatDoor.Fld
set_option linter.unusedVariables false

theorem entries_cap {H : Type} {encH : TypeId × Value → H} {w : World} {base : Nat} {spare : Nat → Bool} {held : Bool} {A : Option Addr} {n cap : Nat} {x : DataW H × List MemPlace} (h : ∃ fuel, DataW.trod encH Tryz.prog w base spare held fuel 22 [.slice A n cap] = some x) : n ≤ cap ∧ cap ≤ 9223372036854775807 := by
  obtain ⟨fuel, h⟩ := h
  rcases open_slice Tryz.underlying22 h with ⟨hcs, _⟩ | ⟨a, len, c, m, n', D, Pl, hcs, hb, hl, hm, hmm, hx, hi⟩
  · simp at hcs
    obtain ⟨_, rfl, rfl⟩ := hcs
    omega
  · simp at hcs
    obtain ⟨_, rfl, rfl⟩ := hcs
    exact ⟨hl, by unfold maxLen at hm; omega⟩
end Go.Proofs.YtgmpdifggaggdaaGreatDoor.Wl
