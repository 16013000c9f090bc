/-
  One act at both disks, whatever the act: what 'does' answers, and what becomes of both (stDo). Conditions: both lie in memory that they do not share (Pair); the act was there ahead of both.
-/
import Derived.Test.YthdpdhjhpbkhaaaDiskRefH
import Derived.Test.YthdpdhjhpbkhaaaDiskRefR
import Derived.Test.YthdpdhjhpbkhaaaDiskRefL
import Derived.Test.YthdpdhjhpbkhaaaDiskPair
import Derived.Test.YthdpdhjhpbkhaaaDiskDoesR
namespace Go.Proofs.Ythdpdhjhpbkhaaa.Dk
open Go.RowKit Go.Proofs.Ythdpdhjhpbkhaaa.Fld
set_option linter.unusedVariables false

theorem rapp_any (r : Nat) (lv : Value) (m : List Ent) (t : St) (s : ByteArray) (A : Option Addr) (n cap : Nat) (ys : List Int) (w : World) (h : Rf w r lv m t) (hm : t.fs.length ≤ 900000) (hs : s.size ≤ maxLen) (hr : Rd w A n ys) (hA : A = none → cap = 0) (hAb : 0 < n → ∀ a, A = some a → a.block ∉ rfoot r lv m) (hn : n ≤ 140737488355328) :
    Calls Try.prog 24 #[.pointer (some ⟨r, 0, none⟩), .string s, .slice A n cap] w (RDid2 w r lv m (stAppend s.data.toList ys t)) := by
  by_cases h1 : okN s.data.toList = false ∨ (chg t).1 ≠ 0 ∨ t.room < total t.fs + n
  · exact (rapp_not r lv m t s A n cap ys w h (by omega) hs hn hr.1 h1).mono fun _ _ hh => hh.two
  · simp only [not_or] at h1
    exact rapp_made r lv m t s A n cap ys w h hm hs hr hA hAb (by simpa using h1.1) (by have := h1.2.1; omega) (by have := h1.2.2; omega)
theorem fail_did (g b : Nat) (m : List Ent) (t : St) (n : Int) (w : World) (h : Im w g b m t) (hn : n ≤ 9223372036854775807) :
    Calls Try.prog 20 #[.pointer (some ⟨g, 0, none⟩), .int .i64 n] w (Did w g b m (stFail n t)) := by
  refine (fail_any g b t n w h.dsk).mono fun _ _ ⟨he, hd, hf⟩ => ⟨he, m, h.scheds hd hf ?_ ?_ ?_ ?_, hf.mono (by simp), fun _ hi => .inl hi⟩
  · unfold stFail; split <;> rfl
  · unfold stFail; split <;> rfl
  · intro k
    unfold stFail
    split
    · exact h.fl k
    · intro hk
      cases hk
      omega
  · intro k
    unfold stFail
    split
    · exact h.al k
    · exact h.al k
theorem arm_did (g b : Nat) (m : List Ent) (t : St) (n : Int) (w : World) (h : Im w g b m t) (hn : n ≤ 9223372036854775807) :
    Calls Try.prog 21 #[.pointer (some ⟨g, 0, none⟩), .int .i64 n] w (Did w g b m (stArm n t)) := by
  refine (arm_any g b t n w h.dsk).mono fun _ _ ⟨he, hd, hf⟩ => ⟨he, m, h.scheds hd hf ?_ ?_ ?_ ?_, hf.mono (by simp), fun _ hi => .inl hi⟩
  · unfold stArm; split <;> rfl
  · unfold stArm; split <;> rfl
  · intro k
    unfold stArm
    split
    · exact h.fl k
    · exact h.fl k
  · intro k
    unfold stArm
    split
    · exact h.al k
    · intro hk
      cases hk
      omega
/-- what an act makes of a disk -/
def stDo (a : Acc) (t : St) : St :=
  if a.d = 0 then (stAppend a.nm.data.toList a.bs t).2 else if a.d = 1 then (stSync a.nm.data.toList t).2 else if a.d = 2 then (stRename a.nm.data.toList a.to.data.toList t).2
  else if a.d = 3 then (stUnlink a.nm.data.toList t).2 else if a.d = 5 then (stFail a.n t).2 else if a.d = 6 then (stArm a.n t).2 else if a.d = 7 then stCrash a.ks t else t
theorem Pair.rl2 {w0 w w' : World} {g b : Nat} {m : List Ent} {t : St} {r : Nat} {lv : Value} {mr : List Ent} {tr tr' : St} (h : Pair w0 w g b m t r lv mr tr) (hL : RL2 w r lv mr tr' w') : ∃ lv' mr', Pair w0 w' g b m t r lv' mr' tr' := by
  obtain ⟨lv', mr', h1, h2, h3⟩ := hL
  refine ⟨lv', mr', ⟨⟨h.sn.1.frame h2 (fun i hi hm => h.apart i hm hi), h2.to_below h.sn.2.1 (fun i hi => h.new i hi), h.sn.2.2⟩, h1, ?_, ?_⟩⟩
  · intro i hi
    rcases h3 i hi with h4 | h4
    · exact h.new i h4
    · exact Nat.le_trans h.sn.2.1.size h4
  · intro i hi hr
    rcases h3 i hr with h4 | h4
    · exact h.apart i hi h4
    · have := h.sn.1.lt i hi; omega
def DoneP (w0 : World) (g b : Nat) (t : St) (r : Nat) (tr : St) (same : Prop) (e : Ending) (w' : World) : Prop := ∃ B m' lv' mr', e = .returned (.bool B) ∧ Pair w0 w' g b m' t r lv' mr' tr ∧ (same → B = true)
/-- the first call's word -/
def FirstP (w0 w : World) (a : Acc) (g b : Nat) (q : Int × St) (r : Nat) (lv : Value) (mr : List Ent) (tr : St) (x : Int) (w1 : World) : Prop := x = q.1 ∧ Kept w a w1 ∧ ∃ m1, Pair w0 w1 g b m1 q.2 r lv mr tr
theorem first_of {w0 w w1 : World} {a : Acc} {g b : Nat} {m : List Ent} {t : St} {r : Nat} {lv : Value} {mr : List Ent} {tr : St} {q : Int × St} {e : Ending} (h : Pair w0 (boxed w a) g b m t r lv mr tr) (hw : ∀ i ∈ g :: b :: blks m, i < w.heap.size) (hD : Did (boxed w a) g b m q e w1) : ∃ x, e = .returned (.int .i64 x) ∧ FirstP w0 w a g b q r lv mr tr x w1 := by
  obtain ⟨he, hL⟩ := hD
  refine ⟨q.1, he, rfl, ?_, h.left hL⟩
  obtain ⟨_, _, hf, _⟩ := hL
  have hsz : w.heap.size < (boxed w a).heap.size := by unfold boxed; rw [size_up]; omega
  exact (hf.block _ hsz (fun hm => by have := hw _ hm; omega)).trans (heap_alloc_new w _)
def SecondP (w0 : World) (g b : Nat) (q : Int × St) (r : Nat) (q' : Int × St) (x y : Int) (w2 : World) : Prop := x = q.1 ∧ y = q'.1 ∧ ∃ m1 lv' mr', Pair w0 w2 g b m1 q.2 r lv' mr' q'.2
theorem second_of {w0 w w1 : World} {a : Acc} {g b : Nat} {r : Nat} {lv : Value} {mr : List Ent} {tr : St} {q q' : Int × St} {x : Int} (h : FirstP w0 w a g b q r lv mr tr x w1) {e : Ending} {w2 : World} (hD : RDid2 w1 r lv mr q' e w2) : ∃ y, e = .returned (.int .i64 y) ∧ SecondP w0 g b q r q' x y w2 := by
  obtain ⟨hx, _, m1, hP⟩ := h
  obtain ⟨lv', mr', hP2⟩ := hP.rl2 hD.2
  exact ⟨q'.1, hD.1, hx, rfl, m1, lv', mr', hP2⟩
theorem both_of {w0 : World} {g b r : Nat} {q q' : Int × St} {e : Ending} {w' : World} {same : Prop} (hs : same → q = q') (h : Both (SecondP w0 g b q r q') e w') : DoneP w0 g b q.2 r q'.2 same e w' := by
  obtain ⟨x, y, he, hx, hy, m1, lv', mr', hP⟩ := h
  exact ⟨_, m1, lv', mr', he, hP, fun h => by rw [hx, hy, hs h]; simp⟩
theorem does_all {w0 w : World} {g b : Nat} {m : List Ent} {t : St} {r : Nat} {lv : Value} {mr : List Ent} {tr : St} (h : Pair w0 w g b m t r lv mr tr) (a : Acc) (ha : a.Ok w0) (hbn : a.bn ≤ 140737488355328) (hm : t.fs.length ≤ 900000) (hmr : tr.fs.length ≤ 900000) :
    Calls Try.prog 13 #[.pointer (some ⟨g, 0, none⟩), .pointer (some ⟨r, 0, none⟩), actV a] w (DoneP w0 g b (stDo a t) r (stDo a tr) (t = tr)) := by
  have hbx : Below w.heap.size w (boxed w a) := (Below.refl _ _).alloc (Nat.le_refl _) _
  have hP := h.below hbx
  have hw : ∀ i ∈ g :: b :: blks m, i < w.heap.size := h.sn.1.lt
  have hB0 : ∀ {w1 : World} {q : Int × St} {x : Int}, FirstP w0 w a g b q r lv mr tr x w1 → Below w0.heap.size w0 w1 := fun hh => by obtain ⟨_, _, m1, hp⟩ := hh; exact hp.sn.2.1
  have hRf : ∀ {w1 : World} {q : Int × St} {x : Int}, FirstP w0 w a g b q r lv mr tr x w1 → Rf w1 r lv mr tr := fun hh => by obtain ⟨_, _, m1, hp⟩ := hh; exact hp.rf
  have hno : ∀ {A : Option Addr} {n : Nat} {zs : List Int}, Rd w0 A n zs → 0 < n → ∀ c, A = some c → c.block ∉ rfoot r lv mr := by
    intro A n zs hr hn c hc hm
    obtain ⟨bb, off, e, hcell⟩ := hr.2.2.2 hn
    rw [hc] at e
    injection e with e
    have h1 := lt_of_cell (hcell 0 hn)
    have h2 := h.new _ hm
    rw [e] at h2
    simp only at h1 h2
    omega
  by_cases d0 : a.d = 0
  · have e1 : ∀ t, stDo a t = (stAppend a.nm.data.toList a.bs t).2 := fun t => by unfold stDo; rw [if_pos d0]
    rw [e1, e1]
    refine (does_append g r a w d0 (FirstP w0 w a g b (stAppend a.nm.data.toList a.bs t) r lv mr tr) (SecondP w0 g b (stAppend a.nm.data.toList a.bs t) r (stAppend a.nm.data.toList a.bs tr)) ?_ (fun x w1 hh => hh.2.1) ?_).mono fun e w' hh => both_of (fun h => by rw [h]) hh
    · exact (app_did g b m t a.nm a.BA a.bn a.bc a.bs _ hP.sn.1 (by omega) (ha.b.below hP.sn.2.1) ha.bz hbn).mono fun e w1 hh => first_of hP hw hh
    · intro x w1 hh
      exact (rapp_any r lv mr tr a.nm a.BA a.bn a.bc a.bs w1 (hRf hh) hmr ha.nm (ha.b.below (hB0 hh)) ha.bz (hno ha.b) hbn).mono fun e w2 hd => second_of hh hd
  by_cases d1 : a.d = 1
  · have e1 : ∀ t, stDo a t = (stSync a.nm.data.toList t).2 := fun t => by unfold stDo; rw [if_neg d0, if_pos d1]
    rw [e1, e1]
    refine (does_sync g r a w d1 (FirstP w0 w a g b (stSync a.nm.data.toList t) r lv mr tr) (SecondP w0 g b (stSync a.nm.data.toList t) r (stSync a.nm.data.toList tr)) ?_ (fun x w1 hh => hh.2.1) ?_).mono fun e w' hh => both_of (fun h => by rw [h]) hh
    · exact (sync_did g b m t a.nm _ hP.sn.1 (by omega)).mono fun e w1 hh => first_of hP hw hh
    · intro x w1 hh
      exact (rsync_any r lv mr tr a.nm w1 (hRf hh) (by omega) ha.nm).mono fun e w2 hd => second_of hh hd.two
  by_cases d2 : a.d = 2
  · have e1 : ∀ t, stDo a t = (stRename a.nm.data.toList a.to.data.toList t).2 := fun t => by unfold stDo; rw [if_neg d0, if_neg d1, if_pos d2]
    rw [e1, e1]
    refine (does_rename g r a w d2 (FirstP w0 w a g b (stRename a.nm.data.toList a.to.data.toList t) r lv mr tr) (SecondP w0 g b (stRename a.nm.data.toList a.to.data.toList t) r (stRename a.nm.data.toList a.to.data.toList tr)) ?_ (fun x w1 hh => hh.2.1) ?_).mono fun e w' hh => both_of (fun h => by rw [h]) hh
    · exact (ren_did g b m t a.nm a.to _ hP.sn.1 (by omega)).mono fun e w1 hh => first_of hP hw hh
    · intro x w1 hh
      exact (rren_any r lv mr tr a.nm a.to w1 (hRf hh) (by omega) ha.nm ha.to).mono fun e w2 hd => second_of hh hd.two
  by_cases d3 : a.d = 3
  · have e1 : ∀ t, stDo a t = (stUnlink a.nm.data.toList t).2 := fun t => by unfold stDo; rw [if_neg d0, if_neg d1, if_neg d2, if_pos d3]
    rw [e1, e1]
    refine (does_unlink g r a w d3 (FirstP w0 w a g b (stUnlink a.nm.data.toList t) r lv mr tr) (SecondP w0 g b (stUnlink a.nm.data.toList t) r (stUnlink a.nm.data.toList tr)) ?_ (fun x w1 hh => hh.2.1) ?_).mono fun e w' hh => both_of (fun h => by rw [h]) hh
    · exact (unl_did g b m t a.nm _ hP.sn.1).mono fun e w1 hh => first_of hP hw hh
    · intro x w1 hh
      exact (runl_any r lv mr tr a.nm w1 (hRf hh) (by omega) ha.nm).mono fun e w2 hd => second_of hh hd.two
  by_cases d5 : a.d = 5
  · have e1 : ∀ t, stDo a t = (stFail a.n t).2 := fun t => by unfold stDo; rw [if_neg d0, if_neg d1, if_neg d2, if_neg d3, if_pos d5]
    rw [e1, e1]
    refine (does_fail g r a w d5 (FirstP w0 w a g b (stFail a.n t) r lv mr tr) (SecondP w0 g b (stFail a.n t) r (stFail a.n tr)) ?_ (fun x w1 hh => hh.2.1) ?_).mono fun e w' hh => both_of (fun h => by rw [h]) hh
    · exact (fail_did g b m t a.n _ hP.sn.1 ha.n).mono fun e w1 hh => first_of hP hw hh
    · intro x w1 hh
      exact (rfail_any r lv mr tr a.n w1 (hRf hh) ha.n).mono fun e w2 hd => second_of hh hd.two
  by_cases d6 : a.d = 6
  · have e1 : ∀ t, stDo a t = (stArm a.n t).2 := fun t => by unfold stDo; rw [if_neg d0, if_neg d1, if_neg d2, if_neg d3, if_neg d5, if_pos d6]
    rw [e1, e1]
    refine (does_arm g r a w d6 (FirstP w0 w a g b (stArm a.n t) r lv mr tr) (SecondP w0 g b (stArm a.n t) r (stArm a.n tr)) ?_ (fun x w1 hh => hh.2.1) ?_).mono fun e w' hh => both_of (fun h => by rw [h]) hh
    · exact (arm_did g b m t a.n _ hP.sn.1 ha.n).mono fun e w1 hh => first_of hP hw hh
    · intro x w1 hh
      exact (rarm_any r lv mr tr a.n w1 (hRf hh) ha.n).mono fun e w2 hd => second_of hh hd.two
  by_cases d7 : a.d = 7
  · have e1 : ∀ t, stDo a t = stCrash a.ks t := fun t => by unfold stDo; rw [if_neg d0, if_neg d1, if_neg d2, if_neg d3, if_neg d5, if_neg d6, if_pos d7]
    rw [e1, e1]
    have hkno : 0 < a.kn → ∀ c, a.KA = some c → c.block < w0.heap.size := by
      intro hn c hc
      obtain ⟨bb, off, e, hcell⟩ := ha.k.2.2 hn
      rw [hc] at e
      injection e with e
      have h1 := lt_of_cell (hcell 0 hn)
      rw [e]; exact h1
    have hkb : ∀ {w1 : World}, Below w0.heap.size w0 w1 → RdI w1 a.KA a.kn a.ks := fun hb => ha.k.fr (S := []) (Fr.below hb) (fun hn c hc => by simp)
    refine (does_crash g r a w d7 (FirstP w0 w a g b (0, stCrash a.ks t) r lv mr tr 0) (fun w2 => ∃ m1 lv' mr', Pair w0 w2 g b m1 (stCrash a.ks t) r lv' mr' (stCrash a.ks tr)) ?_ (fun w1 hh => hh.2.1) ?_).mono fun e w' hh => ?_
    · refine (crash_any g b m t a.KA a.kn a.kc a.ks _ hP.sn.1 (by omega) (hkb hP.sn.2.1) (fun hn c hc hm => by have h1 := hkno hn c hc; have h2 := h.sn.2.2 _ hm; omega)).mono fun e w1 hh => ⟨hh.1, ?_⟩
      obtain ⟨x, hx, hF⟩ := first_of (q := (0, stCrash a.ks t)) (e := .returned (.int .i64 0)) hP hw ⟨rfl, hh.2⟩
      exact ⟨rfl, hF.2⟩
    · intro w1 hh
      refine (rcrash_any r lv mr tr a.KA a.kn a.kc a.ks w1 (hRf hh) (by omega) (hkb (hB0 hh)) (fun hn c hc hm => by have h1 := hkno hn c hc; have h2 := h.new _ hm; omega)).mono fun e w2 hd => ⟨hd.1, ?_⟩
      obtain ⟨_, _, m1, hp⟩ := hh
      obtain ⟨lv', mr', hp2⟩ := hp.rl2 hd.2
      exact ⟨m1, lv', mr', hp2⟩
    · obtain ⟨he, m1, lv', mr', hp⟩ := hh
      exact ⟨true, m1, lv', mr', he, hp, fun _ => rfl⟩
  · have e1 : ∀ t, stDo a t = t := fun t => by unfold stDo; rw [if_neg d0, if_neg d1, if_neg d2, if_neg d3, if_neg d5, if_neg d6, if_neg d7]
    rw [e1, e1]
    by_cases d4 : a.d = 4
    · refine (does_read g r a w d4 (stRead a.nm.data.toList t) (stRead a.nm.data.toList tr) (read_any g b m t a.nm _ hP.sn.1) (fun w1 hb => rread_any r lv mr tr a.nm w1 (hP.below hb).rf (by omega) ha.nm)).mono fun e w' hh => ?_
      obtain ⟨⟨B, he, hB⟩, hb⟩ := hh
      exact ⟨B, m, lv, mr, he, h.below hb, fun hs => hB (by rw [hs])⟩
    · refine (does_other g r a w (by omega)).mono fun e w' hh => ?_
      obtain ⟨he, rfl⟩ := hh
      exact ⟨true, m, lv, mr, he, hP, fun _ => rfl⟩
end Go.Proofs.Ythdpdhjhpbkhaaa.Dk
