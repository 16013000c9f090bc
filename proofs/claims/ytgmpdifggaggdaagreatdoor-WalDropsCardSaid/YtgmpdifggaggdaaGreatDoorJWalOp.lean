/-
  Several texts in one: Layer 6: run over the parts of an opening in the program. Conditions: the Wal and its disk lie in memory (WmS), the disk is on. Layer 6: Open in the program. Conditions: the disk lies in memory (Dk.Im), with few files. Layer 6: First, Last, take and Sync in the program. Conditions: the Wal and its disk lie in memory (WmX), or it is broken (WmB). Layer 6: Sync and makeRoom in the program. Conditions: the Wal and its disk lie in memory (WmX), or it is broken (WmB). Layer 6: the closure of add, that lays an entry behind the log's others. Conditions: the Wal and its disk lie in memory (WmX); the entry is the next one.
-/
import Derived.Test.YtgmpdifggaggdaaGreatDoorJWalScA
namespace Go.Proofs.YtgmpdifggaggdaaGreatDoor.Wl
open Go.RowKit Go.Proofs.YtgmpdifggaggdaaGreatDoor.Fld
set_option linter.unusedVariables false

theorem WmS.good {lo W g b lim : Nat} {F : List Nat} {w : World} {c : Ct} {t : Dk.St} (h : WmS lo W g b lim F w c t) : Dk.Good t := by
  obtain ⟨m, ve, vs, xs, h1, _⟩ := h
  exact h1.im.good
/-- run_sp, where what a disk always is helps along -/
theorem run_spG {lo W g b lim : Nat} {F : List Nat} {w : World} (A : Option Addr) (n cap : Nat) (fs : List (Fv × Sp)) (c : Ct) (t : Dk.St) (hW : WmS lo W g b lim F w c t) (hl : fs.length = n) (hm : n ≤ maxLen)
    (hrd : RdF w A n (fs.map Prod.fst)) (hA : 0 < n → ∀ a, A = some a → a.block ∉ F) (hin : ∀ f ∈ fs, f.1.In) (Pre : Nat → Ct → Dk.St → Prop) (hp0 : Pre 0 c t)
    (hp : ∀ i f, fs[i]? = some f → ∀ c' t', Dk.Good t' → Pre i c' t' → (f.2 c' t').1 = 0 → Pre (i + 1) (f.2 c' t').2.1 (f.2 c' t').2.2)
    (hs : ∀ i f, fs[i]? = some f → ∀ F' w' c' t', WmS lo W g b lim F' w' c' t' → Dk.Fr F w w' → (∀ j ∈ F', j ∈ F ∨ w.heap.size ≤ j) → Pre i c' t' → Calls Tryz.prog f.1.k f.1.args w' (StpI lo W g b lim F' w' (f.2 c' t'))) :
    Calls Tryz.prog 15 #[.slice A n cap] w (StpI lo W g b lim F w (spRun (fs.map Prod.snd) c t)) := by
  refine (run_any A n cap (fs.map Prod.fst) w (by simp [hl]) hm
    (fun i w' => ∃ F' c' t', WmS lo W g b lim F' w' c' t' ∧ Dk.Fr F w w' ∧ (∀ j ∈ F', j ∈ F ∨ w.heap.size ≤ j) ∧ Pre i c' t' ∧ spRun ((fs.drop i).map Prod.snd) c' t' = spRun (fs.map Prod.snd) c t)
    (fun r w' => StpI lo W g b lim F w (spRun (fs.map Prod.snd) c t) (.returned (.int .i64 r)) w')
    ⟨F, c, t, hW, Dk.Fr.refl _ _, fun j hj => .inl hj, hp0, by rw [List.drop_zero]⟩
    (fun i w1 h1 => ?_) (fun f hf => ?_) (fun i f w1 hf h1 => ?_)).mono ?_
  · obtain ⟨F', c', t', _, hfr, _⟩ := h1
    exact hrd.fr hfr hA
  · rw [List.mem_map] at hf
    obtain ⟨p, hp', rfl⟩ := hf
    exact hin p hp'
  · obtain ⟨F', c', t', hW', hfr, hsub, hpre, hrun⟩ := h1
    rw [List.getElem?_map, Option.map_eq_some_iff] at hf
    obtain ⟨p, hp', rfl⟩ := hf
    have hi : i < fs.length := by
      rcases Nat.lt_or_ge i fs.length with h | h
      · exact h
      · rw [List.getElem?_eq_none h] at hp'; cases hp'
    have hd : fs.drop i = p :: fs.drop (i + 1) := by
      rw [List.drop_eq_getElem_cons hi]
      rw [List.getElem?_eq_getElem hi] at hp'
      cases hp'
      rfl
    rw [hd, List.map_cons] at hrun
    refine (hs i p hp' F' w1 c' t' hW' hfr hsub hpre).mono ?_
    rintro e w2 ⟨rfl, F2, hW2, hfr2, hsub2⟩
    refine ⟨_, rfl, fun h0 => ⟨F2, _, _, hW2, hfr.trans hfr2 hsub, fun j hj => ?_, hp i p hp' c' t' hW'.good hpre h0, by rw [← hrun, spRun_ok h0]⟩, fun h0 => ?_⟩
    · rcases hsub2 j hj with h | h
      · exact hsub j h
      · exact .inr (Nat.le_trans hfr.size h)
    · rw [← hrun, spRun_no h0]
      exact StpI.then hfr hsub ⟨rfl, F2, hW2, hfr2, hsub2⟩
  · rintro e w' ⟨r, rfl, h0, h1⟩
    by_cases hr : r = 0
    · obtain ⟨F', c', t', hW', hfr, hsub, _, hrun⟩ := h0 hr
      rw [List.drop_of_length_le (by omega), List.map_nil, spRun_nil] at hrun
      rw [← hrun, hr]
      exact ⟨rfl, F', hW', hfr, hsub⟩
    · exact h1 hr
def fvFresh (W : Nat) : Fv := ⟨16, #[.pointer (some ⟨W, 0, none⟩)], #[]⟩
def fvLoad (W : Nat) : Fv := ⟨17, #[.pointer (some ⟨W, 0, none⟩)], #[]⟩
def fvShort (W : Nat) : Fv := ⟨18, #[.pointer (some ⟨W, 0, none⟩)], #[]⟩
def fvRest (W : Nat) : Fv := ⟨19, #[.pointer (some ⟨W, 0, none⟩)], #[]⟩
def fvStart (W : Nat) : Fv := ⟨20, #[.pointer (some ⟨W, 0, none⟩)], #[]⟩
theorem fvFresh_in (W : Nat) : (fvFresh W).In := fun a w => enters_of Tryz.func16 (by kernel_rfl) rfl a w
theorem fvLoad_in (W : Nat) : (fvLoad W).In := fun a w => enters_of Tryz.func17 (by kernel_rfl) rfl a w
theorem fvShort_in (W : Nat) : (fvShort W).In := fun a w => enters_of Tryz.func18 (by kernel_rfl) rfl a w
theorem fvRest_in (W : Nat) : (fvRest W).In := fun a w => enters_of Tryz.func19 (by kernel_rfl) rfl a w
theorem fvStart_in (W : Nat) : (fvStart W).In := fun a w => enters_of Tryz.func20 (by kernel_rfl) rfl a w
def PreO (i : Nat) (c : Ct) (t : Dk.St) : Prop :=
  match i with
  | 0 => t.off = false ∧ t.fs.length ≤ 800000
  | 1 => t.off = false ∧ t.fs.length ≤ 800001
  | 2 => t.off = false ∧ t.fs.length ≤ 800001 ∧ c = scanD t.fs
  | 3 => t.fs.length ≤ 800004 ∧ c.segs.length ≤ segL t.fs
  | 4 => t.fs.length ≤ 800004 ∧ c.segs.length ≤ 800004
  | _ => True
theorem segL_le (fs : List Dk.Fil) : segL fs ≤ fs.length := by
  rw [← numsN_segL]; exact numsN_len fs
theorem openrun_any {lo W g b lim : Nat} {F : List Nat} {w : World} {c : Ct} {t : Dk.St} (hW : WmS lo W g b lim F w c t) (ho : t.off = false) (hm : t.fs.length ≤ 800000) (X : Nat)
    (hX : ∀ (i : Nat) (f : Fv), [fvFresh W, fvLoad W, fvShort W, fvRest W, fvStart W][i]? = some f → w.cell? ⟨X, i, none⟩ = some f.val) (hXF : X ∉ F) :
    Calls Tryz.prog 15 #[.slice (some ⟨X, 0, none⟩) 5 5] w (StpI lo W g b lim F w (spOpen c t)) := by
  refine run_spG (some ⟨X, 0, none⟩) 5 5 [(fvFresh W, spFresh), (fvLoad W, spLoad), (fvShort W, spShorten), (fvRest W, spRest), (fvStart W, spStart)] c t hW rfl (by unfold maxLen; omega) ⟨rfl, by unfold maxLen; omega, fun _ => ⟨X, 0, rfl, fun i f hi => by rw [Nat.zero_add]; exact hX i f hi⟩⟩ (fun _ a ha => by cases ha; exact hXF) (fun f hf => ?_) PreO ⟨ho, hm⟩ (fun i f hi c' t' hG hp hr0 => ?_) (fun i f hi F' w' c' t' hW' hfr hsub hp => ?_)
  · simp only [List.mem_cons, List.not_mem_nil, or_false] at hf
    rcases hf with rfl | rfl | rfl | rfl | rfl
    · exact fvFresh_in _
    · exact fvLoad_in _
    · exact fvShort_in _
    · exact fvRest_in _
    · exact fvStart_in _
  · rcases i with _ | _ | _ | _ | _ | i
    · simp at hi; subst hi
      obtain ⟨h1, h2⟩ := hp
      show (spFresh c' t').2.2.off = false ∧ (spFresh c' t').2.2.fs.length ≤ 800001
      change (spFresh c' t').1 = 0 at hr0
      unfold spFresh at hr0 ⊢
      split
      · rename_i hs
        rw [if_pos hs] at hr0
        have h3 := unl_le freshN t'
        exact ⟨unl_off _ _ hr0, by show (Dk.stUnlink freshN t').2.fs.length ≤ _; omega⟩
      · exact ⟨h1, by show t'.fs.length ≤ _; omega⟩
    · simp at hi; subst hi
      exact ⟨hp.1, hp.2, rfl⟩
    · simp at hi; subst hi
      obtain ⟨h1, h2, h3⟩ := hp
      obtain ⟨k1, k2, k3⟩ := short_seg (c := c') (t := t') hG.up
      have k4 := scanD_segL t'.fs
      refine ⟨by show (spShorten c' t').2.2.fs.length ≤ _; omega, ?_⟩
      show (spShorten c' t').2.1.segs.length ≤ segL (spShorten c' t').2.2.fs
      have h4 : c'.segs.length = (scanD t'.fs).segs.length := by rw [h3]
      rw [k1]
      omega
    · simp at hi; subst hi
      obtain ⟨h1, h2⟩ := hp
      obtain ⟨k1, k2⟩ := rest_seg c' ((numsN t'.fs).drop c'.segs.length) t'
      have k3 := segL_le t'.fs
      refine ⟨by show (spRest c' t').2.2.fs.length ≤ _; unfold spRest; omega, ?_⟩
      show (spRest c' t').2.1.segs.length ≤ _
      unfold spRest
      rw [k1]
      omega
    · simp at hi; subst hi; trivial
    · simp at hi
  · obtain ⟨m', ve', vs', xs', hX', rfl⟩ := hW'
    rcases i with _ | _ | _ | _ | _ | i
    · simp at hi; subst hi
      exact removeFresh_any hX' (by have := hp.2; omega)
    · simp at hi; subst hi
      exact load_any hX' hp.1 (by have := hp.2; omega)
    · simp at hi; subst hi
      obtain ⟨h1, h2, h3⟩ := hp
      have k4 := scanD_segL t'.fs
      have k5 := segL_le t'.fs
      refine shorten_any hX' (by rw [h3]; omega) (by omega) (fun s hs => ?_)
      rw [h3] at hs
      exact last_size hX'.im.good h1 s hs
    · simp at hi; subst hi
      obtain ⟨h1, h2⟩ := hp
      exact removeRest_any hX' (by omega) (by rw [numsN_segL]; exact h2)
    · simp at hi; subst hi
      exact start_any hX' (by have := hp.2; omega) (by have := hp.1; omega)
    · simp at hi
end Go.Proofs.YtgmpdifggaggdaaGreatDoor.Wl

namespace Go.Proofs.YtgmpdifggaggdaaGreatDoor.Wl
open Go.RowKit Go.Proofs.YtgmpdifggaggdaaGreatDoor.Fld
set_option linter.unusedVariables false

/-- a Wal as it is made -/
theorem WmX.make {lo g b lim : Nat} {m : List Dk.Ent} {w : World} {t : Dk.St} (h : Dk.Im w g b m t) (hB : Base w) (hlo : ∀ i ∈ g :: b :: Dk.blks m, lo ≤ i) (hw : lo ≤ w.heap.size) (hg : 0 < lo ∧ 2 < lo) (h1 : 32 ≤ lim) (h2 : lim ≤ 65536) :
    WmX lo w.heap.size g b lim m (.slice none 0 0) (.slice none 0 0) [] (w.alloc (.cells (wcs g lim ct0 (.slice none 0 0) (.slice none 0 0)) 61)) ct0 t := by
  have hal := alloc_below' w (.cells (wcs g lim ct0 (.slice none 0 0) (.slice none 0 0)) 61)
  refine ⟨h.below hal, ⟨Blk.new w _ _, rfl, rfl, rfl, rfl, ⟨rfl, .inl ⟨rfl, rfl⟩⟩, ⟨rfl, .inl ⟨rfl, rfl⟩⟩, fun x hx => by simp at hx, ct0_ok, by decide, by decide, by decide⟩, ?_, hB.below hal, ?_, hg, h1, h2⟩
  · rintro i (rfl | hi | hi | ⟨x, hx, _⟩) hm
    · exact Nat.lt_irrefl _ (h.lt _ hm)
    · cases hi
    · cases hi
    · simp at hx
  · intro i hi
    unfold WFt CtF at hi
    simp only [List.mem_cons, List.mem_append, Option.mem_toList] at hi
    rcases hi with h1 | h1 | h1 | h1 | h1 | h1
    · exact hlo i (by simp [h1])
    · exact hlo i (by simp [h1])
    · exact hlo i (by simp [h1])
    · omega
    · cases h1
    · cases h1
/-- what Open answers and leaves -/
def OpenIs (lo g b lim : Nat) (m : List Dk.Ent) (w : World) (q : Int × Ct × Dk.St) (e : Ending) (w' : World) : Prop :=
  ((q.1 = 0 ∧ e = .returned (.tuple #[.pointer (some ⟨w.heap.size, 0, none⟩), .int .i64 0])) ∨ (q.1 ≠ 0 ∧ e = .returned (.tuple #[.pointer none, .int .i64 q.1]))) ∧
  ∃ F', WmS lo w.heap.size g b lim F' w' q.2.1 q.2.2 ∧ Dk.Fr (g :: b :: Dk.blks m) w w' ∧ ∀ i ∈ F', i ∈ g :: b :: Dk.blks m ∨ w.heap.size ≤ i
set_option maxRecDepth 100000 in
set_option maxHeartbeats 3200000 in
theorem open_any {lo g b lim : Nat} {m : List Dk.Ent} {w : World} {t : Dk.St} (h : Dk.Im w g b m t) (hB : Base w) (hlo : ∀ i ∈ g :: b :: Dk.blks m, lo ≤ i) (hw : lo ≤ w.heap.size) (hg : 0 < lo ∧ 2 < lo) (h1 : 32 ≤ lim) (h2 : lim ≤ 65536) (ho : t.off = false) (hm : t.fs.length ≤ 800000) :
    Calls Tryz.prog 7 #[.pointer (some ⟨g, 0, none⟩), .int .i64 (lim : Int)] w (OpenIs lo g b lim m w (spOpen ct0 t)) := by
  have HOF := Lib.hid (Dk.off_any g b t w h.dsk)
  rw [ho] at HOF
  have hmk := WmX.make h hB hlo hw hg h1 h2
  have HMK := Lib.hid hmk
  have hA := alloc_below' w (.cells (wcs g lim ct0 (.slice none 0 0) (.slice none 0 0)) 61)
  obtain ⟨W, hW⟩ : ∃ W, w.heap.size = W := ⟨_, rfl⟩
  have HWW := Lib.hid hW
  obtain ⟨wA, hwA⟩ : ∃ wA, w.alloc (.cells (wcs g lim ct0 (.slice none 0 0) (.slice none 0 0)) 61) = wA := ⟨_, rfl⟩
  rw [hwA] at hmk hA
  rw [hW] at hmk
  have hX := alloc_below' wA (.cells #[(fvFresh W).val, (fvLoad W).val, (fvShort W).val, (fvRest W).val, (fvStart W).val] 78)
  have HXB := Lib.hid hX
  have HAB := Lib.hid hA
  have hbk := Blk.new wA #[(fvFresh W).val, (fvLoad W).val, (fvShort W).val, (fvRest W).val, (fvStart W).val] 78
  have HRUN := Lib.hid (openrun_any (w := wA.alloc (.cells #[(fvFresh W).val, (fvLoad W).val, (fvShort W).val, (fvRest W).val, (fvStart W).val] 78)) ⟨m, _, _, _, hmk.below hX, rfl⟩ ho hm wA.heap.size (fun i f hi => by
    refine hbk.cell i _ ?_
    rcases i with _ | _ | _ | _ | _ | i <;> simp at hi <;> subst hi <;> rfl) (fun hm' => by have := hmk.lt _ hm'; omega))
  have HF := Lib.hid (show ∀ i ∈ WFt W g b m (.slice none 0 0) (.slice none 0 0), i ∈ g :: b :: Dk.blks m ∨ w.heap.size ≤ i from fun i hi => by
    unfold WFt CtF at hi
    simp only [List.mem_cons, List.mem_append, Option.mem_toList] at hi
    rcases hi with h1 | h1 | h1 | h1 | h1 | h1
    · exact .inl (by simp [h1])
    · exact .inl (by simp [h1])
    · exact .inl (by simp [h1])
    · exact .inr (by omega)
    · cases h1
    · cases h1)
  have HWA := Lib.hid hwA
  unfold wcs at hwA
  have hwA' : w.alloc (.cells #[.pointer (some ⟨g, 0, none⟩), .int .i64 (lim : Int), .bool false, .int .i64 0, .slice none 0 0, .slice none 0 0] 61) = wA := hwA
  have q1 : decide ((lim : Int) < 32) = false := by simp; omega
  have q2 : decide ((65536 : Int) < (lim : Int)) = false := by simp; omega
  unfold Fv.val fvFresh fvLoad fvShort fvRest fvStart at HRUN
  obtain ⟨q, hq⟩ : ∃ q, spOpen ct0 t = q := ⟨_, rfl⟩
  rw [hq] at HRUN
  rw [hq]
  have HL := Lib.hid hwA'
  clear h hB hmk hA hX hbk hwA hwA' hq
  go_enter Tryz.func7, Tryz.ntmps7
  go_wp2_with fail
  refine HOF.out.mono ?_
  rintro e w1 ⟨rfl, rfl⟩
  go_upto_region 6 with fail
  rw [HL.out]
  go_wp2_with fail
  refine HRUN.out.mono ?_
  rintro e w8 ⟨rfl, hQ⟩
  have HQ := Lib.hid hQ
  clear hQ
  have HEND := Lib.hid (show ∃ F', WmS lo w.heap.size g b lim F' w8 q.2.1 q.2.2 ∧ Dk.Fr (g :: b :: Dk.blks m) w w8 ∧ ∀ i ∈ F', i ∈ g :: b :: Dk.blks m ∨ w.heap.size ≤ i from by
    obtain ⟨F', k1, k2, k3⟩ := HQ.out
    rw [← HWW.out] at k1
    have hsz : w.heap.size ≤ wA.heap.size := HAB.out.size
    refine ⟨F', k1, ((Dk.Fr.below HAB.out).same (Dk.Fr.below HXB.out)).trans k2 HF.out, fun i hi => ?_⟩
    rcases k3 i hi with h | h
    · exact HF.out i h
    · exact .inr (Nat.le_trans hsz (Nat.le_trans HXB.out.size h)))
  by_cases hr : q.1 = 0
  · have q3 : (q.1 != 0) = false := by simpa using hr
    have HR := Lib.hid hr
    clear hr
    go_wp2_with fail
    go_ret2
    exact ⟨.inl ⟨HR.out, by rw [HWW.out]; rfl⟩, HEND.out⟩
  · have q3 : (q.1 != 0) = true := by simpa using hr
    have HR := Lib.hid hr
    clear hr
    go_wp2_with fail
    go_ret2
    exact ⟨.inr ⟨HR.out, rfl⟩, HEND.out⟩
end Go.Proofs.YtgmpdifggaggdaaGreatDoor.Wl

namespace Go.Proofs.YtgmpdifggaggdaaGreatDoor.Wl
open Go.RowKit Go.Proofs.YtgmpdifggaggdaaGreatDoor.Fld
set_option linter.unusedVariables false

def brkC : Array Value := #[.pointer none, .int .i64 0, .bool true, .int .i64 0, .slice none 0 0, .slice none 0 0]
/-- a broken Wal, and the disk -/
structure WmB (lo W g b : Nat) (m : List Dk.Ent) (w : World) (t : Dk.St) : Prop where
  im : Dk.Im w g b m t
  blk : Blk w W brkC 61
  out : W ∉ g :: b :: Dk.blks m
  base : Base w
  low : ∀ i ∈ W :: g :: b :: Dk.blks m, lo ≤ i
theorem WmB.below {lo W g b : Nat} {m : List Dk.Ent} {w w' : World} {t : Dk.St} (h : WmB lo W g b m w t) (hb : Below w.heap.size w w') : WmB lo W g b m w' t :=
  ⟨h.im.below hb, (hb.block W h.blk.lt).trans h.blk, h.out, h.base.below hb, h.low⟩
set_option maxRecDepth 100000 in
theorem first_any {lo W g b lim : Nat} {m : List Dk.Ent} {ve vs : Value} {xs : List EA} {w : World} {c : Ct} {t : Dk.St} (h : WmX lo W g b lim m ve vs xs w c t) : Calls Tryz.prog 12 #[.pointer (some ⟨W, 0, none⟩)] w fun e w' => e = .returned (.int .i64 ((c.lg.base : Int) + 1)) ∧ w = w' := by
  have c2 := h.ct.blk.cell 2 (.bool false) rfl
  have c3 := h.ct.blk.cell 3 (.int .i64 (c.lg.base : Int)) rfl
  have hle := h.ct.ok.1.1
  unfold Lg.last MI at hle
  clear h
  go_enter Tryz.func12, Tryz.ntmps12
  go_wp2
  go_ret
  exact ⟨rfl, rfl⟩
set_option maxRecDepth 100000 in
theorem first_brk {lo W g b : Nat} {m : List Dk.Ent} {w : World} {t : Dk.St} (h : WmB lo W g b m w t) : Calls Tryz.prog 12 #[.pointer (some ⟨W, 0, none⟩)] w fun e w' => e = .returned (.int .i64 0) ∧ w = w' := by
  have c2 := h.blk.cell 2 (.bool true) rfl
  clear h
  go_enter Tryz.func12, Tryz.ntmps12
  go_wp2
  go_ret
  exact ⟨rfl, rfl⟩
set_option maxRecDepth 100000 in
theorem lastW_any {lo W g b lim : Nat} {m : List Dk.Ent} {ve vs : Value} {xs : List EA} {w : World} {c : Ct} {t : Dk.St} (h : WmX lo W g b lim m ve vs xs w c t) : Calls Tryz.prog 32 #[.pointer (some ⟨W, 0, none⟩)] w fun e w' => e = .returned (.int .i64 (c.lg.last : Int)) ∧ Still w w' := by
  obtain ⟨EA0, ec0, hve, _⟩ := row_slice h.ct.rE
  have hlen : c.lg.es.length = xs.length := by rw [h.ct.es]; simp
  have hle := h.ct.ok.1.1
  unfold Lg.last MI at hle
  have HLA := Lib.hid (show Calls Tryz.prog 24 #[.pointer (some ⟨W, 3, none⟩)] w (fun e w2 => e = .returned (.int .i64 ((c.lg.base + xs.length : Nat) : Int)) ∧ Still w w2) from last_any W 3 _ _ c.lg.base xs.length ec0 EA0 w h.ct.blk rfl (show (wcs g lim c ve vs)[3 + 1]? = some (.slice EA0 xs.length ec0) from by rw [← hve]; rfl) (by omega))
  have HE := Lib.hid (show c.lg.last = c.lg.base + xs.length by unfold Lg.last; rw [hlen])
  have c2 := h.ct.blk.cell 2 (.bool false) rfl
  obtain ⟨N, hN⟩ : ∃ N : Nat, c.lg.base + xs.length = N := ⟨_, rfl⟩
  rw [hN] at HLA HE
  clear h hve hlen hle hN
  go_enter Tryz.func32, Tryz.ntmps32
  go_wp2_with fail
  refine HLA.out.mono ?_
  rintro e w2 ⟨rfl, hst⟩
  have HST := Lib.hid hst
  clear hst
  go_wp2
  go_ret
  exact ⟨by rw [HE.out]; rfl, HST.out⟩
set_option maxRecDepth 100000 in
theorem lastW_brk {lo W g b : Nat} {m : List Dk.Ent} {w : World} {t : Dk.St} (h : WmB lo W g b m w t) : Calls Tryz.prog 32 #[.pointer (some ⟨W, 0, none⟩)] w fun e w' => e = .returned (.int .i64 0) ∧ w = w' := by
  have c2 := h.blk.cell 2 (.bool true) rfl
  clear h
  go_enter Tryz.func32, Tryz.ntmps32
  go_wp2
  go_ret
  exact ⟨rfl, rfl⟩
/-- what a method leaves: a Wal that goes on, or a broken one -/
def TakeIs (lo W g b lim : Nat) (F : List Nat) (w : World) (q : Int × Ct × Dk.St) (e : Ending) (w' : World) : Prop :=
  e = .returned (.int .i64 q.1) ∧ ((q.1 = 0 ∧ ∃ F', WmS lo W g b lim F' w' q.2.1 q.2.2 ∧ Dk.Fr F w w' ∧ ∀ i ∈ F', i ∈ F ∨ w.heap.size ≤ i) ∨ (q.1 ≠ 0 ∧ ∃ m', WmB lo W g b m' w' q.2.2 ∧ Dk.Fr F w w' ∧ ∀ i ∈ W :: g :: b :: Dk.blks m', i ∈ F ∨ w.heap.size ≤ i))
/-- the Wal is broken -/
theorem WmX.brk {lo W g b lim : Nat} {m : List Dk.Ent} {ve vs : Value} {xs : List EA} {w : World} {c : Ct} {t : Dk.St} (h : WmX lo W g b lim m ve vs xs w c t) :
    WmB lo W g b m ((((((w.setCell ⟨W, 0, none⟩ (.pointer none)).setCell ⟨W, 1, none⟩ (.int .i64 0)).setCell ⟨W, 2, none⟩ (.bool true)).setCell ⟨W, 3, none⟩ (.int .i64 0)).setCell ⟨W, 4, none⟩ (.slice none 0 0)).setCell ⟨W, 5, none⟩ (.slice none 0 0)) t ∧ Dk.Fr (WFt W g b m ve vs) w ((((((w.setCell ⟨W, 0, none⟩ (.pointer none)).setCell ⟨W, 1, none⟩ (.int .i64 0)).setCell ⟨W, 2, none⟩ (.bool true)).setCell ⟨W, 3, none⟩ (.int .i64 0)).setCell ⟨W, 4, none⟩ (.slice none 0 0)).setCell ⟨W, 5, none⟩ (.slice none 0 0)) := by
  have hWF : W ∈ WFt W g b m ve vs := by simp [WFt, CtF]
  have hfr : Dk.Fr [W] w ((((((w.setCell ⟨W, 0, none⟩ (.pointer none)).setCell ⟨W, 1, none⟩ (.int .i64 0)).setCell ⟨W, 2, none⟩ (.bool true)).setCell ⟨W, 3, none⟩ (.int .i64 0)).setCell ⟨W, 4, none⟩ (.slice none 0 0)).setCell ⟨W, 5, none⟩ (.slice none 0 0)) :=
    ((((((Dk.Fr.refl _ w).setCell _ (.inl (by simp)) _).setCell _ (.inl (by simp)) _).setCell _ (.inl (by simp)) _).setCell _ (.inl (by simp)) _).setCell _ (.inl (by simp)) _).setCell _ (.inl (by simp)) _
  have hfW := hfr.mono (S' := WFt W g b m ve vs) (fun i hi => by simp only [List.mem_singleton] at hi; rw [hi]; exact hWF)
  refine ⟨⟨h.im.of_blocks fun i hi => hfr.block i (h.im.lt i hi) (fun hm => by simp only [List.mem_singleton] at hm; subst hm; exact h.W_off hi), ?_, h.W_off, h.base_fr hfW h.low, fun i hi => ?_⟩, hfW⟩
  · exact (((((h.ct.blk.set 0 _ (by simp [wcs])).set 1 _ (by simp [wcs])).set 2 _ (by simp [wcs])).set 3 _ (by simp [wcs])).set 4 _ (by simp [wcs])).set 5 _ (by simp [wcs])
  · rcases List.mem_cons.1 hi with rfl | hi
    · exact h.low _ hWF
    · exact h.low _ (wft_disk _ hi)
set_option maxRecDepth 100000 in
set_option maxHeartbeats 1600000 in
theorem take_any {lo W g b lim : Nat} {F : List Nat} {w : World} {q : Int × Ct × Dk.St} (A : Option Addr) (n cap : Nat) (hr : Calls Tryz.prog 15 #[.slice A n cap] w (StpI lo W g b lim F w q)) :
    Calls Tryz.prog 25 #[.pointer (some ⟨W, 0, none⟩), .slice A n cap] w (TakeIs lo W g b lim F w q) := by
  have HRUN := Lib.hid hr
  clear hr
  go_enter Tryz.func25, Tryz.ntmps25
  go_wp2_with fail
  refine HRUN.out.mono ?_
  rintro e w1 ⟨rfl, hQ⟩
  have HQ := Lib.hid hQ
  clear hQ
  by_cases h0 : q.1 = 0
  · have q1 : (q.1 != 0) = false := by simpa using h0
    have H0 := Lib.hid h0
    clear h0
    go_wp2
    go_ret
    exact ⟨rfl, .inl ⟨H0.out, HQ.out⟩⟩
  · have q1 : (q.1 != 0) = true := by simpa using h0
    have H0 := Lib.hid h0
    obtain ⟨F', ⟨m', ve', vs', xs', hX, hF'⟩, hfr, hsub⟩ := HQ.out
    have HX := Lib.hid hX
    have HFR := Lib.hid hfr
    have HSUB := Lib.hid hsub
    have HF' := Lib.hid hF'
    have c0 := hX.ct.blk.cell 0 _ rfl
    have c1 := hX.ct.blk.cell 1 _ rfl
    have c2 := hX.ct.blk.cell 2 _ rfl
    have c3 := hX.ct.blk.cell 3 _ rfl
    have c4 := hX.ct.blk.cell 4 _ rfl
    have c5 := hX.ct.blk.cell 5 _ rfl
    have f0 := hX.ct.blk.free 0
    have f1 := hX.ct.blk.free 1
    have f2 := hX.ct.blk.free 2
    have f3 := hX.ct.blk.free 3
    have f4 := hX.ct.blk.free 4
    have f5 := hX.ct.blk.free 5
    clear h0 hX hF' hfr hsub
    go_wp2
    go_ret
    refine ⟨rfl, .inr ⟨H0.out, m', HX.out.brk.1, HFR.out.trans HX.out.brk.2 (fun i hi => HSUB.out i (by rw [HF'.out]; exact hi)), fun i hi => HSUB.out i ?_⟩⟩
    rw [HF'.out]
    rcases List.mem_cons.1 hi with rfl | hi
    · simp [WFt, CtF]
    · exact wft_disk _ hi
end Go.Proofs.YtgmpdifggaggdaaGreatDoor.Wl

namespace Go.Proofs.YtgmpdifggaggdaaGreatDoor.Wl
open Go.RowKit Go.Proofs.YtgmpdifggaggdaaGreatDoor.Fld
set_option linter.unusedVariables false

theorem TakeIs.then {lo W g b lim : Nat} {F F1 : List Nat} {w w1 w2 : World} {q : Int × Ct × Dk.St} {e : Ending} (hf : Dk.Fr F w w1) (hs : ∀ i ∈ F1, i ∈ F ∨ w.heap.size ≤ i) (h : TakeIs lo W g b lim F1 w1 q e w2) : TakeIs lo W g b lim F w q e w2 := by
  have hx : ∀ i, (i ∈ F1 ∨ w1.heap.size ≤ i) → i ∈ F ∨ w.heap.size ≤ i := fun i h5 => by
    rcases h5 with h5 | h5
    · exact hs i h5
    · exact .inr (Nat.le_trans hf.size h5)
  obtain ⟨h1, h2 | h2⟩ := h
  · obtain ⟨h0, F2, h2, h3, h4⟩ := h2
    exact ⟨h1, .inl ⟨h0, F2, h2, hf.trans h3 hs, fun i hi => hx i (h4 i hi)⟩⟩
  · obtain ⟨h0, m2, h2, h3, h4⟩ := h2
    exact ⟨h1, .inr ⟨h0, m2, h2, hf.trans h3 hs, fun i hi => hx i (h4 i hi)⟩⟩
/-- sync and create by run -/
theorem screate_any {lo W g b lim : Nat} {F : List Nat} {w : World} {c : Ct} {t : Dk.St} (hW : WmS lo W g b lim F w c t) {L : List Sg} {S : Sg} (hs : c.segs = L ++ [S]) (hl : L.length ≤ 890000) (hm : t.fs.length ≤ 880000) (X bw1 bn bw2 n : Nat) (hn1 : 1 ≤ n) (hn2 : n ≤ 99999999)
    (hX0 : w.cell? ⟨X, 0, none⟩ = some (syncFv bw1).val) (hX1 : w.cell? ⟨X, 1, none⟩ = some (createFv bn bw2).val) (h1 : w.cell? ⟨bw1, 0, none⟩ = some (.pointer (some ⟨W, 0, none⟩))) (h2 : w.cell? ⟨bn, 0, none⟩ = some (.int .i64 (n : Int))) (h3 : w.cell? ⟨bw2, 0, none⟩ = some (.pointer (some ⟨W, 0, none⟩)))
    (hXF : X ∉ F) (o1 : bw1 ∉ F) (o2 : bn ∉ F) (o3 : bw2 ∉ F) :
    Calls Tryz.prog 15 #[.slice (some ⟨X, 0, none⟩) 2 2] w (StpI lo W g b lim F w (spRun [spSync, spCreate n] c t)) := by
  refine run_sp (some ⟨X, 0, none⟩) 2 2 [(syncFv bw1, spSync), (createFv bn bw2, spCreate n)] c t hW rfl (by unfold maxLen; omega) ⟨rfl, by unfold maxLen; omega, fun _ => ⟨X, 0, rfl, fun i f hi => ?_⟩⟩ (fun _ a ha => by cases ha; exact hXF) (fun f hf => ?_)
    (fun i c' t' => i ≤ 1 → (c'.segs = L ++ [S] ∧ t'.fs.length ≤ 880000 + i)) (fun _ => ⟨hs, hm⟩) (fun i f hi c' t' hp hr0 => ?_) (fun i f hi F' w' c' t' hW' hfr hsub hp => ?_)
  · rcases i with _ | _ | i
    · simp at hi; subst hi; exact hX0
    · simp at hi; subst hi; exact hX1
    · simp at hi
  · simp only [List.mem_cons, List.not_mem_nil, or_false] at hf
    rcases hf with rfl | rfl
    · exact syncFv_in _
    · exact createFv_in _ _
  · rcases i with _ | _ | i
    · simp at hi
      subst hi
      intro _
      obtain ⟨e1, e4⟩ := hp (by omega)
      refine ⟨e1, ?_⟩
      show (Dk.stSync (segN (lastN c')) t').2.fs.length ≤ _
      have e6 := Dk.sync_len (segN (lastN c')) t'
      omega
    · intro hh; omega
    · simp at hi
  · have p1 := out_of o1 h1 hsub
    have p2 := out_of o2 h2 hsub
    have p3 := out_of o3 h3 hsub
    obtain ⟨m', ve', vs', xs', hX', rfl⟩ := hW'
    rcases i with _ | _ | i
    · simp at hi
      subst hi
      obtain ⟨e1, e4⟩ := hp (by omega)
      exact sync1_any hX' e1 (by omega) (by omega) bw1 (hfr.cell h1 o1) p1
    · simp at hi
      subst hi
      obtain ⟨e1, e4⟩ := hp (by omega)
      refine create1_any hX' n hn1 hn2 (by rw [e1]; simp; omega) (by omega) bn bw2 (hfr.cell h2 o2) (hfr.cell h3 o3) p2 p3
    · simp at hi
set_option maxRecDepth 100000 in
set_option maxHeartbeats 3200000 in
theorem room_any {lo W g b lim : Nat} {m : List Dk.Ent} {ve vs : Value} {xs : List EA} {w : World} {c : Ct} {t : Dk.St} (h : WmX lo W g b lim m ve vs xs w c t) {L : List Sg} {S : Sg} (hs : c.segs = L ++ [S]) (hl : L.length ≤ 890000) (hz : S.size ≤ 1099511627776) (hm : t.fs.length ≤ 880000) :
    Calls Tryz.prog 50 #[.pointer (some ⟨W, 0, none⟩)] w (StpI lo W g b lim (WFt W g b m ve vs) w (spRoom lim c t)) := by
  have HX := Lib.hid h
  have c1 := h.ct.blk.cell 1 (.int .i64 (lim : Int)) rfl
  have hno := (h.ct.ok.2 S (by rw [hs]; simp)).2.1
  obtain ⟨q, cp, hv, hc⟩ := h.lastq hs
  have HLS := Lib.hid (show Calls Tryz.prog 38 #[.pointer (some ⟨W, 3, none⟩)] w (fun e w2 => e = .returned (.pointer (some ⟨q, L.length * 3, none⟩)) ∧ Still w w2) from (lastSeg_any W 3 q (L.length + 1) cp _ _ w h.ct.blk (show (wcs g lim c ve vs)[3 + 2]? = some (.slice (some ⟨q, 0, none⟩) (L.length + 1) cp) from by rw [← hv]; rfl) (by omega) (by omega)))
  have HCS := Lib.hid (show w.cell? ⟨q, L.length * 3, none⟩ = some (.int .i64 (S.num : Int)) ∧ w.cell? ⟨q, L.length * 3 + 1, none⟩ = some (.int .i64 (S.next : Int)) ∧ w.cell? ⟨q, L.length * 3 + 2, none⟩ = some (.int .i64 (S.size : Int)) from ⟨hc 0 _ rfl, hc 1 _ rfl, hc 2 _ rfl⟩)
  have HRO := Lib.hid (show spRoom lim c t = if S.size < lim ∨ S.num = 99999999 then (0, c, t) else spRun [spSync, spCreate (S.num + 1)] c t by unfold spRoom; rw [hs, List.getLast?_append]; rfl)
  have HLIM := Lib.hid (And.intro h.lim1 h.lim2)
  have HS := Lib.hid hs
  obtain ⟨p, hp⟩ : ∃ p, L.length * 3 = p := ⟨_, rfl⟩
  rw [hp] at HLS HCS
  clear h hs hv hc hp
  obtain ⟨sz, hsz⟩ : ∃ sz : Nat, S.size = sz := ⟨_, rfl⟩
  obtain ⟨sn, hsn⟩ : ∃ sn : Nat, S.num = sn := ⟨_, rfl⟩
  have HL2 := HLIM.out
  rw [hsz, hsn] at HRO HCS
  rw [hsn] at hno
  rw [hsz] at hz
  have HNO := Lib.hid hno
  by_cases hq : sz < lim ∨ sn = 99999999
  · have HR := Lib.hid (show spRoom lim c t = (0, c, t) by rw [HRO.out, if_pos hq])
    have hend : ∀ w3, Below w.heap.size w w3 → StpI lo W g b lim (WFt W g b m ve vs) w (spRoom lim c t) (.returned (.int .i64 0)) w3 := fun w3 hb => by rw [HR.out]; exact StpI.same HX.out hb 0
    have HEND := Lib.hid hend
    clear hend
    by_cases h1 : sz < lim
    · have j1 : decide ((sz : Int) < (lim : Int)) = true := by simp; exact h1
      clear hq hno hsz hsn
      go_enter Tryz.func50, Tryz.ntmps50
      go_wp2_with fail
      refine HLS.out.mono ?_
      rintro e w2 ⟨rfl, hst⟩
      have HB := Lib.hid (still_below hst)
      have x0 := (HB.out.cell (lt_of_cell HCS.out.1)).trans HCS.out.1
      have x1 := (HB.out.cell (lt_of_cell HCS.out.2.1)).trans HCS.out.2.1
      have x2 := (HB.out.cell (lt_of_cell HCS.out.2.2)).trans HCS.out.2.2
      have c1 := (HB.out.cell (lt_of_cell c1)).trans c1
      clear hst
      go_wp2_with fail
      go_quiet (fail)
      go_wp2
      go_ret
      exact HEND.out _ (HB.out.trans ((below_drewN' _ _).mono HB.out.size))
    · have h2 : sn = 99999999 := hq.resolve_left h1
      subst h2
      have j1 : decide ((sz : Int) < (lim : Int)) = false := by simp; omega
      clear hq hno hsz hsn
      go_enter Tryz.func50, Tryz.ntmps50
      go_wp2_with fail
      refine HLS.out.mono ?_
      rintro e w2 ⟨rfl, hst⟩
      have HB := Lib.hid (still_below hst)
      have x0 := (HB.out.cell (lt_of_cell HCS.out.1)).trans HCS.out.1
      have x1 := (HB.out.cell (lt_of_cell HCS.out.2.1)).trans HCS.out.2.1
      have x2 := (HB.out.cell (lt_of_cell HCS.out.2.2)).trans HCS.out.2.2
      have c1 := (HB.out.cell (lt_of_cell c1)).trans c1
      clear hst
      go_wp2_with fail
      go_quiet (fail)
      go_wp2
      go_ret
      exact HEND.out _ (HB.out.trans ((below_drewN' _ _).mono HB.out.size))
  · have HR := Lib.hid (show spRoom lim c t = spRun [spSync, spCreate (sn + 1)] c t by rw [HRO.out, if_neg hq])
    have h1 : ¬ sz < lim := fun h => hq (.inl h)
    have h2 : sn ≠ 99999999 := fun h => hq (.inr h)
    have j1 : decide ((sz : Int) < (lim : Int)) = false := by simp; omega
    have j2 : ((sn : Int) == 99999999) = false := by rw [beq_eq_false_iff_ne]; omega
    have e1 : wrap64 ((sn : Int) + 1) = ((sn + 1 : Nat) : Int) := by unfold wrap64; omega
    have HSY := Lib.hid (fun w' => syncing_any W w')
    have HCR := Lib.hid (fun w' => creating_any W (IntKind.i64.wrap ((sn : Int) + 1)) w')
    have E2 := Lib.hid (show IntKind.i64.wrap ((sn : Int) + 1) = ((sn + 1 : Nat) : Int) from by rw [wrap_in' _ (by omega) (by omega)]; omega)
    have HOUT := Lib.hid (show ∀ i, w.heap.size ≤ i → i ∉ WFt W g b m ve vs from fun i hi hm => by have := HX.out.lt i hm; omega)
    have HRUN := Lib.hid (fun (w' : World) (hb : Below w.heap.size w w') (X bw1 bn bw2 : Nat) (hX0 : w'.cell? ⟨X, 0, none⟩ = some (syncFv bw1).val) (hX1 : w'.cell? ⟨X, 1, none⟩ = some (createFv bn bw2).val) (h1 : w'.cell? ⟨bw1, 0, none⟩ = some (.pointer (some ⟨W, 0, none⟩))) (h2 : w'.cell? ⟨bn, 0, none⟩ = some (.int .i64 ((sn + 1 : Nat) : Int))) (h3 : w'.cell? ⟨bw2, 0, none⟩ = some (.pointer (some ⟨W, 0, none⟩))) (o0 : w.heap.size ≤ X) (o1 : w.heap.size ≤ bw1) (o2 : w.heap.size ≤ bn) (o3 : w.heap.size ≤ bw2) =>
      show Calls Tryz.prog 15 #[.slice (some ⟨X, 0, none⟩) 2 2] w' (StpI lo W g b lim (WFt W g b m ve vs) w (spRoom lim c t)) from by
        rw [HR.out]
        exact (screate_any ⟨m, ve, vs, xs, HX.out.below hb, rfl⟩ HS.out hl hm X bw1 bn bw2 (sn + 1) (by omega) (by have := HNO.out; omega) hX0 hX1 h1 h2 h3 (HOUT.out _ o0) (HOUT.out _ o1) (HOUT.out _ o2) (HOUT.out _ o3)).mono (fun e w9 hq => StpI.then (Dk.Fr.below hb) (fun i hi => .inl hi) hq))
    clear hq hno hsz hsn
    go_enter Tryz.func50, Tryz.ntmps50
    go_wp2_with fail
    refine HLS.out.mono ?_
    rintro e w2 ⟨rfl, hst⟩
    have HB := Lib.hid (still_below hst)
    have x0 := (HB.out.cell (lt_of_cell HCS.out.1)).trans HCS.out.1
    have x1 := (HB.out.cell (lt_of_cell HCS.out.2.1)).trans HCS.out.2.1
    have x2 := (HB.out.cell (lt_of_cell HCS.out.2.2)).trans HCS.out.2.2
    have c1 := (HB.out.cell (lt_of_cell c1)).trans c1
    clear hst
    go_wp2_with fail
    go_quiet (fail)
    have HBD := Lib.hid (HB.out.trans ((below_drewN' w2 nq).mono HB.out.size))
    have x0 : (w2.drewN nq).cell? ⟨q, p, none⟩ = some (.int .i64 (sn : Int)) := x0
    generalize w2.drewN nq = w3 at *
    have HX0 := Lib.hid x0
    clear x1 x2 c1
    unfold Fv.val syncFv at HSY
    unfold Fv.val createFv at HCR
    go_wp2_with fail
    refine wp_region_noPanic ?_
    refine wp_region_held_drew (S := fun _ => True) (by kernel_rfl) trivial (fun hHeld => ?_)
    have hbd : Below w3.heap.size w3 w3.drew := (Below.refl _ _).drew
    have HBDR := Lib.hid hbd
    clear hbd
    have yd : w3.drew.cell? ⟨q, p, none⟩ = some (.int .i64 (sn : Int)) := x0
    refine takeL (i := 0) (v := ?_) rfl (by kernel_rfl) (by kernel_rfl) (by kernel_rfl) (fun _ _ _ h => h) (Or.inl ⟨by rfl, ?_⟩) (by assumption) ?_
    rotate_left
    · intro w' hSw
      clear hSw
      go_simp
      first | done | with_reducible rfl
    try simp only [Act.put, List.setIfInBounds_toArray, List.set_cons_zero, List.set_cons_succ]
    refine takeL (i := 2) (v := ?_) rfl (by kernel_rfl) (by kernel_rfl) (by kernel_rfl) (fun _ _ _ h => h) (Or.inl ⟨by rfl, ?_⟩) (by assumption) ?_
    rotate_left
    · intro w' hSw
      clear hSw
      go_simp
      first | done | with_reducible rfl
    try simp only [Act.put, List.setIfInBounds_toArray, List.set_cons_zero, List.set_cons_succ]
    refine takeL (i := 3) (v := ?_) rfl (by kernel_rfl) (by kernel_rfl) (by kernel_rfl) (fun _ _ _ h => h) (Or.inl ⟨by rfl, ?_⟩) (by assumption) ?_
    rotate_left
    · intro w' hSw
      clear hSw
      go_simp
      first | done | with_reducible rfl
    try simp only [Act.put, List.setIfInBounds_toArray, List.set_cons_zero, List.set_cons_succ]
    refine takeL (i := 4) (v := ?_) rfl (by kernel_rfl) (by kernel_rfl) (by kernel_rfl) (fun _ _ _ h => h) (Or.inl ⟨by rfl, ?_⟩) (by assumption) ?_
    rotate_left
    · intro w' hSw
      clear hSw
      go_simp
      first | done | with_reducible rfl
    try simp only [Act.put, List.setIfInBounds_toArray, List.set_cons_zero, List.set_cons_succ]
    refine takeL (i := 5) (v := ?_) rfl (by kernel_rfl) (by kernel_rfl) (by kernel_rfl) (fun _ _ _ h => h) (Or.inl ⟨by rfl, ?_⟩) (by assumption) ?_
    rotate_left
    · intro w' hSw
      clear hSw
      go_simp
      first | done | with_reducible rfl
    try simp only [Act.put, List.setIfInBounds_toArray, List.set_cons_zero, List.set_cons_succ]
    refine wpAnyH_ready (rs := [1, 6]) (by kernel_rfl) (by simp) ?_
    refine consL rfl (fun K hK => ?_) (consL rfl (fun K hK => ?_) AllReadyH.nil)
    · go_simp
      go_at_call 76
      refine (HSY.out _).mono ?_
      rintro e w4 ⟨bw1, rfl, hc1, hl1, hb4⟩
      have HB4 := Lib.hid (show Below w3.heap.size w3 w4 from HBDR.out.trans hb4)
      have HL1 := Lib.hid (show w3.heap.size ≤ bw1 from hl1)
      have HC1 := Lib.hid hc1
      have y0 := (HB4.out.cell (lt_of_cell HX0.out)).trans HX0.out
      clear hc1 hl1 hb4
      refine hK.out _ _ trivial (fun hHeld => ?_)
      clear hK K
      try simp only [Act.put, List.setIfInBounds_toArray, List.set_cons_zero, List.set_cons_succ]
      refine wpAnyH_ready (rs := [6]) (by kernel_rfl) (by simp) ?_
      refine consL rfl (fun K hK => ?_) AllReadyH.nil
      go_simp
      refine hK.out _ _ trivial (fun hHeld => ?_)
      clear hK K
      try simp only [Act.put, List.setIfInBounds_toArray, List.set_cons_zero, List.set_cons_succ]
      refine takeL (i := 7) (v := ?_) rfl (by kernel_rfl) (by kernel_rfl) (by kernel_rfl) (fun _ _ _ h => h) (Or.inl ⟨by rfl, ?_⟩) (by assumption) ?_
      rotate_left
      · intro w' hSw
        clear hSw
        go_simp
        first | done | with_reducible rfl
      try simp only [Act.put, List.setIfInBounds_toArray, List.set_cons_zero, List.set_cons_succ]
      refine wpAnyH_ready (rs := [8]) (by kernel_rfl) (by simp) ?_
      refine consL rfl (fun K hK => ?_) AllReadyH.nil
      go_simp
      go_at_call 49
      refine (HCR.out _).mono ?_
      rintro e w5 ⟨bn, bw2, rfl, hc2, hc3, hl2, hl3, hb5⟩
      rw [E2.out] at hc3
      have HB5 := Lib.hid (show Below w3.heap.size w3 w5 from HB4.out.trans (hb5.mono HB4.out.size))
      have HL2 := Lib.hid (And.intro (Nat.le_trans HB4.out.size hl2) (Nat.le_trans HB4.out.size hl3))
      have HC2 := Lib.hid (And.intro hc2 hc3)
      have HC15 := Lib.hid ((hb5.cell (lt_of_cell HC1.out)).trans HC1.out)
      clear hc2 hc3 hl2 hl3 hb5
      refine hK.out _ _ trivial (fun hHeld => ?_)
      clear hK K
      try simp only [Act.put, List.setIfInBounds_toArray, List.set_cons_zero, List.set_cons_succ]
      refine wpAnyH_ready (rs := [9]) (by kernel_rfl) (by simp) ?_
      refine consL rfl (fun K hK => ?_) AllReadyH.nil
      go_simp
      refine hK.out _ _ trivial (fun hHeld => ?_)
      clear hK K
      try simp only [Act.put, List.setIfInBounds_toArray, List.set_cons_zero, List.set_cons_succ]
      refine wpAnyH_ready (rs := [10]) (by kernel_rfl) (by simp) ?_
      refine consL rfl (fun K hK => ?_) AllReadyH.nil
      go_simp
      go_at_call 15
      have hA := alloc_below' w5 (.cells #[(syncFv bw1).val, (createFv bn bw2).val] 78)
      have hZ := HBD.out.size
      refine (HRUN.out (w5.alloc (.cells #[(syncFv bw1).val, (createFv bn bw2).val] 78)) (HBD.out.trans ((HB5.out.trans (hA.mono HB5.out.size)).mono hZ)) w5.heap.size bw1 bn bw2 ((Blk.new w5 _ _).cell 0 _ rfl) ((Blk.new w5 _ _).cell 1 _ rfl) ((hA.cell (lt_of_cell HC15.out)).trans HC15.out) ((hA.cell (lt_of_cell HC2.out.2)).trans HC2.out.2) ((hA.cell (lt_of_cell HC2.out.1)).trans HC2.out.1) (Nat.le_trans hZ HB5.out.size) (Nat.le_trans hZ HL1.out) (Nat.le_trans hZ HL2.out.2) (Nat.le_trans hZ HL2.out.1)).mono ?_
      rintro e w6 ⟨rfl, hQ⟩
      have HQ := Lib.hid hQ
      clear hQ hA hZ
      refine hK.out _ _ trivial (fun hHeld => ?_)
      clear hK K
      try simp only [Act.put, List.setIfInBounds_toArray, List.set_cons_zero, List.set_cons_succ]
      refine takeL (i := 11) (v := ?_) rfl (by kernel_rfl) (by kernel_rfl) (by kernel_rfl) (fun _ _ _ h => h) (Or.inl ⟨by rfl, ?_⟩) (by assumption) ?_
      rotate_left
      · intro w' hSw
        clear hSw
        go_simp
        first | done | with_reducible rfl
      try simp only [Act.put, List.setIfInBounds_toArray, List.set_cons_zero, List.set_cons_succ]
      refine wpAnyH_done (by kernel_rfl) ?_ _
      refine NoPanic.normal ?_
      go_wp2_with fail
      go_ret
      exact ⟨rfl, HQ.out⟩
    · go_simp
      refine hK.out _ _ trivial (fun hHeld => ?_)
      clear hK K
      try simp only [Act.put, List.setIfInBounds_toArray, List.set_cons_zero, List.set_cons_succ]
      refine takeL (i := 7) (v := ?_) rfl (by kernel_rfl) (by kernel_rfl) (by kernel_rfl) (fun _ _ _ h => h) (Or.inl ⟨by rfl, ?_⟩) (by assumption) ?_
      rotate_left
      · intro w' hSw
        clear hSw
        go_simp
        first | done | with_reducible rfl
      try simp only [Act.put, List.setIfInBounds_toArray, List.set_cons_zero, List.set_cons_succ]
      refine wpAnyH_ready (rs := [1]) (by kernel_rfl) (by simp) ?_
      refine consL rfl (fun K hK => ?_) AllReadyH.nil
      go_simp
      go_at_call 76
      refine (HSY.out _).mono ?_
      rintro e w4 ⟨bw1, rfl, hc1, hl1, hb4⟩
      have HB4 := Lib.hid (show Below w3.heap.size w3 w4 from HBDR.out.trans hb4)
      have HL1 := Lib.hid (show w3.heap.size ≤ bw1 from hl1)
      have HC1 := Lib.hid hc1
      have y0 := (HB4.out.cell (lt_of_cell HX0.out)).trans HX0.out
      clear hc1 hl1 hb4
      refine hK.out _ _ trivial (fun hHeld => ?_)
      clear hK K
      try simp only [Act.put, List.setIfInBounds_toArray, List.set_cons_zero, List.set_cons_succ]
      refine wpAnyH_ready (rs := [8]) (by kernel_rfl) (by simp) ?_
      refine consL rfl (fun K hK => ?_) AllReadyH.nil
      go_simp
      go_at_call 49
      refine (HCR.out _).mono ?_
      rintro e w5 ⟨bn, bw2, rfl, hc2, hc3, hl2, hl3, hb5⟩
      rw [E2.out] at hc3
      have HB5 := Lib.hid (show Below w3.heap.size w3 w5 from HB4.out.trans (hb5.mono HB4.out.size))
      have HL2 := Lib.hid (And.intro (Nat.le_trans HB4.out.size hl2) (Nat.le_trans HB4.out.size hl3))
      have HC2 := Lib.hid (And.intro hc2 hc3)
      have HC15 := Lib.hid ((hb5.cell (lt_of_cell HC1.out)).trans HC1.out)
      clear hc2 hc3 hl2 hl3 hb5
      refine hK.out _ _ trivial (fun hHeld => ?_)
      clear hK K
      try simp only [Act.put, List.setIfInBounds_toArray, List.set_cons_zero, List.set_cons_succ]
      refine wpAnyH_ready (rs := [9]) (by kernel_rfl) (by simp) ?_
      refine consL rfl (fun K hK => ?_) AllReadyH.nil
      go_simp
      refine hK.out _ _ trivial (fun hHeld => ?_)
      clear hK K
      try simp only [Act.put, List.setIfInBounds_toArray, List.set_cons_zero, List.set_cons_succ]
      refine wpAnyH_ready (rs := [10]) (by kernel_rfl) (by simp) ?_
      refine consL rfl (fun K hK => ?_) AllReadyH.nil
      go_simp
      go_at_call 15
      have hA := alloc_below' w5 (.cells #[(syncFv bw1).val, (createFv bn bw2).val] 78)
      have hZ := HBD.out.size
      refine (HRUN.out (w5.alloc (.cells #[(syncFv bw1).val, (createFv bn bw2).val] 78)) (HBD.out.trans ((HB5.out.trans (hA.mono HB5.out.size)).mono hZ)) w5.heap.size bw1 bn bw2 ((Blk.new w5 _ _).cell 0 _ rfl) ((Blk.new w5 _ _).cell 1 _ rfl) ((hA.cell (lt_of_cell HC15.out)).trans HC15.out) ((hA.cell (lt_of_cell HC2.out.2)).trans HC2.out.2) ((hA.cell (lt_of_cell HC2.out.1)).trans HC2.out.1) (Nat.le_trans hZ HB5.out.size) (Nat.le_trans hZ HL1.out) (Nat.le_trans hZ HL2.out.2) (Nat.le_trans hZ HL2.out.1)).mono ?_
      rintro e w6 ⟨rfl, hQ⟩
      have HQ := Lib.hid hQ
      clear hQ hA hZ
      refine hK.out _ _ trivial (fun hHeld => ?_)
      clear hK K
      try simp only [Act.put, List.setIfInBounds_toArray, List.set_cons_zero, List.set_cons_succ]
      refine takeL (i := 11) (v := ?_) rfl (by kernel_rfl) (by kernel_rfl) (by kernel_rfl) (fun _ _ _ h => h) (Or.inl ⟨by rfl, ?_⟩) (by assumption) ?_
      rotate_left
      · intro w' hSw
        clear hSw
        go_simp
        first | done | with_reducible rfl
      try simp only [Act.put, List.setIfInBounds_toArray, List.set_cons_zero, List.set_cons_succ]
      refine wpAnyH_done (by kernel_rfl) ?_ _
      refine NoPanic.normal ?_
      go_wp2_with fail
      go_ret
      exact ⟨rfl, HQ.out⟩
end Go.Proofs.YtgmpdifggaggdaaGreatDoor.Wl

namespace Go.Proofs.YtgmpdifggaggdaaGreatDoor.Wl
open Go.RowKit Go.Proofs.YtgmpdifggaggdaaGreatDoor.Fld
set_option linter.unusedVariables false

/-- an entry more -/
theorem WmX.addE {lo W g b lim : Nat} {m : List Dk.Ent} {ve vs v' : Value} {xs : List EA} {w w' : World} {c : Ct} {t : Dk.St} {y : EA} (h : WmX lo W g b lim m ve vs xs w c t) (hb : Blk w' W ((wcs g lim c ve vs).setIfInBounds (3 + 1) v') 61) (hr : w'.ownsRow lo 49 4 v' (xs.length + 1) (rowE (xs ++ [y])))
    (hd : DatAt w.heap.size w' y) (hf : Dk.Fr (W :: ve.ownBlock.toList) w w') (ha : v'.ownBlock = ve.ownBlock ∨ ∃ i, v'.ownBlock = some i ∧ w.heap.size ≤ i) (hok : (c.lg.add y.e).Ok) :
    WmX lo W g b lim m v' vs (xs ++ [y]) w' ⟨c.lg.add y.e, c.segs⟩ t ∧ Dk.Fr (WFt W g b m ve vs) w w' ∧ ∀ i ∈ WFt W g b m v' vs, i ∈ WFt W g b m ve vs ∨ w.heap.size ≤ i := by
  have hsz := h.size
  have hsub : ∀ i ∈ WFt W g b m v' vs, i ∈ WFt W g b m ve vs ∨ w.heap.size ≤ i := by
    intro i hi
    unfold WFt CtF at hi ⊢
    simp only [List.mem_cons, List.mem_append, Option.mem_toList] at hi ⊢
    rcases hi with h1 | h1 | h1 | h1 | h1 | h1
    · exact .inl (.inl h1)
    · exact .inl (.inr (.inl h1))
    · exact .inl (.inr (.inr (.inl h1)))
    · exact .inl (.inr (.inr (.inr (.inl h1))))
    · rcases ha with ha | ⟨j, hj, hj2⟩
      · exact .inl (.inr (.inr (.inr (.inr (.inl (by rw [← ha]; exact h1))))))
      · rw [hj] at h1; cases h1; exact .inr hj2
    · exact .inl (.inr (.inr (.inr (.inr (.inr h1)))))
  have hfrW : Dk.Fr (WFt W g b m ve vs) w w' := hf.mono fun i hi => by
    unfold WFt CtF
    simp only [List.mem_cons, List.mem_append, Option.mem_toList] at hi ⊢
    rcases hi with h1 | h1
    · exact .inr (.inr (.inr (.inl h1)))
    · exact .inr (.inr (.inr (.inr (.inl h1))))
  have hout : ∀ i ∈ g :: b :: Dk.blks m, i ∉ W :: ve.ownBlock.toList := fun i hi hm => by
    simp only [List.mem_cons, Option.mem_toList] at hm
    rcases hm with rfl | hm
    · exact h.W_off hi
    · exact h.apart i (.inr (.inl hm)) hi
  have hnew : ∀ i, w.heap.size ≤ i → i ∉ g :: b :: Dk.blks m := fun i hi hm => by have := h.im.lt i hm; omega
  refine ⟨⟨h.im.of_blocks fun i hi => hf.block i (h.im.lt i hi) (hout i hi), h.ct.added hsz hb hr hd hf hok, ?_, h.base_fr hfrW h.low, ?_, h.glo, h.lim1, h.lim2⟩, hfrW, hsub⟩
  · rintro i (h1 | h1 | h1 | ⟨x, hx, h1⟩)
    · exact h.apart i (.inl h1)
    · rcases ha with ha | ⟨j, hj, hj2⟩
      · exact h.apart i (.inr (.inl (by rw [← ha]; exact h1)))
      · rw [hj] at h1; cases h1; exact hnew _ hj2
    · exact h.apart i (.inr (.inr (.inl h1)))
    · rcases List.mem_append.1 hx with hx | hx
      · exact h.apart i (.inr (.inr (.inr ⟨x, hx, h1⟩)))
      · simp only [List.mem_singleton] at hx
        subst hx
        exact hnew _ (row_lo hd.2 i h1).1
  · intro i hi
    rcases hsub i hi with h1 | h1
    · exact h.low i h1
    · omega
def addFv (bw be : Nat) : Fv := ⟨53, #[], #[.pointer (some ⟨bw, 0, none⟩), .pointer (some ⟨be, 0, none⟩)]⟩
theorem addFv_in (bw be : Nat) : (addFv bw be).In := fun a w => enters_of Tryz.func53 (by kernel_rfl) rfl a w
set_option maxRecDepth 100000 in
set_option maxHeartbeats 1600000 in
theorem add1_any {lo W g b lim : Nat} {m : List Dk.Ent} {ve vs : Value} {xs : List EA} {w : World} {c : Ct} {t : Dk.St} (h : WmX lo W g b lim m ve vs xs w c t) (hl : c.lg.es.length ≤ 2000000) (e : E) (he : e.Ok) (hi : e.idx = c.lg.last + 1) (bw be : Nat) (A : Option Addr) (cap : Nat) (hw : w.cell? ⟨bw, 0, none⟩ = some (.pointer (some ⟨W, 0, none⟩)))
    (k0 : w.cell? ⟨be, 0, none⟩ = some (.int .i64 (e.idx : Int))) (k1 : w.cell? ⟨be, 1, none⟩ = some (.int .i64 (e.term : Int))) (k2 : w.cell? ⟨be, 2, none⟩ = some (.int .i64 (e.kind : Int))) (k3 : w.cell? ⟨be, 3, none⟩ = some (.slice A e.data.length cap)) (hr : Rd w A e.data.length e.data) (hA : A = none → cap = 0) :
    Calls Tryz.prog 53 #[.pointer (some ⟨bw, 0, none⟩), .pointer (some ⟨be, 0, none⟩)] w (StpI lo W g b lim (WFt W g b m ve vs) w (spLog (fun l => l.add e) c t)) := by
  have hdr : Below w.heap.size w w.drew := (Below.refl _ _).drew
  have hX := h.below hdr
  have HX := Lib.hid hX
  have HB := Lib.hid hdr
  have hlen : c.lg.es.length = xs.length := by rw [h.ct.es]; simp
  have HOK := Lib.hid (h.ct.ok.1.add he hi)
  have HADD := Lib.hid (add_any W 3 (wcs g lim c ve vs) 61 lo ve xs ⟨e, A, cap⟩ w.drew hX.ct.blk rfl hX.ct.t1 hX.ct.t3 hX.ct.rE hX.size (hr.below hdr) hA he.2.2.2.2.1 (by omega))
  have d0 : w.drew.cell? ⟨bw, 0, none⟩ = some (.pointer (some ⟨W, 0, none⟩)) := hw
  have d1 : w.drew.cell? ⟨be, 0, none⟩ = some (.int .i64 (e.idx : Int)) := k0
  have d2 : w.drew.cell? ⟨be, 1, none⟩ = some (.int .i64 (e.term : Int)) := k1
  have d3 : w.drew.cell? ⟨be, 2, none⟩ = some (.int .i64 (e.kind : Int)) := k2
  have d4 : w.drew.cell? ⟨be, 3, none⟩ = some (.slice A e.data.length cap) := k3
  have c3 := hX.ct.blk.cell 3 _ rfl
  unfold entV at HADD
  simp only at HADD
  obtain ⟨ei, hei⟩ : ∃ v, e.idx = v := ⟨_, rfl⟩
  obtain ⟨et, het⟩ : ∃ v, e.term = v := ⟨_, rfl⟩
  obtain ⟨ek, hek⟩ : ∃ v, e.kind = v := ⟨_, rfl⟩
  obtain ⟨dl, hdl⟩ : ∃ v, e.data.length = v := ⟨_, rfl⟩
  rw [hei] at d1 HADD
  rw [het] at d2 HADD
  rw [hek] at d3 HADD
  rw [hdl] at d4 HADD
  clear h hl he hi hw k0 k1 k2 k3 hr hdr hX hlen hei het hek hdl hA
  go_enter Tryz.func53, Tryz.ntmps53
  go_wp2_with fail
  go_still_tail 5, (by kernel_rfl)
  change wpList _ _ _ _ _ w.drew
  generalize w.drew = w4 at *
  go_wp2_with fail
  refine HADD.out.mono ?_
  rintro e5 w5 ⟨rfl, v', y, y1, y2, y3, y4, y5, y6⟩
  have HF := Lib.hid (HX.out.addE y2 y3 y4 y5 y6 (by rw [y1]; exact HOK.out))
  have HY := Lib.hid y1
  clear y1 y2 y3 y4 y5 y6
  go_wp2_with fail
  go_ret
  have hq := HF.out
  rw [HY.out] at hq
  exact StpI.then (Dk.Fr.below HB.out) (fun i hi => .inl hi) ⟨rfl, _, ⟨m, v', vs, _, hq.1, rfl⟩, hq.2.1, hq.2.2⟩
end Go.Proofs.YtgmpdifggaggdaaGreatDoor.Wl
