/-
  Several texts in one: Layer 6: Open in the program. Conditions: the disk lies in memory (Dk.Im), with few files. Layer 6: First, Last, take and Sync in the program. Conditions: the Wal and its disk lie in memory (WmX), or it is broken (WmB). Layer 6: Sync and makeRoom in the program. Conditions: the Wal and its disk lie in memory (WmX), or it is broken (WmB). Layer 6: the closure of add, that lays an entry behind the log's others. Conditions: the Wal and its disk lie in memory (WmX); the entry is the next one. Layer 6: the three steps of add by run: room, the record, the entry itself. Conditions: the Wal and its disk lie in memory (WmX); the entry is the next one. Layer 6: add in the program. Conditions: the Wal and its disk lie in memory (WmX); the entry is the next one.
-/
import Derived.Test.YtnppomiggajhnaaGreatDoorJRecSame
namespace Go.Proofs.YtnppomiggajhnaaGreatDoor.Wl
open Go.RowKit Go.Proofs.YtnppomiggajhnaaGreatDoor.Fld
set_option linter.unusedVariables false

/-- a Wal as it is made -/
theorem WmX.make {lo g b lim : Nat} {m : List Dk.Ent} {w : World} {t : Dk.St} (h : Dk.Im w g b m t) (hB : Base w) (hlo : ∀ i ∈ g :: b :: Dk.blks m, lo ≤ i) (hw : lo ≤ w.heap.size) (hg : 0 < lo ∧ 2 < lo) (h1 : 32 ≤ lim) (h2 : lim ≤ 65536) :
    WmX lo w.heap.size g b lim m (.slice none 0 0) (.slice none 0 0) [] (w.alloc (.cells (wcs g lim ct0 (.slice none 0 0) (.slice none 0 0)) 88)) ct0 t := by
  have hal := alloc_below' w (.cells (wcs g lim ct0 (.slice none 0 0) (.slice none 0 0)) 88)
  refine ⟨h.below hal, ⟨Blk.new w _ _, rfl, rfl, rfl, rfl, ⟨rfl, .inl ⟨rfl, rfl⟩⟩, ⟨rfl, .inl ⟨rfl, rfl⟩⟩, fun x hx => by simp at hx, ct0_ok, by decide, by decide, by decide⟩, ?_, hB.below hal, ?_, hg, h1, h2⟩
  · rintro i (rfl | hi | hi | ⟨x, hx, _⟩) hm
    · exact Nat.lt_irrefl _ (h.lt _ hm)
    · cases hi
    · cases hi
    · simp at hx
  · intro i hi
    unfold WFt CtF at hi
    simp only [List.mem_cons, List.mem_append, Option.mem_toList] at hi
    rcases hi with h1 | h1 | h1 | h1 | h1 | h1
    · exact hlo i (by simp [h1])
    · exact hlo i (by simp [h1])
    · exact hlo i (by simp [h1])
    · omega
    · cases h1
    · cases h1
/-- what Open answers and leaves -/
def OpenIs (lo g b lim : Nat) (m : List Dk.Ent) (w : World) (q : Int × Ct × Dk.St) (e : Ending) (w' : World) : Prop :=
  ((q.1 = 0 ∧ e = .returned (.tuple #[.pointer (some ⟨w.heap.size, 0, none⟩), .int .i64 0])) ∨ (q.1 ≠ 0 ∧ e = .returned (.tuple #[.pointer none, .int .i64 q.1]))) ∧
  ∃ F', WmS lo w.heap.size g b lim F' w' q.2.1 q.2.2 ∧ Dk.Fr (g :: b :: Dk.blks m) w w' ∧ ∀ i ∈ F', i ∈ g :: b :: Dk.blks m ∨ w.heap.size ≤ i
set_option maxRecDepth 100000 in
set_option maxHeartbeats 3200000 in
theorem open_any {lo g b lim : Nat} {m : List Dk.Ent} {w : World} {t : Dk.St} (h : Dk.Im w g b m t) (hB : Base w) (hlo : ∀ i ∈ g :: b :: Dk.blks m, lo ≤ i) (hw : lo ≤ w.heap.size) (hg : 0 < lo ∧ 2 < lo) (h1 : 32 ≤ lim) (h2 : lim ≤ 65536) (ho : t.off = false) (hm : t.fs.length ≤ 800000) :
    Calls Tryz.prog 13 #[.pointer (some ⟨g, 0, none⟩), .int .i64 (lim : Int)] w (OpenIs lo g b lim m w (spOpen ct0 t)) := by
  have HOF := Lib.hid (Dk.off_any g b t w h.dsk)
  rw [ho] at HOF
  have hmk := WmX.make h hB hlo hw hg h1 h2
  have HMK := Lib.hid hmk
  have hA := alloc_below' w (.cells (wcs g lim ct0 (.slice none 0 0) (.slice none 0 0)) 88)
  obtain ⟨W, hW⟩ : ∃ W, w.heap.size = W := ⟨_, rfl⟩
  have HWW := Lib.hid hW
  obtain ⟨wA, hwA⟩ : ∃ wA, w.alloc (.cells (wcs g lim ct0 (.slice none 0 0) (.slice none 0 0)) 88) = wA := ⟨_, rfl⟩
  rw [hwA] at hmk hA
  rw [hW] at hmk
  have hX := alloc_below' wA (.cells #[(fvFresh W).val, (fvLoad W).val, (fvShort W).val, (fvRest W).val, (fvStart W).val] 102)
  have HXB := Lib.hid hX
  have HAB := Lib.hid hA
  have hbk := Blk.new wA #[(fvFresh W).val, (fvLoad W).val, (fvShort W).val, (fvRest W).val, (fvStart W).val] 102
  have HRUN := Lib.hid (openrun_any (w := wA.alloc (.cells #[(fvFresh W).val, (fvLoad W).val, (fvShort W).val, (fvRest W).val, (fvStart W).val] 102)) ⟨m, _, _, _, hmk.below hX, rfl⟩ ho hm wA.heap.size (fun i f hi => by
    refine hbk.cell i _ ?_
    rcases i with _ | _ | _ | _ | _ | i <;> simp at hi <;> subst hi <;> rfl) (fun hm' => by have := hmk.lt _ hm'; omega))
  have HF := Lib.hid (show ∀ i ∈ WFt W g b m (.slice none 0 0) (.slice none 0 0), i ∈ g :: b :: Dk.blks m ∨ w.heap.size ≤ i from fun i hi => by
    unfold WFt CtF at hi
    simp only [List.mem_cons, List.mem_append, Option.mem_toList] at hi
    rcases hi with h1 | h1 | h1 | h1 | h1 | h1
    · exact .inl (by simp [h1])
    · exact .inl (by simp [h1])
    · exact .inl (by simp [h1])
    · exact .inr (by omega)
    · cases h1
    · cases h1)
  have HWA := Lib.hid hwA
  unfold wcs at hwA
  have hwA' : w.alloc (.cells #[.pointer (some ⟨g, 0, none⟩), .int .i64 (lim : Int), .bool false, .int .i64 0, .slice none 0 0, .slice none 0 0] 88) = wA := hwA
  have q1 : decide ((lim : Int) < 32) = false := by simp; omega
  have q2 : decide ((65536 : Int) < (lim : Int)) = false := by simp; omega
  unfold Fv.val fvFresh fvLoad fvShort fvRest fvStart at HRUN
  obtain ⟨q, hq⟩ : ∃ q, spOpen ct0 t = q := ⟨_, rfl⟩
  rw [hq] at HRUN
  rw [hq]
  have HL := Lib.hid hwA'
  clear h hB hmk hA hX hbk hwA hwA' hq
  go_enter Tryz.func13, Tryz.ntmps13
  go_wp2_with fail
  refine HOF.out.mono ?_
  rintro e w1 ⟨rfl, rfl⟩
  go_upto_region 6 with fail
  rw [HL.out]
  go_wp2_with fail
  refine HRUN.out.mono ?_
  rintro e w8 ⟨rfl, hQ⟩
  have HQ := Lib.hid hQ
  clear hQ
  have HEND := Lib.hid (show ∃ F', WmS lo w.heap.size g b lim F' w8 q.2.1 q.2.2 ∧ Dk.Fr (g :: b :: Dk.blks m) w w8 ∧ ∀ i ∈ F', i ∈ g :: b :: Dk.blks m ∨ w.heap.size ≤ i from by
    obtain ⟨F', k1, k2, k3⟩ := HQ.out
    rw [← HWW.out] at k1
    have hsz : w.heap.size ≤ wA.heap.size := HAB.out.size
    refine ⟨F', k1, ((Dk.Fr.below HAB.out).same (Dk.Fr.below HXB.out)).trans k2 HF.out, fun i hi => ?_⟩
    rcases k3 i hi with h | h
    · exact HF.out i h
    · exact .inr (Nat.le_trans hsz (Nat.le_trans HXB.out.size h)))
  by_cases hr : q.1 = 0
  · have q3 : (q.1 != 0) = false := by simpa using hr
    have HR := Lib.hid hr
    clear hr
    go_wp2_with fail
    go_ret2
    exact ⟨.inl ⟨HR.out, by rw [HWW.out]; rfl⟩, HEND.out⟩
  · have q3 : (q.1 != 0) = true := by simpa using hr
    have HR := Lib.hid hr
    clear hr
    go_wp2_with fail
    go_ret2
    exact ⟨.inr ⟨HR.out, rfl⟩, HEND.out⟩
end Go.Proofs.YtnppomiggajhnaaGreatDoor.Wl

namespace Go.Proofs.YtnppomiggajhnaaGreatDoor.Wl
open Go.RowKit Go.Proofs.YtnppomiggajhnaaGreatDoor.Fld
set_option linter.unusedVariables false

def brkC : Array Value := #[.pointer none, .int .i64 0, .bool true, .int .i64 0, .slice none 0 0, .slice none 0 0]
/-- a broken Wal, and the disk -/
structure WmB (lo W g b : Nat) (m : List Dk.Ent) (w : World) (t : Dk.St) : Prop where
  im : Dk.Im w g b m t
  blk : Blk w W brkC 88
  out : W ∉ g :: b :: Dk.blks m
  base : Base w
  low : ∀ i ∈ W :: g :: b :: Dk.blks m, lo ≤ i
theorem WmB.below {lo W g b : Nat} {m : List Dk.Ent} {w w' : World} {t : Dk.St} (h : WmB lo W g b m w t) (hb : Below w.heap.size w w') : WmB lo W g b m w' t :=
  ⟨h.im.below hb, (hb.block W h.blk.lt).trans h.blk, h.out, h.base.below hb, h.low⟩
set_option maxRecDepth 100000 in
theorem first_any {lo W g b lim : Nat} {m : List Dk.Ent} {ve vs : Value} {xs : List EA} {w : World} {c : Ct} {t : Dk.St} (h : WmX lo W g b lim m ve vs xs w c t) : Calls Tryz.prog 28 #[.pointer (some ⟨W, 0, none⟩)] w fun e w' => e = .returned (.int .i64 ((c.lg.base : Int) + 1)) ∧ w = w' := by
  have c2 := h.ct.blk.cell 2 (.bool false) rfl
  have c3 := h.ct.blk.cell 3 (.int .i64 (c.lg.base : Int)) rfl
  have hle := h.ct.ok.1.1
  unfold Lg.last MI at hle
  clear h
  go_enter Tryz.func28, Tryz.ntmps28
  go_wp2
  go_ret
  exact ⟨rfl, rfl⟩
set_option maxRecDepth 100000 in
theorem first_brk {lo W g b : Nat} {m : List Dk.Ent} {w : World} {t : Dk.St} (h : WmB lo W g b m w t) : Calls Tryz.prog 28 #[.pointer (some ⟨W, 0, none⟩)] w fun e w' => e = .returned (.int .i64 0) ∧ w = w' := by
  have c2 := h.blk.cell 2 (.bool true) rfl
  clear h
  go_enter Tryz.func28, Tryz.ntmps28
  go_wp2
  go_ret
  exact ⟨rfl, rfl⟩
set_option maxRecDepth 100000 in
theorem lastW_any {lo W g b lim : Nat} {m : List Dk.Ent} {ve vs : Value} {xs : List EA} {w : World} {c : Ct} {t : Dk.St} (h : WmX lo W g b lim m ve vs xs w c t) : Calls Tryz.prog 30 #[.pointer (some ⟨W, 0, none⟩)] w fun e w' => e = .returned (.int .i64 (c.lg.last : Int)) ∧ Still w w' := by
  obtain ⟨EA0, ec0, hve, _⟩ := row_slice h.ct.rE
  have hlen : c.lg.es.length = xs.length := by rw [h.ct.es]; simp
  have hle := h.ct.ok.1.1
  unfold Lg.last MI at hle
  have HLA := Lib.hid (show Calls Tryz.prog 64 #[.pointer (some ⟨W, 3, none⟩)] w (fun e w2 => e = .returned (.int .i64 ((c.lg.base + xs.length : Nat) : Int)) ∧ Still w w2) from last_any W 3 _ _ c.lg.base xs.length ec0 EA0 w h.ct.blk rfl (show (wcs g lim c ve vs)[3 + 1]? = some (.slice EA0 xs.length ec0) from by rw [← hve]; rfl) (by omega))
  have HE := Lib.hid (show c.lg.last = c.lg.base + xs.length by unfold Lg.last; rw [hlen])
  have c2 := h.ct.blk.cell 2 (.bool false) rfl
  obtain ⟨N, hN⟩ : ∃ N : Nat, c.lg.base + xs.length = N := ⟨_, rfl⟩
  rw [hN] at HLA HE
  clear h hve hlen hle hN
  go_enter Tryz.func30, Tryz.ntmps30
  go_wp2_with fail
  refine HLA.out.mono ?_
  rintro e w2 ⟨rfl, hst⟩
  have HST := Lib.hid hst
  clear hst
  go_wp2
  go_ret
  exact ⟨by rw [HE.out]; rfl, HST.out⟩
set_option maxRecDepth 100000 in
theorem lastW_brk {lo W g b : Nat} {m : List Dk.Ent} {w : World} {t : Dk.St} (h : WmB lo W g b m w t) : Calls Tryz.prog 30 #[.pointer (some ⟨W, 0, none⟩)] w fun e w' => e = .returned (.int .i64 0) ∧ w = w' := by
  have c2 := h.blk.cell 2 (.bool true) rfl
  clear h
  go_enter Tryz.func30, Tryz.ntmps30
  go_wp2
  go_ret
  exact ⟨rfl, rfl⟩
/-- what a method leaves: a Wal that goes on, or a broken one -/
def TakeIs (lo W g b lim : Nat) (F : List Nat) (w : World) (q : Int × Ct × Dk.St) (e : Ending) (w' : World) : Prop :=
  e = .returned (.int .i64 q.1) ∧ ((q.1 = 0 ∧ ∃ F', WmS lo W g b lim F' w' q.2.1 q.2.2 ∧ Dk.Fr F w w' ∧ ∀ i ∈ F', i ∈ F ∨ w.heap.size ≤ i) ∨ (q.1 ≠ 0 ∧ ∃ m', WmB lo W g b m' w' q.2.2 ∧ Dk.Fr F w w' ∧ ∀ i ∈ W :: g :: b :: Dk.blks m', i ∈ F ∨ w.heap.size ≤ i))
/-- the Wal is broken -/
theorem WmX.brk {lo W g b lim : Nat} {m : List Dk.Ent} {ve vs : Value} {xs : List EA} {w : World} {c : Ct} {t : Dk.St} (h : WmX lo W g b lim m ve vs xs w c t) :
    WmB lo W g b m ((((((w.setCell ⟨W, 0, none⟩ (.pointer none)).setCell ⟨W, 1, none⟩ (.int .i64 0)).setCell ⟨W, 2, none⟩ (.bool true)).setCell ⟨W, 3, none⟩ (.int .i64 0)).setCell ⟨W, 4, none⟩ (.slice none 0 0)).setCell ⟨W, 5, none⟩ (.slice none 0 0)) t ∧ Dk.Fr (WFt W g b m ve vs) w ((((((w.setCell ⟨W, 0, none⟩ (.pointer none)).setCell ⟨W, 1, none⟩ (.int .i64 0)).setCell ⟨W, 2, none⟩ (.bool true)).setCell ⟨W, 3, none⟩ (.int .i64 0)).setCell ⟨W, 4, none⟩ (.slice none 0 0)).setCell ⟨W, 5, none⟩ (.slice none 0 0)) := by
  have hWF : W ∈ WFt W g b m ve vs := by simp [WFt, CtF]
  have hfr : Dk.Fr [W] w ((((((w.setCell ⟨W, 0, none⟩ (.pointer none)).setCell ⟨W, 1, none⟩ (.int .i64 0)).setCell ⟨W, 2, none⟩ (.bool true)).setCell ⟨W, 3, none⟩ (.int .i64 0)).setCell ⟨W, 4, none⟩ (.slice none 0 0)).setCell ⟨W, 5, none⟩ (.slice none 0 0)) :=
    ((((((Dk.Fr.refl _ w).setCell _ (.inl (by simp)) _).setCell _ (.inl (by simp)) _).setCell _ (.inl (by simp)) _).setCell _ (.inl (by simp)) _).setCell _ (.inl (by simp)) _).setCell _ (.inl (by simp)) _
  have hfW := hfr.mono (S' := WFt W g b m ve vs) (fun i hi => by simp only [List.mem_singleton] at hi; rw [hi]; exact hWF)
  refine ⟨⟨h.im.of_blocks fun i hi => hfr.block i (h.im.lt i hi) (fun hm => by simp only [List.mem_singleton] at hm; subst hm; exact h.W_off hi), ?_, h.W_off, h.base_fr hfW h.low, fun i hi => ?_⟩, hfW⟩
  · exact (((((h.ct.blk.set 0 _ (by simp [wcs])).set 1 _ (by simp [wcs])).set 2 _ (by simp [wcs])).set 3 _ (by simp [wcs])).set 4 _ (by simp [wcs])).set 5 _ (by simp [wcs])
  · rcases List.mem_cons.1 hi with rfl | hi
    · exact h.low _ hWF
    · exact h.low _ (wft_disk _ hi)
set_option maxRecDepth 100000 in
set_option maxHeartbeats 1600000 in
theorem take_any {lo W g b lim : Nat} {F : List Nat} {w : World} {q : Int × Ct × Dk.St} (A : Option Addr) (n cap : Nat) (hr : Calls Tryz.prog 41 #[.slice A n cap] w (StpI lo W g b lim F w q)) :
    Calls Tryz.prog 65 #[.pointer (some ⟨W, 0, none⟩), .slice A n cap] w (TakeIs lo W g b lim F w q) := by
  have HRUN := Lib.hid hr
  clear hr
  go_enter Tryz.func65, Tryz.ntmps65
  go_wp2_with fail
  refine HRUN.out.mono ?_
  rintro e w1 ⟨rfl, hQ⟩
  have HQ := Lib.hid hQ
  clear hQ
  by_cases h0 : q.1 = 0
  · have q1 : (q.1 != 0) = false := by simpa using h0
    have H0 := Lib.hid h0
    clear h0
    go_wp2
    go_ret
    exact ⟨rfl, .inl ⟨H0.out, HQ.out⟩⟩
  · have q1 : (q.1 != 0) = true := by simpa using h0
    have H0 := Lib.hid h0
    obtain ⟨F', ⟨m', ve', vs', xs', hX, hF'⟩, hfr, hsub⟩ := HQ.out
    have HX := Lib.hid hX
    have HFR := Lib.hid hfr
    have HSUB := Lib.hid hsub
    have HF' := Lib.hid hF'
    have c0 := hX.ct.blk.cell 0 _ rfl
    have c1 := hX.ct.blk.cell 1 _ rfl
    have c2 := hX.ct.blk.cell 2 _ rfl
    have c3 := hX.ct.blk.cell 3 _ rfl
    have c4 := hX.ct.blk.cell 4 _ rfl
    have c5 := hX.ct.blk.cell 5 _ rfl
    have f0 := hX.ct.blk.free 0
    have f1 := hX.ct.blk.free 1
    have f2 := hX.ct.blk.free 2
    have f3 := hX.ct.blk.free 3
    have f4 := hX.ct.blk.free 4
    have f5 := hX.ct.blk.free 5
    clear h0 hX hF' hfr hsub
    go_wp2
    go_ret
    refine ⟨rfl, .inr ⟨H0.out, m', HX.out.brk.1, HFR.out.trans HX.out.brk.2 (fun i hi => HSUB.out i (by rw [HF'.out]; exact hi)), fun i hi => HSUB.out i ?_⟩⟩
    rw [HF'.out]
    rcases List.mem_cons.1 hi with rfl | hi
    · simp [WFt, CtF]
    · exact wft_disk _ hi
end Go.Proofs.YtnppomiggajhnaaGreatDoor.Wl

namespace Go.Proofs.YtnppomiggajhnaaGreatDoor.Wl
open Go.RowKit Go.Proofs.YtnppomiggajhnaaGreatDoor.Fld
set_option linter.unusedVariables false

theorem TakeIs.then {lo W g b lim : Nat} {F F1 : List Nat} {w w1 w2 : World} {q : Int × Ct × Dk.St} {e : Ending} (hf : Dk.Fr F w w1) (hs : ∀ i ∈ F1, i ∈ F ∨ w.heap.size ≤ i) (h : TakeIs lo W g b lim F1 w1 q e w2) : TakeIs lo W g b lim F w q e w2 := by
  have hx : ∀ i, (i ∈ F1 ∨ w1.heap.size ≤ i) → i ∈ F ∨ w.heap.size ≤ i := fun i h5 => by
    rcases h5 with h5 | h5
    · exact hs i h5
    · exact .inr (Nat.le_trans hf.size h5)
  obtain ⟨h1, h2 | h2⟩ := h
  · obtain ⟨h0, F2, h2, h3, h4⟩ := h2
    exact ⟨h1, .inl ⟨h0, F2, h2, hf.trans h3 hs, fun i hi => hx i (h4 i hi)⟩⟩
  · obtain ⟨h0, m2, h2, h3, h4⟩ := h2
    exact ⟨h1, .inr ⟨h0, m2, h2, hf.trans h3 hs, fun i hi => hx i (h4 i hi)⟩⟩
set_option maxRecDepth 100000 in
set_option maxHeartbeats 1600000 in
theorem waSync_any {lo W g b lim : Nat} {m : List Dk.Ent} {ve vs : Value} {xs : List EA} {w : World} {c : Ct} {t : Dk.St} (h : WmX lo W g b lim m ve vs xs w c t) {L : List Sg} {S : Sg} (hs : c.segs = L ++ [S]) (hl : L.length ≤ 900000) (hm : t.fs.length ≤ 900000) :
    Calls Tryz.prog 24 #[.pointer (some ⟨W, 0, none⟩)] w (TakeIs lo W g b lim (WFt W g b m ve vs) w (spSync c t)) := by
  have HX := Lib.hid h
  have HSY := Lib.hid (syncing_any W w)
  have c2 := h.ct.blk.cell 2 (.bool false) rfl
  clear h
  go_enter Tryz.func24, Tryz.ntmps24
  go_wp2_with fail
  refine HSY.out.mono ?_
  rintro e w2 ⟨bw, rfl, hc1, hl1, hb2⟩
  have hA := alloc_below' w2 (.cells #[(syncFv bw).val] 102)
  have HBA := Lib.hid (hb2.trans (hA.mono hb2.size))
  have HOUT := Lib.hid (show ∀ i, w.heap.size ≤ i → i ∉ WFt W g b m ve vs from fun i hi hm => by have := HX.out.lt i hm; omega)
  have HXA := Lib.hid (HX.out.below HBA.out)
  have HRUN := Lib.hid (take_any _ 1 1 (onerun_any (w := w2.alloc (.cells #[(syncFv bw).val] 102)) ⟨m, ve, vs, xs, HXA.out, rfl⟩ w2.heap.size (syncFv bw) spSync (syncFv_in bw) ((Blk.new w2 _ _).cell 0 _ rfl) (HOUT.out _ hb2.size) (sync1_any HXA.out hs hl hm bw ((hA.cell (lt_of_cell hc1)).trans hc1) (HOUT.out _ hl1))))
  unfold Fv.val syncFv at HRUN
  unfold Fv.val syncFv
  clear hc1 hl1 hb2 hA
  go_wp2_with fail
  refine HRUN.out.mono ?_
  rintro e w8 ⟨rfl, hQ⟩
  have HQ := Lib.hid hQ
  clear hQ
  go_wp2_with fail
  go_ret
  exact TakeIs.then (Dk.Fr.below HBA.out) (fun i hi => .inl hi) ⟨rfl, HQ.out⟩
set_option maxRecDepth 100000 in
theorem waSync_brk {lo W g b : Nat} {m : List Dk.Ent} {w : World} {t : Dk.St} (h : WmB lo W g b m w t) : Calls Tryz.prog 24 #[.pointer (some ⟨W, 0, none⟩)] w fun e w' => e = .returned (.int .i64 8) ∧ w = w' := by
  have c2 := h.blk.cell 2 (.bool true) rfl
  clear h
  go_enter Tryz.func24, Tryz.ntmps24
  go_wp2
  go_ret
  exact ⟨rfl, rfl⟩
/-- sync and create by run -/
theorem screate_any {lo W g b lim : Nat} {F : List Nat} {w : World} {c : Ct} {t : Dk.St} (hW : WmS lo W g b lim F w c t) {L : List Sg} {S : Sg} (hs : c.segs = L ++ [S]) (hl : L.length ≤ 890000) (hm : t.fs.length ≤ 880000) (X bw1 bn bw2 n : Nat) (hn1 : 1 ≤ n) (hn2 : n ≤ 99999999)
    (hX0 : w.cell? ⟨X, 0, none⟩ = some (syncFv bw1).val) (hX1 : w.cell? ⟨X, 1, none⟩ = some (createFv bn bw2).val) (h1 : w.cell? ⟨bw1, 0, none⟩ = some (.pointer (some ⟨W, 0, none⟩))) (h2 : w.cell? ⟨bn, 0, none⟩ = some (.int .i64 (n : Int))) (h3 : w.cell? ⟨bw2, 0, none⟩ = some (.pointer (some ⟨W, 0, none⟩)))
    (hXF : X ∉ F) (o1 : bw1 ∉ F) (o2 : bn ∉ F) (o3 : bw2 ∉ F) :
    Calls Tryz.prog 41 #[.slice (some ⟨X, 0, none⟩) 2 2] w (StpI lo W g b lim F w (spRun [spSync, spCreate n] c t)) := by
  refine run_sp (some ⟨X, 0, none⟩) 2 2 [(syncFv bw1, spSync), (createFv bn bw2, spCreate n)] c t hW rfl (by unfold maxLen; omega) ⟨rfl, by unfold maxLen; omega, fun _ => ⟨X, 0, rfl, fun i f hi => ?_⟩⟩ (fun _ a ha => by cases ha; exact hXF) (fun f hf => ?_)
    (fun i c' t' => i ≤ 1 → (c'.segs = L ++ [S] ∧ t'.fs.length ≤ 880000 + i)) (fun _ => ⟨hs, hm⟩) (fun i f hi c' t' hp hr0 => ?_) (fun i f hi F' w' c' t' hW' hfr hsub hp => ?_)
  · rcases i with _ | _ | i
    · simp at hi; subst hi; exact hX0
    · simp at hi; subst hi; exact hX1
    · simp at hi
  · simp only [List.mem_cons, List.not_mem_nil, or_false] at hf
    rcases hf with rfl | rfl
    · exact syncFv_in _
    · exact createFv_in _ _
  · rcases i with _ | _ | i
    · simp at hi
      subst hi
      intro _
      obtain ⟨e1, e4⟩ := hp (by omega)
      refine ⟨e1, ?_⟩
      show (Dk.stSync (segN (lastN c')) t').2.fs.length ≤ _
      have e6 := Dk.sync_len (segN (lastN c')) t'
      omega
    · intro hh; omega
    · simp at hi
  · have p1 := out_of o1 h1 hsub
    have p2 := out_of o2 h2 hsub
    have p3 := out_of o3 h3 hsub
    obtain ⟨m', ve', vs', xs', hX', rfl⟩ := hW'
    rcases i with _ | _ | i
    · simp at hi
      subst hi
      obtain ⟨e1, e4⟩ := hp (by omega)
      exact sync1_any hX' e1 (by omega) (by omega) bw1 (hfr.cell h1 o1) p1
    · simp at hi
      subst hi
      obtain ⟨e1, e4⟩ := hp (by omega)
      refine create1_any hX' n hn1 hn2 (by rw [e1]; simp; omega) (by omega) bn bw2 (hfr.cell h2 o2) (hfr.cell h3 o3) p2 p3
    · simp at hi
set_option maxRecDepth 100000 in
set_option maxHeartbeats 3200000 in
theorem room_any {lo W g b lim : Nat} {m : List Dk.Ent} {ve vs : Value} {xs : List EA} {w : World} {c : Ct} {t : Dk.St} (h : WmX lo W g b lim m ve vs xs w c t) {L : List Sg} {S : Sg} (hs : c.segs = L ++ [S]) (hl : L.length ≤ 890000) (hz : S.size ≤ 1099511627776) (hm : t.fs.length ≤ 880000) :
    Calls Tryz.prog 116 #[.pointer (some ⟨W, 0, none⟩)] w (StpI lo W g b lim (WFt W g b m ve vs) w (spRoom lim c t)) := by
  have HX := Lib.hid h
  have c1 := h.ct.blk.cell 1 (.int .i64 (lim : Int)) rfl
  have hno := (h.ct.ok.2 S (by rw [hs]; simp)).2.1
  obtain ⟨q, cp, hv, hc⟩ := h.lastq hs
  have HLS := Lib.hid (show Calls Tryz.prog 94 #[.pointer (some ⟨W, 3, none⟩)] w (fun e w2 => e = .returned (.pointer (some ⟨q, L.length * 3, none⟩)) ∧ Still w w2) from (lastSeg_any W 3 q (L.length + 1) cp _ _ w h.ct.blk (show (wcs g lim c ve vs)[3 + 2]? = some (.slice (some ⟨q, 0, none⟩) (L.length + 1) cp) from by rw [← hv]; rfl) (by omega) (by omega)))
  have HCS := Lib.hid (show w.cell? ⟨q, L.length * 3, none⟩ = some (.int .i64 (S.num : Int)) ∧ w.cell? ⟨q, L.length * 3 + 1, none⟩ = some (.int .i64 (S.next : Int)) ∧ w.cell? ⟨q, L.length * 3 + 2, none⟩ = some (.int .i64 (S.size : Int)) from ⟨hc 0 _ rfl, hc 1 _ rfl, hc 2 _ rfl⟩)
  have HRO := Lib.hid (show spRoom lim c t = if S.size < lim ∨ S.num = 99999999 then (0, c, t) else spRun [spSync, spCreate (S.num + 1)] c t by unfold spRoom; rw [hs, List.getLast?_append]; rfl)
  have HLIM := Lib.hid (And.intro h.lim1 h.lim2)
  have HS := Lib.hid hs
  obtain ⟨p, hp⟩ : ∃ p, L.length * 3 = p := ⟨_, rfl⟩
  rw [hp] at HLS HCS
  clear h hs hv hc hp
  obtain ⟨sz, hsz⟩ : ∃ sz : Nat, S.size = sz := ⟨_, rfl⟩
  obtain ⟨sn, hsn⟩ : ∃ sn : Nat, S.num = sn := ⟨_, rfl⟩
  have HL2 := HLIM.out
  rw [hsz, hsn] at HRO HCS
  rw [hsn] at hno
  rw [hsz] at hz
  have HNO := Lib.hid hno
  by_cases hq : sz < lim ∨ sn = 99999999
  · have HR := Lib.hid (show spRoom lim c t = (0, c, t) by rw [HRO.out, if_pos hq])
    have hend : ∀ w3, Below w.heap.size w w3 → StpI lo W g b lim (WFt W g b m ve vs) w (spRoom lim c t) (.returned (.int .i64 0)) w3 := fun w3 hb => by rw [HR.out]; exact StpI.same HX.out hb 0
    have HEND := Lib.hid hend
    clear hend
    by_cases h1 : sz < lim
    · have j1 : decide ((sz : Int) < (lim : Int)) = true := by simp; exact h1
      clear hq hno hsz hsn
      go_enter Tryz.func116, Tryz.ntmps116
      go_wp2_with fail
      refine HLS.out.mono ?_
      rintro e w2 ⟨rfl, hst⟩
      have HB := Lib.hid (still_below hst)
      have x0 := (HB.out.cell (lt_of_cell HCS.out.1)).trans HCS.out.1
      have x1 := (HB.out.cell (lt_of_cell HCS.out.2.1)).trans HCS.out.2.1
      have x2 := (HB.out.cell (lt_of_cell HCS.out.2.2)).trans HCS.out.2.2
      have c1 := (HB.out.cell (lt_of_cell c1)).trans c1
      clear hst
      go_wp2_with fail
      go_quiet (fail)
      go_wp2
      go_ret
      exact HEND.out _ (HB.out.trans ((below_drewN' _ _).mono HB.out.size))
    · have h2 : sn = 99999999 := hq.resolve_left h1
      subst h2
      have j1 : decide ((sz : Int) < (lim : Int)) = false := by simp; omega
      clear hq hno hsz hsn
      go_enter Tryz.func116, Tryz.ntmps116
      go_wp2_with fail
      refine HLS.out.mono ?_
      rintro e w2 ⟨rfl, hst⟩
      have HB := Lib.hid (still_below hst)
      have x0 := (HB.out.cell (lt_of_cell HCS.out.1)).trans HCS.out.1
      have x1 := (HB.out.cell (lt_of_cell HCS.out.2.1)).trans HCS.out.2.1
      have x2 := (HB.out.cell (lt_of_cell HCS.out.2.2)).trans HCS.out.2.2
      have c1 := (HB.out.cell (lt_of_cell c1)).trans c1
      clear hst
      go_wp2_with fail
      go_quiet (fail)
      go_wp2
      go_ret
      exact HEND.out _ (HB.out.trans ((below_drewN' _ _).mono HB.out.size))
  · have HR := Lib.hid (show spRoom lim c t = spRun [spSync, spCreate (sn + 1)] c t by rw [HRO.out, if_neg hq])
    have h1 : ¬ sz < lim := fun h => hq (.inl h)
    have h2 : sn ≠ 99999999 := fun h => hq (.inr h)
    have j1 : decide ((sz : Int) < (lim : Int)) = false := by simp; omega
    have j2 : ((sn : Int) == 99999999) = false := by rw [beq_eq_false_iff_ne]; omega
    have e1 : wrap64 ((sn : Int) + 1) = ((sn + 1 : Nat) : Int) := by unfold wrap64; omega
    have HSY := Lib.hid (fun w' => syncing_any W w')
    have HCR := Lib.hid (fun w' => creating_any W (IntKind.i64.wrap ((sn : Int) + 1)) w')
    have E2 := Lib.hid (show IntKind.i64.wrap ((sn : Int) + 1) = ((sn + 1 : Nat) : Int) from by rw [wrap_in' _ (by omega) (by omega)]; omega)
    have HOUT := Lib.hid (show ∀ i, w.heap.size ≤ i → i ∉ WFt W g b m ve vs from fun i hi hm => by have := HX.out.lt i hm; omega)
    have HRUN := Lib.hid (fun (w' : World) (hb : Below w.heap.size w w') (X bw1 bn bw2 : Nat) (hX0 : w'.cell? ⟨X, 0, none⟩ = some (syncFv bw1).val) (hX1 : w'.cell? ⟨X, 1, none⟩ = some (createFv bn bw2).val) (h1 : w'.cell? ⟨bw1, 0, none⟩ = some (.pointer (some ⟨W, 0, none⟩))) (h2 : w'.cell? ⟨bn, 0, none⟩ = some (.int .i64 ((sn + 1 : Nat) : Int))) (h3 : w'.cell? ⟨bw2, 0, none⟩ = some (.pointer (some ⟨W, 0, none⟩))) (o0 : w.heap.size ≤ X) (o1 : w.heap.size ≤ bw1) (o2 : w.heap.size ≤ bn) (o3 : w.heap.size ≤ bw2) =>
      show Calls Tryz.prog 41 #[.slice (some ⟨X, 0, none⟩) 2 2] w' (StpI lo W g b lim (WFt W g b m ve vs) w (spRoom lim c t)) from by
        rw [HR.out]
        exact (screate_any ⟨m, ve, vs, xs, HX.out.below hb, rfl⟩ HS.out hl hm X bw1 bn bw2 (sn + 1) (by omega) (by have := HNO.out; omega) hX0 hX1 h1 h2 h3 (HOUT.out _ o0) (HOUT.out _ o1) (HOUT.out _ o2) (HOUT.out _ o3)).mono (fun e w9 hq => StpI.then (Dk.Fr.below hb) (fun i hi => .inl hi) hq))
    clear hq hno hsz hsn
    go_enter Tryz.func116, Tryz.ntmps116
    go_wp2_with fail
    refine HLS.out.mono ?_
    rintro e w2 ⟨rfl, hst⟩
    have HB := Lib.hid (still_below hst)
    have x0 := (HB.out.cell (lt_of_cell HCS.out.1)).trans HCS.out.1
    have x1 := (HB.out.cell (lt_of_cell HCS.out.2.1)).trans HCS.out.2.1
    have x2 := (HB.out.cell (lt_of_cell HCS.out.2.2)).trans HCS.out.2.2
    have c1 := (HB.out.cell (lt_of_cell c1)).trans c1
    clear hst
    go_wp2_with fail
    go_quiet (fail)
    have HBD := Lib.hid (HB.out.trans ((below_drewN' w2 nq).mono HB.out.size))
    have x0 : (w2.drewN nq).cell? ⟨q, p, none⟩ = some (.int .i64 (sn : Int)) := x0
    generalize w2.drewN nq = w3 at *
    have HX0 := Lib.hid x0
    clear x1 x2 c1
    unfold Fv.val syncFv at HSY
    unfold Fv.val createFv at HCR
    go_wp2_with fail
    refine wp_region_noPanic ?_
    refine wp_region_held_drew (S := fun _ => True) (by kernel_rfl) trivial (fun hHeld => ?_)
    have hbd : Below w3.heap.size w3 w3.drew := (Below.refl _ _).drew
    have HBDR := Lib.hid hbd
    clear hbd
    have yd : w3.drew.cell? ⟨q, p, none⟩ = some (.int .i64 (sn : Int)) := x0
    refine takeL (i := 0) (v := ?_) rfl (by kernel_rfl) (by kernel_rfl) (by kernel_rfl) (fun _ _ _ h => h) (Or.inl ⟨by rfl, ?_⟩) (by assumption) ?_
    rotate_left
    · intro w' hSw
      clear hSw
      go_simp
      first | done | with_reducible rfl
    try simp only [Act.put, List.setIfInBounds_toArray, List.set_cons_zero, List.set_cons_succ]
    refine takeL (i := 2) (v := ?_) rfl (by kernel_rfl) (by kernel_rfl) (by kernel_rfl) (fun _ _ _ h => h) (Or.inl ⟨by rfl, ?_⟩) (by assumption) ?_
    rotate_left
    · intro w' hSw
      clear hSw
      go_simp
      first | done | with_reducible rfl
    try simp only [Act.put, List.setIfInBounds_toArray, List.set_cons_zero, List.set_cons_succ]
    refine takeL (i := 3) (v := ?_) rfl (by kernel_rfl) (by kernel_rfl) (by kernel_rfl) (fun _ _ _ h => h) (Or.inl ⟨by rfl, ?_⟩) (by assumption) ?_
    rotate_left
    · intro w' hSw
      clear hSw
      go_simp
      first | done | with_reducible rfl
    try simp only [Act.put, List.setIfInBounds_toArray, List.set_cons_zero, List.set_cons_succ]
    refine takeL (i := 4) (v := ?_) rfl (by kernel_rfl) (by kernel_rfl) (by kernel_rfl) (fun _ _ _ h => h) (Or.inl ⟨by rfl, ?_⟩) (by assumption) ?_
    rotate_left
    · intro w' hSw
      clear hSw
      go_simp
      first | done | with_reducible rfl
    try simp only [Act.put, List.setIfInBounds_toArray, List.set_cons_zero, List.set_cons_succ]
    refine takeL (i := 5) (v := ?_) rfl (by kernel_rfl) (by kernel_rfl) (by kernel_rfl) (fun _ _ _ h => h) (Or.inl ⟨by rfl, ?_⟩) (by assumption) ?_
    rotate_left
    · intro w' hSw
      clear hSw
      go_simp
      first | done | with_reducible rfl
    try simp only [Act.put, List.setIfInBounds_toArray, List.set_cons_zero, List.set_cons_succ]
    refine wpAnyH_ready (rs := [1, 6]) (by kernel_rfl) (by simp) ?_
    refine consL rfl (fun K hK => ?_) (consL rfl (fun K hK => ?_) AllReadyH.nil)
    · go_simp
      go_at_call 73
      refine (HSY.out _).mono ?_
      rintro e w4 ⟨bw1, rfl, hc1, hl1, hb4⟩
      have HB4 := Lib.hid (show Below w3.heap.size w3 w4 from HBDR.out.trans hb4)
      have HL1 := Lib.hid (show w3.heap.size ≤ bw1 from hl1)
      have HC1 := Lib.hid hc1
      have y0 := (HB4.out.cell (lt_of_cell HX0.out)).trans HX0.out
      clear hc1 hl1 hb4
      refine hK.out _ _ trivial (fun hHeld => ?_)
      clear hK K
      try simp only [Act.put, List.setIfInBounds_toArray, List.set_cons_zero, List.set_cons_succ]
      refine wpAnyH_ready (rs := [6]) (by kernel_rfl) (by simp) ?_
      refine consL rfl (fun K hK => ?_) AllReadyH.nil
      go_simp
      refine hK.out _ _ trivial (fun hHeld => ?_)
      clear hK K
      try simp only [Act.put, List.setIfInBounds_toArray, List.set_cons_zero, List.set_cons_succ]
      refine takeL (i := 7) (v := ?_) rfl (by kernel_rfl) (by kernel_rfl) (by kernel_rfl) (fun _ _ _ h => h) (Or.inl ⟨by rfl, ?_⟩) (by assumption) ?_
      rotate_left
      · intro w' hSw
        clear hSw
        go_simp
        first | done | with_reducible rfl
      try simp only [Act.put, List.setIfInBounds_toArray, List.set_cons_zero, List.set_cons_succ]
      refine wpAnyH_ready (rs := [8]) (by kernel_rfl) (by simp) ?_
      refine consL rfl (fun K hK => ?_) AllReadyH.nil
      go_simp
      go_at_call 102
      refine (HCR.out _).mono ?_
      rintro e w5 ⟨bn, bw2, rfl, hc2, hc3, hl2, hl3, hb5⟩
      rw [E2.out] at hc3
      have HB5 := Lib.hid (show Below w3.heap.size w3 w5 from HB4.out.trans (hb5.mono HB4.out.size))
      have HL2 := Lib.hid (And.intro (Nat.le_trans HB4.out.size hl2) (Nat.le_trans HB4.out.size hl3))
      have HC2 := Lib.hid (And.intro hc2 hc3)
      have HC15 := Lib.hid ((hb5.cell (lt_of_cell HC1.out)).trans HC1.out)
      clear hc2 hc3 hl2 hl3 hb5
      refine hK.out _ _ trivial (fun hHeld => ?_)
      clear hK K
      try simp only [Act.put, List.setIfInBounds_toArray, List.set_cons_zero, List.set_cons_succ]
      refine wpAnyH_ready (rs := [9]) (by kernel_rfl) (by simp) ?_
      refine consL rfl (fun K hK => ?_) AllReadyH.nil
      go_simp
      refine hK.out _ _ trivial (fun hHeld => ?_)
      clear hK K
      try simp only [Act.put, List.setIfInBounds_toArray, List.set_cons_zero, List.set_cons_succ]
      refine wpAnyH_ready (rs := [10]) (by kernel_rfl) (by simp) ?_
      refine consL rfl (fun K hK => ?_) AllReadyH.nil
      go_simp
      go_at_call 41
      have hA := alloc_below' w5 (.cells #[(syncFv bw1).val, (createFv bn bw2).val] 102)
      have hZ := HBD.out.size
      refine (HRUN.out (w5.alloc (.cells #[(syncFv bw1).val, (createFv bn bw2).val] 102)) (HBD.out.trans ((HB5.out.trans (hA.mono HB5.out.size)).mono hZ)) w5.heap.size bw1 bn bw2 ((Blk.new w5 _ _).cell 0 _ rfl) ((Blk.new w5 _ _).cell 1 _ rfl) ((hA.cell (lt_of_cell HC15.out)).trans HC15.out) ((hA.cell (lt_of_cell HC2.out.2)).trans HC2.out.2) ((hA.cell (lt_of_cell HC2.out.1)).trans HC2.out.1) (Nat.le_trans hZ HB5.out.size) (Nat.le_trans hZ HL1.out) (Nat.le_trans hZ HL2.out.2) (Nat.le_trans hZ HL2.out.1)).mono ?_
      rintro e w6 ⟨rfl, hQ⟩
      have HQ := Lib.hid hQ
      clear hQ hA hZ
      refine hK.out _ _ trivial (fun hHeld => ?_)
      clear hK K
      try simp only [Act.put, List.setIfInBounds_toArray, List.set_cons_zero, List.set_cons_succ]
      refine takeL (i := 11) (v := ?_) rfl (by kernel_rfl) (by kernel_rfl) (by kernel_rfl) (fun _ _ _ h => h) (Or.inl ⟨by rfl, ?_⟩) (by assumption) ?_
      rotate_left
      · intro w' hSw
        clear hSw
        go_simp
        first | done | with_reducible rfl
      try simp only [Act.put, List.setIfInBounds_toArray, List.set_cons_zero, List.set_cons_succ]
      refine wpAnyH_done (by kernel_rfl) ?_ _
      refine NoPanic.normal ?_
      go_wp2_with fail
      go_ret
      exact ⟨rfl, HQ.out⟩
    · go_simp
      refine hK.out _ _ trivial (fun hHeld => ?_)
      clear hK K
      try simp only [Act.put, List.setIfInBounds_toArray, List.set_cons_zero, List.set_cons_succ]
      refine takeL (i := 7) (v := ?_) rfl (by kernel_rfl) (by kernel_rfl) (by kernel_rfl) (fun _ _ _ h => h) (Or.inl ⟨by rfl, ?_⟩) (by assumption) ?_
      rotate_left
      · intro w' hSw
        clear hSw
        go_simp
        first | done | with_reducible rfl
      try simp only [Act.put, List.setIfInBounds_toArray, List.set_cons_zero, List.set_cons_succ]
      refine wpAnyH_ready (rs := [1]) (by kernel_rfl) (by simp) ?_
      refine consL rfl (fun K hK => ?_) AllReadyH.nil
      go_simp
      go_at_call 73
      refine (HSY.out _).mono ?_
      rintro e w4 ⟨bw1, rfl, hc1, hl1, hb4⟩
      have HB4 := Lib.hid (show Below w3.heap.size w3 w4 from HBDR.out.trans hb4)
      have HL1 := Lib.hid (show w3.heap.size ≤ bw1 from hl1)
      have HC1 := Lib.hid hc1
      have y0 := (HB4.out.cell (lt_of_cell HX0.out)).trans HX0.out
      clear hc1 hl1 hb4
      refine hK.out _ _ trivial (fun hHeld => ?_)
      clear hK K
      try simp only [Act.put, List.setIfInBounds_toArray, List.set_cons_zero, List.set_cons_succ]
      refine wpAnyH_ready (rs := [8]) (by kernel_rfl) (by simp) ?_
      refine consL rfl (fun K hK => ?_) AllReadyH.nil
      go_simp
      go_at_call 102
      refine (HCR.out _).mono ?_
      rintro e w5 ⟨bn, bw2, rfl, hc2, hc3, hl2, hl3, hb5⟩
      rw [E2.out] at hc3
      have HB5 := Lib.hid (show Below w3.heap.size w3 w5 from HB4.out.trans (hb5.mono HB4.out.size))
      have HL2 := Lib.hid (And.intro (Nat.le_trans HB4.out.size hl2) (Nat.le_trans HB4.out.size hl3))
      have HC2 := Lib.hid (And.intro hc2 hc3)
      have HC15 := Lib.hid ((hb5.cell (lt_of_cell HC1.out)).trans HC1.out)
      clear hc2 hc3 hl2 hl3 hb5
      refine hK.out _ _ trivial (fun hHeld => ?_)
      clear hK K
      try simp only [Act.put, List.setIfInBounds_toArray, List.set_cons_zero, List.set_cons_succ]
      refine wpAnyH_ready (rs := [9]) (by kernel_rfl) (by simp) ?_
      refine consL rfl (fun K hK => ?_) AllReadyH.nil
      go_simp
      refine hK.out _ _ trivial (fun hHeld => ?_)
      clear hK K
      try simp only [Act.put, List.setIfInBounds_toArray, List.set_cons_zero, List.set_cons_succ]
      refine wpAnyH_ready (rs := [10]) (by kernel_rfl) (by simp) ?_
      refine consL rfl (fun K hK => ?_) AllReadyH.nil
      go_simp
      go_at_call 41
      have hA := alloc_below' w5 (.cells #[(syncFv bw1).val, (createFv bn bw2).val] 102)
      have hZ := HBD.out.size
      refine (HRUN.out (w5.alloc (.cells #[(syncFv bw1).val, (createFv bn bw2).val] 102)) (HBD.out.trans ((HB5.out.trans (hA.mono HB5.out.size)).mono hZ)) w5.heap.size bw1 bn bw2 ((Blk.new w5 _ _).cell 0 _ rfl) ((Blk.new w5 _ _).cell 1 _ rfl) ((hA.cell (lt_of_cell HC15.out)).trans HC15.out) ((hA.cell (lt_of_cell HC2.out.2)).trans HC2.out.2) ((hA.cell (lt_of_cell HC2.out.1)).trans HC2.out.1) (Nat.le_trans hZ HB5.out.size) (Nat.le_trans hZ HL1.out) (Nat.le_trans hZ HL2.out.2) (Nat.le_trans hZ HL2.out.1)).mono ?_
      rintro e w6 ⟨rfl, hQ⟩
      have HQ := Lib.hid hQ
      clear hQ hA hZ
      refine hK.out _ _ trivial (fun hHeld => ?_)
      clear hK K
      try simp only [Act.put, List.setIfInBounds_toArray, List.set_cons_zero, List.set_cons_succ]
      refine takeL (i := 11) (v := ?_) rfl (by kernel_rfl) (by kernel_rfl) (by kernel_rfl) (fun _ _ _ h => h) (Or.inl ⟨by rfl, ?_⟩) (by assumption) ?_
      rotate_left
      · intro w' hSw
        clear hSw
        go_simp
        first | done | with_reducible rfl
      try simp only [Act.put, List.setIfInBounds_toArray, List.set_cons_zero, List.set_cons_succ]
      refine wpAnyH_done (by kernel_rfl) ?_ _
      refine NoPanic.normal ?_
      go_wp2_with fail
      go_ret
      exact ⟨rfl, HQ.out⟩
end Go.Proofs.YtnppomiggajhnaaGreatDoor.Wl

namespace Go.Proofs.YtnppomiggajhnaaGreatDoor.Wl
open Go.RowKit Go.Proofs.YtnppomiggajhnaaGreatDoor.Fld
set_option linter.unusedVariables false

/-- an entry more -/
theorem WmX.addE {lo W g b lim : Nat} {m : List Dk.Ent} {ve vs v' : Value} {xs : List EA} {w w' : World} {c : Ct} {t : Dk.St} {y : EA} (h : WmX lo W g b lim m ve vs xs w c t) (hb : Blk w' W ((wcs g lim c ve vs).setIfInBounds (3 + 1) v') 88) (hr : w'.ownsRow lo 63 4 v' (xs.length + 1) (rowE (xs ++ [y])))
    (hd : DatAt w.heap.size w' y) (hf : Dk.Fr (W :: ve.ownBlock.toList) w w') (ha : v'.ownBlock = ve.ownBlock ∨ ∃ i, v'.ownBlock = some i ∧ w.heap.size ≤ i) (hok : (c.lg.add y.e).Ok) :
    WmX lo W g b lim m v' vs (xs ++ [y]) w' ⟨c.lg.add y.e, c.segs⟩ t ∧ Dk.Fr (WFt W g b m ve vs) w w' ∧ ∀ i ∈ WFt W g b m v' vs, i ∈ WFt W g b m ve vs ∨ w.heap.size ≤ i := by
  have hsz := h.size
  have hsub : ∀ i ∈ WFt W g b m v' vs, i ∈ WFt W g b m ve vs ∨ w.heap.size ≤ i := by
    intro i hi
    unfold WFt CtF at hi ⊢
    simp only [List.mem_cons, List.mem_append, Option.mem_toList] at hi ⊢
    rcases hi with h1 | h1 | h1 | h1 | h1 | h1
    · exact .inl (.inl h1)
    · exact .inl (.inr (.inl h1))
    · exact .inl (.inr (.inr (.inl h1)))
    · exact .inl (.inr (.inr (.inr (.inl h1))))
    · rcases ha with ha | ⟨j, hj, hj2⟩
      · exact .inl (.inr (.inr (.inr (.inr (.inl (by rw [← ha]; exact h1))))))
      · rw [hj] at h1; cases h1; exact .inr hj2
    · exact .inl (.inr (.inr (.inr (.inr (.inr h1)))))
  have hfrW : Dk.Fr (WFt W g b m ve vs) w w' := hf.mono fun i hi => by
    unfold WFt CtF
    simp only [List.mem_cons, List.mem_append, Option.mem_toList] at hi ⊢
    rcases hi with h1 | h1
    · exact .inr (.inr (.inr (.inl h1)))
    · exact .inr (.inr (.inr (.inr (.inl h1))))
  have hout : ∀ i ∈ g :: b :: Dk.blks m, i ∉ W :: ve.ownBlock.toList := fun i hi hm => by
    simp only [List.mem_cons, Option.mem_toList] at hm
    rcases hm with rfl | hm
    · exact h.W_off hi
    · exact h.apart i (.inr (.inl hm)) hi
  have hnew : ∀ i, w.heap.size ≤ i → i ∉ g :: b :: Dk.blks m := fun i hi hm => by have := h.im.lt i hm; omega
  refine ⟨⟨h.im.of_blocks fun i hi => hf.block i (h.im.lt i hi) (hout i hi), h.ct.added hsz hb hr hd hf hok, ?_, h.base_fr hfrW h.low, ?_, h.glo, h.lim1, h.lim2⟩, hfrW, hsub⟩
  · rintro i (h1 | h1 | h1 | ⟨x, hx, h1⟩)
    · exact h.apart i (.inl h1)
    · rcases ha with ha | ⟨j, hj, hj2⟩
      · exact h.apart i (.inr (.inl (by rw [← ha]; exact h1)))
      · rw [hj] at h1; cases h1; exact hnew _ hj2
    · exact h.apart i (.inr (.inr (.inl h1)))
    · rcases List.mem_append.1 hx with hx | hx
      · exact h.apart i (.inr (.inr (.inr ⟨x, hx, h1⟩)))
      · simp only [List.mem_singleton] at hx
        subst hx
        exact hnew _ (row_lo hd.2 i h1).1
  · intro i hi
    rcases hsub i hi with h1 | h1
    · exact h.low i h1
    · omega
def addFv (bw be : Nat) : Fv := ⟨118, #[], #[.pointer (some ⟨bw, 0, none⟩), .pointer (some ⟨be, 0, none⟩)]⟩
theorem addFv_in (bw be : Nat) : (addFv bw be).In := fun a w => enters_of Tryz.func118 (by kernel_rfl) rfl a w
set_option maxRecDepth 100000 in
set_option maxHeartbeats 1600000 in
theorem add1_any {lo W g b lim : Nat} {m : List Dk.Ent} {ve vs : Value} {xs : List EA} {w : World} {c : Ct} {t : Dk.St} (h : WmX lo W g b lim m ve vs xs w c t) (hl : c.lg.es.length ≤ 2000000) (e : E) (he : e.Ok) (hi : e.idx = c.lg.last + 1) (bw be : Nat) (A : Option Addr) (cap : Nat) (hw : w.cell? ⟨bw, 0, none⟩ = some (.pointer (some ⟨W, 0, none⟩)))
    (k0 : w.cell? ⟨be, 0, none⟩ = some (.int .i64 (e.idx : Int))) (k1 : w.cell? ⟨be, 1, none⟩ = some (.int .i64 (e.term : Int))) (k2 : w.cell? ⟨be, 2, none⟩ = some (.int .i64 (e.kind : Int))) (k3 : w.cell? ⟨be, 3, none⟩ = some (.slice A e.data.length cap)) (hr : Rd w A e.data.length e.data) (hA : A = none → cap = 0) :
    Calls Tryz.prog 118 #[.pointer (some ⟨bw, 0, none⟩), .pointer (some ⟨be, 0, none⟩)] w (StpI lo W g b lim (WFt W g b m ve vs) w (spLog (fun l => l.add e) c t)) := by
  have hdr : Below w.heap.size w w.drew := (Below.refl _ _).drew
  have hX := h.below hdr
  have HX := Lib.hid hX
  have HB := Lib.hid hdr
  have hlen : c.lg.es.length = xs.length := by rw [h.ct.es]; simp
  have HOK := Lib.hid (h.ct.ok.1.add he hi)
  have HADD := Lib.hid (add_any W 3 (wcs g lim c ve vs) 88 lo ve xs ⟨e, A, cap⟩ w.drew hX.ct.blk rfl hX.ct.t1 hX.ct.t3 hX.ct.rE hX.size (hr.below hdr) hA he.2.2.2.2.1 (by omega))
  have d0 : w.drew.cell? ⟨bw, 0, none⟩ = some (.pointer (some ⟨W, 0, none⟩)) := hw
  have d1 : w.drew.cell? ⟨be, 0, none⟩ = some (.int .i64 (e.idx : Int)) := k0
  have d2 : w.drew.cell? ⟨be, 1, none⟩ = some (.int .i64 (e.term : Int)) := k1
  have d3 : w.drew.cell? ⟨be, 2, none⟩ = some (.int .i64 (e.kind : Int)) := k2
  have d4 : w.drew.cell? ⟨be, 3, none⟩ = some (.slice A e.data.length cap) := k3
  have c3 := hX.ct.blk.cell 3 _ rfl
  unfold entV at HADD
  simp only at HADD
  obtain ⟨ei, hei⟩ : ∃ v, e.idx = v := ⟨_, rfl⟩
  obtain ⟨et, het⟩ : ∃ v, e.term = v := ⟨_, rfl⟩
  obtain ⟨ek, hek⟩ : ∃ v, e.kind = v := ⟨_, rfl⟩
  obtain ⟨dl, hdl⟩ : ∃ v, e.data.length = v := ⟨_, rfl⟩
  rw [hei] at d1 HADD
  rw [het] at d2 HADD
  rw [hek] at d3 HADD
  rw [hdl] at d4 HADD
  clear h hl he hi hw k0 k1 k2 k3 hr hdr hX hlen hei het hek hdl hA
  go_enter Tryz.func118, Tryz.ntmps118
  go_wp2_with fail
  go_still_tail 5, (by kernel_rfl)
  change wpList _ _ _ _ _ w.drew
  generalize w.drew = w4 at *
  go_wp2_with fail
  refine HADD.out.mono ?_
  rintro e5 w5 ⟨rfl, v', y, y1, y2, y3, y4, y5, y6⟩
  have HF := Lib.hid (HX.out.addE y2 y3 y4 y5 y6 (by rw [y1]; exact HOK.out))
  have HY := Lib.hid y1
  clear y1 y2 y3 y4 y5 y6
  go_wp2_with fail
  go_ret
  have hq := HF.out
  rw [HY.out] at hq
  exact StpI.then (Dk.Fr.below HB.out) (fun i hi => .inl hi) ⟨rfl, _, ⟨m, v', vs, _, hq.1, rfl⟩, hq.2.1, hq.2.2⟩
end Go.Proofs.YtnppomiggajhnaaGreatDoor.Wl

namespace Go.Proofs.YtnppomiggajhnaaGreatDoor.Wl
open Go.RowKit Go.Proofs.YtnppomiggajhnaaGreatDoor.Fld
set_option linter.unusedVariables false

theorem entry_len (e : E) (he : e.Ok) : (Rc.recd (chC (.entry e))).length ≤ 65536 := by
  obtain ⟨h1, h2, h3, h4, h5, h6⟩ := he
  unfold MI at h2 h3
  have h := enc_len [1, e.idx, e.term, e.kind] (by simp; omega)
  have h7 := digs_len8 e.data.length (by omega)
  have e8 : (chC (.entry e)).length = (enc [1, e.idx, e.term, e.kind]).length + (textC e.data).length := List.length_append
  rw [Rc.recd_len, e8, textC_len]
  simp only [List.length_cons, List.length_nil] at h
  omega
/-- what a step that was carried out makes of the segments -/
structure Grown (k : Nat) (L : List Sg) (c : Ct) (t : Dk.St) (q : Int × Ct × Dk.St) : Prop where
  lg : q.2.1.lg = c.lg
  segs : ∃ L' S', q.2.1.segs = L' ++ [S'] ∧ L'.length ≤ L.length + 1 ∧ S'.size ≤ 1099511627776
  fs : q.2.2.fs.length ≤ t.fs.length + k
theorem spCreate_ok (n : Nat) (c : Ct) (t : Dk.St) (hn : n ≤ 99999999) (hl : c.lg.last ≤ MI) (h : (spCreate n c t).1 = 0) : (spCreate n c t).2.1.lg = c.lg ∧ (∃ S', (spCreate n c t).2.1.segs = c.segs ++ [S'] ∧ S'.size ≤ 1099511627776) ∧ (spCreate n c t).2.2.fs.length ≤ t.fs.length + 2 := by
  have hb := head_len n (c.lg.last + 1) (by omega) (by unfold MI at hl; omega)
  unfold spCreate at h ⊢
  generalize Rc.recd (chC (.head n (c.lg.last + 1))) = B at hb h ⊢
  obtain ⟨c1, hc1⟩ : ∃ c1 : Ct, (⟨c.lg, c.segs ++ [⟨n, c.lg.last + 1, 0⟩]⟩ : Ct) = c1 := ⟨_, rfl⟩
  rw [hc1] at h ⊢
  have ha := Dk.app_len (segN (lastN c1)) B t
  by_cases h0 : (spWrite B c1 t).1 = 0
  · rw [spRun_ok h0, spRun_one] at h ⊢
    have e1 : (spWrite B c1 t).2.1 = ⟨c1.lg, addSz B.length c1.segs⟩ := if_pos h0
    have hs := Dk.sync_len (segN (lastN (spWrite B c1 t).2.1)) (spWrite B c1 t).2.2
    have e2 : (spWrite B c1 t).2.2.fs.length ≤ t.fs.length + 1 := ha
    refine ⟨?_, ⟨⟨n, c.lg.last + 1, 0 + B.length⟩, ?_, by show 0 + B.length ≤ _; omega⟩, ?_⟩
    · show (spWrite B c1 t).2.1.lg = _
      rw [e1, ← hc1]
    · show (spWrite B c1 t).2.1.segs = _
      rw [e1, ← hc1]
      exact addSz_snoc _ _ _
    · show (Dk.stSync (segN (lastN (spWrite B c1 t).2.1)) (spWrite B c1 t).2.2).2.fs.length ≤ _
      omega
  · rw [spRun_no h0] at h
    exact absurd h h0
theorem spRoom_ok (lim : Nat) {c : Ct} (t : Dk.St) {L : List Sg} {S : Sg} (hs : c.segs = L ++ [S]) (hn : S.num ≤ 99999999) (hz : S.size ≤ 1099511627776) (hl : c.lg.last ≤ MI) (h : (spRoom lim c t).1 = 0) : Grown 3 L c t (spRoom lim c t) := by
  have HRO : spRoom lim c t = if S.size < lim ∨ S.num = 99999999 then (0, c, t) else spRun [spSync, spCreate (S.num + 1)] c t := by unfold spRoom; rw [hs, List.getLast?_append]; rfl
  rw [HRO] at h ⊢
  split at h
  · rename_i h1
    rw [if_pos h1]
    exact ⟨rfl, ⟨L, S, hs, by omega, hz⟩, by show t.fs.length ≤ _; omega⟩
  · rename_i h1
    rw [if_neg h1]
    have hy := Dk.sync_len (segN (lastN c)) t
    by_cases h0 : (spSync c t).1 = 0
    · rw [spRun_ok h0, spRun_one] at h ⊢
      have e1 : (spSync c t).2.1 = c := rfl
      have e2 : (spSync c t).2.2.fs.length ≤ t.fs.length + 1 := hy
      rw [e1] at h ⊢
      obtain ⟨q1, ⟨S', q2, q3⟩, q4⟩ := spCreate_ok (S.num + 1) c (spSync c t).2.2 (by omega) hl h
      exact ⟨q1, ⟨c.segs, S', q2, by rw [hs]; simp, q3⟩, by omega⟩
    · rw [spRun_no h0] at h
      exact absurd h h0
def roomFv (W : Nat) : Fv := ⟨116, #[.pointer (some ⟨W, 0, none⟩)], #[]⟩
theorem roomFv_in (W : Nat) : (roomFv W).In := fun a w => enters_of Tryz.func116 (by kernel_rfl) rfl a w
/-- the three steps by run -/
theorem arun_any {lo W g b lim : Nat} {F : List Nat} {w : World} {c : Ct} {t : Dk.St} (hW : WmS lo W g b lim F w c t) {L : List Sg} {S : Sg} (hs : c.segs = L ++ [S]) (hl : L.length ≤ 880000) (hz : S.size ≤ 1099511627776) (hm : t.fs.length ≤ 870000) (hes : c.lg.es.length ≤ 2000000) (e : E) (he : e.Ok) (hi : e.idx = c.lg.last + 1)
    (X bw1 bb1 bw2 be : Nat) (A : Option Addr) (cap : Nat) (A2 : Option Addr) (n2 cap2 : Nat)
    (hX0 : w.cell? ⟨X, 0, none⟩ = some (roomFv W).val) (hX1 : w.cell? ⟨X, 1, none⟩ = some (writeFv bw1 bb1).val) (hX2 : w.cell? ⟨X, 2, none⟩ = some (addFv bw2 be).val)
    (h1 : w.cell? ⟨bw1, 0, none⟩ = some (.pointer (some ⟨W, 0, none⟩))) (h2 : w.cell? ⟨bb1, 0, none⟩ = some (.slice A2 n2 cap2)) (h3 : w.cell? ⟨bw2, 0, none⟩ = some (.pointer (some ⟨W, 0, none⟩)))
    (k0 : w.cell? ⟨be, 0, none⟩ = some (.int .i64 (e.idx : Int))) (k1 : w.cell? ⟨be, 1, none⟩ = some (.int .i64 (e.term : Int))) (k2 : w.cell? ⟨be, 2, none⟩ = some (.int .i64 (e.kind : Int))) (k3 : w.cell? ⟨be, 3, none⟩ = some (.slice A e.data.length cap))
    (hr : Rd w A e.data.length e.data) (hA : A = none → cap = 0) (hAF : 0 < e.data.length → ∀ a, A = some a → a.block ∉ F) (hr2 : Rd w A2 n2 (Rc.recd (chC (.entry e)))) (hA2 : A2 = none → cap2 = 0) (hAF2 : ∀ a, A2 = some a → a.block ∉ F)
    (hXF : X ∉ F) (o1 : bw1 ∉ F) (o2 : bb1 ∉ F) (o3 : bw2 ∉ F) (o4 : be ∉ F) :
    Calls Tryz.prog 41 #[.slice (some ⟨X, 0, none⟩) 3 3] w (StpI lo W g b lim F w (spAdd lim e c t)) := by
  have hn2 : n2 ≤ 65536 := by rw [← hr2.1]; exact entry_len e he
  have hok : c.lg.last ≤ MI := by obtain ⟨m, ve, vs, xs, hX, _⟩ := hW; exact hX.ct.ok.1.1
  have hnum : S.num ≤ 99999999 := by obtain ⟨m, ve, vs, xs, hX, _⟩ := hW; exact (hX.ct.ok.2 S (by rw [hs]; simp)).2.1
  refine run_sp (some ⟨X, 0, none⟩) 3 3 [(roomFv W, spRoom lim), (writeFv bw1 bb1, spWrite (Rc.recd (chC (.entry e)))), (addFv bw2 be, spLog fun l => l.add e)] c t hW rfl (by unfold maxLen; omega) ⟨rfl, by unfold maxLen; omega, fun _ => ⟨X, 0, rfl, fun i f hi => ?_⟩⟩ (fun _ a ha => by cases ha; exact hXF) (fun f hf => ?_)
    (fun i c' t' => (i ≤ 2 → c'.lg = c.lg) ∧ (i = 0 → c' = c ∧ t' = t) ∧ (i = 1 → (∃ L S, c'.segs = L ++ [S] ∧ L.length ≤ 900000 ∧ S.size ≤ 1099511627776) ∧ t'.fs.length ≤ 900000)) ⟨fun _ => rfl, fun _ => ⟨rfl, rfl⟩, fun h => by omega⟩ (fun i f hi' c' t' hp hr0 => ?_) (fun i f hi' F' w' c' t' hW' hfr hsub hp => ?_)
  · rcases i with _ | _ | _ | i
    · simp at hi; subst hi; exact hX0
    · simp at hi; subst hi; exact hX1
    · simp at hi; subst hi; exact hX2
    · simp at hi
  · simp only [List.mem_cons, List.not_mem_nil, or_false] at hf
    rcases hf with rfl | rfl | rfl
    · exact roomFv_in _
    · exact writeFv_in _ _
    · exact addFv_in _ _
  · obtain ⟨p1, p2, p3⟩ := hp
    rcases i with _ | _ | _ | i
    · simp at hi'
      subst hi'
      obtain ⟨rfl, rfl⟩ := p2 rfl
      have hg := spRoom_ok lim t' hs hnum hz hok hr0
      refine ⟨fun _ => hg.lg, fun h => by omega, fun _ => ⟨?_, by have := hg.fs; show (spRoom lim c' t').2.2.fs.length ≤ _; omega⟩⟩
      obtain ⟨L', S', g1, g2, g3⟩ := hg.segs
      exact ⟨L', S', g1, by omega, g3⟩
    · simp at hi'
      subst hi'
      refine ⟨fun _ => ?_, fun h => by omega, fun h => by omega⟩
      show (if (Dk.stAppend (segN (lastN c')) _ t').1 = 0 then (⟨c'.lg, addSz _ c'.segs⟩ : Ct) else c').lg = _
      split
      · exact p1 (by omega)
      · exact p1 (by omega)
    · exact ⟨fun h => by omega, fun h => by omega, fun h => by omega⟩
    · simp at hi'
  · obtain ⟨p1, p2, p3⟩ := hp
    have q1 := out_of o1 h1 hsub
    have q2 := out_of o2 h2 hsub
    have q3 := out_of o3 h3 hsub
    have q4 := out_of o4 k0 hsub
    obtain ⟨m', ve', vs', xs', hX', rfl⟩ := hW'
    rcases i with _ | _ | _ | i
    · simp at hi'
      subst hi'
      obtain ⟨rfl, rfl⟩ := p2 rfl
      exact room_any hX' hs (by omega) hz (by omega)
    · simp at hi'
      subst hi'
      obtain ⟨⟨L', S', e1, e2, e3⟩, e4⟩ := p3 rfl
      exact write1_any hX' e1 e2 e3 e4 bw1 bb1 (hfr.cell h1 o1) A2 n2 cap2 _ (hfr.cell h2 o2) (Rd.frm hr2 hfr fun _ => hAF2) hA2 hn2 q1 q2
    · simp at hi'
      subst hi'
      exact add1_any hX' (by rw [p1 (by omega)]; exact hes) e he (by rw [p1 (by omega)]; exact hi) bw2 be A cap (hfr.cell h3 o3) (hfr.cell k0 o4) (hfr.cell k1 o4) (hfr.cell k2 o4) (hfr.cell k3 o4) (Rd.frm hr hfr hAF) hA
    · simp at hi'
end Go.Proofs.YtnppomiggajhnaaGreatDoor.Wl

namespace Go.Proofs.YtnppomiggajhnaaGreatDoor.Wl
open Go.RowKit Go.Proofs.YtnppomiggajhnaaGreatDoor.Fld
set_option linter.unusedVariables false

set_option maxRecDepth 100000 in
set_option maxHeartbeats 3200000 in
theorem wadd_any {lo W g b lim : Nat} {m : List Dk.Ent} {ve vs : Value} {xs : List EA} {w : World} {c : Ct} {t : Dk.St} (h : WmX lo W g b lim m ve vs xs w c t) {L : List Sg} {S : Sg} (hs : c.segs = L ++ [S]) (hl : L.length ≤ 880000) (hz : S.size ≤ 1099511627776) (hm : t.fs.length ≤ 870000) (hes : c.lg.es.length ≤ 2000000) (e : E) (he : e.Ok) (hi : e.idx = c.lg.last + 1)
    (A : Option Addr) (cap : Nat) (hr : Rd w A e.data.length e.data) (hA : A = none → cap = 0) (hAF : 0 < e.data.length → ∀ a, A = some a → a.block ∉ WFt W g b m ve vs) :
    Calls Tryz.prog 63 #[.pointer (some ⟨W, 0, none⟩), entV e A cap] w (StpI lo W g b lim (WFt W g b m ve vs) w (spAdd lim e c t)) := by
  have HX := Lib.hid h
  have HS := Lib.hid hs
  have HE := Lib.hid he
  have HI := Lib.hid hi
  have HR := Lib.hid hr
  have HAF := Lib.hid hAF
  have HA := Lib.hid hA
  have HOUT := Lib.hid (show ∀ i, w.heap.size ≤ i → i ∉ WFt W g b m ve vs from fun i hi hm => by have := HX.out.lt i hm; omega)
  obtain ⟨w1, hw1⟩ : ∃ w1, w.alloc (.cells #[.pointer (some ⟨W, 0, none⟩)] 31) = w1 := ⟨_, rfl⟩
  have b1 := Blk.new w #[.pointer (some ⟨W, 0, none⟩)] 31
  have z1 : w1.heap.size = w.heap.size + 1 := by rw [← hw1]; simp
  obtain ⟨w2, hw2⟩ : ∃ w2, w1.alloc (.cells #[.int .i64 (e.idx : Int), .int .i64 (e.term : Int), .int .i64 (e.kind : Int), .slice A e.data.length cap] 63) = w2 := ⟨_, rfl⟩
  have b2 := Blk.new w1 #[.int .i64 (e.idx : Int), .int .i64 (e.term : Int), .int .i64 (e.kind : Int), .slice A e.data.length cap] 63
  have b12 := b1.past (.cells #[.int .i64 (e.idx : Int), .int .i64 (e.term : Int), .int .i64 (e.kind : Int), .slice A e.data.length cap] 63)
  rw [hw1] at b1 b12
  rw [hw2] at b2 b12
  rw [z1] at b2
  have hb2 : Below w.heap.size w w2 := by
    rw [← hw2, ← hw1]
    exact (alloc_below' w _).trans ((alloc_below' _ _).mono (by simp))
  have HB2 := Lib.hid hb2
  have HC := Lib.hid (show ∀ w', Below w2.heap.size w2 w' → w'.cell? ⟨w.heap.size, 0, none⟩ = some (.pointer (some ⟨W, 0, none⟩)) ∧ w'.cell? ⟨w.heap.size + 1, 0, none⟩ = some (.int .i64 (e.idx : Int)) ∧ w'.cell? ⟨w.heap.size + 1, 1, none⟩ = some (.int .i64 (e.term : Int)) ∧ w'.cell? ⟨w.heap.size + 1, 2, none⟩ = some (.int .i64 (e.kind : Int)) ∧ w'.cell? ⟨w.heap.size + 1, 3, none⟩ = some (.slice A e.data.length cap) from fun w' hb => ⟨(hb.cell (lt_of_cell (b12.cell 0 _ rfl))).trans (b12.cell 0 _ rfl), (hb.cell (lt_of_cell (b2.cell 0 _ rfl))).trans (b2.cell 0 _ rfl), (hb.cell (lt_of_cell (b2.cell 1 _ rfl))).trans (b2.cell 1 _ rfl), (hb.cell (lt_of_cell (b2.cell 2 _ rfl))).trans (b2.cell 2 _ rfl), (hb.cell (lt_of_cell (b2.cell 3 _ rfl))).trans (b2.cell 3 _ rfl)⟩)
  have HER := Lib.hid (fun (w' : World) (hb : Below w.heap.size w w') => entryRecord_any e A cap w' he (hr.below hb) hA)
  have HW1 := Lib.hid hw1
  have HW2 := Lib.hid hw2
  have HWS := Lib.hid (show w.heap.size < w2.heap.size ∧ w.heap.size + 1 < w2.heap.size from ⟨b12.lt, b2.lt⟩)
  obtain ⟨n, hn⟩ : ∃ n, e.data.length = n := ⟨_, rfl⟩
  have HN := Lib.hid hn
  unfold entV at HER ⊢
  clear h hs he hi hr hA hAF b1 b2 b12 hb2 z1 hw1 hw2
  rw [hn] at HC HER HW2 ⊢
  clear hn
  go_enter Tryz.func63, Tryz.ntmps63
  go_wp2_with fail
  rw [HW1.out, HW2.out]
  obtain ⟨x0, x1, x2, x3, x4⟩ := HC.out w2 (Below.refl _ _)
  have HBE := Lib.hid (Nat.le_succ w.heap.size)
  rw [show w.heap.size.succ = w.heap.size + 1 from rfl] at HBE
  generalize w.heap.size + 1 = be at *
  go_region_held3 (fun w' => w'.cell? ⟨w.heap.size, 0, none⟩ = some (.pointer (some ⟨W, 0, none⟩)) ∧ w'.cell? ⟨be, 0, none⟩ = some (.int .i64 (e.idx : Int)) ∧ w'.cell? ⟨be, 1, none⟩ = some (.int .i64 (e.term : Int)) ∧ w'.cell? ⟨be, 2, none⟩ = some (.int .i64 (e.kind : Int)) ∧ w'.cell? ⟨be, 3, none⟩ = some (.slice A n cap)) (first | exact ⟨by assumption, by assumption, by assumption, by assumption, by assumption⟩ | go_keep) (first
    | (go_at_call 117; refine (HER.out _ (by first | exact HB2.out | exact HB2.out.drew)).mono ?_; rintro e5 w5 ⟨v5, rfl, hO5⟩; have HB5 := Lib.hid (show Below w2.heap.size w2 w5 from (by first | exact hO5.1 | exact (Below.refl _ _).drew.trans hO5.1)); obtain ⟨A5, c5, rfl, hs5, ha5⟩ := hO5.sl _ rfl; have HSL5 := Lib.hid hs5; have HA5 := Lib.hid (show ∀ a, A5 = some a → w2.heap.size ≤ a.block from ha5); obtain ⟨q0, q1, q2, q3, q4⟩ := HC.out w5 HB5.out; clear hO5 hs5 ha5)
    | (go_at_call 66; refine (writing_any W A5 _ c5 _).mono ?_; rintro e6 w6 ⟨bw6, bb6, rfl, hc6, hd6, hl6, hl6', hb6⟩; have HB6 := Lib.hid (HB5.out.trans (hb6.mono HB5.out.size)); have HC6 := Lib.hid (And.intro hc6 hd6); have HL6 := Lib.hid (And.intro (Nat.le_trans HB5.out.size hl6) (Nat.le_trans HB5.out.size hl6')); have HRD6 := Lib.hid (Rd.below HSL5.out.1 hb6); obtain ⟨r0, r1, r2, r3, r4⟩ := HC.out w6 HB6.out; unfold Fv.val writeFv; clear hc6 hd6 hl6 hl6' hb6)
    | (go_at_call 41; have HBX := Lib.hid (HB6.out.alloc HB6.out.size (.cells #[(roomFv W).val, (writeFv bw6 bb6).val, (addFv w.heap.size be).val] 102)); have HBW := Lib.hid (HB2.out.trans (HBX.out.mono HB2.out.size)); obtain ⟨t0, t1, t2, t3, t4⟩ := HC.out _ HBX.out; refine (arun_any (F := WFt W g b m ve vs) (w := w6.alloc (.cells #[(roomFv W).val, (writeFv bw6 bb6).val, (addFv w.heap.size be).val] 102)) ⟨m, ve, vs, xs, HX.out.below HBW.out, rfl⟩ HS.out hl hz hm hes e HE.out HI.out w6.heap.size bw6 bb6 w.heap.size be A cap A5 _ c5 ((Blk.new w6 _ _).cell 0 _ rfl) ((Blk.new w6 _ _).cell 1 _ rfl) ((Blk.new w6 _ _).cell 2 _ rfl) (((alloc_below' w6 _).cell (lt_of_cell HC6.out.1)).trans HC6.out.1) (((alloc_below' w6 _).cell (lt_of_cell HC6.out.2)).trans HC6.out.2) t0 t1 t2 t3 (by rw [HN.out]; exact t4) (HR.out.below HBW.out) HA.out HAF.out (HRD6.out.below (alloc_below' w6 _)) HSL5.out.2.2.2.1 (fun a ha => HOUT.out _ (Nat.le_trans HB2.out.size (HA5.out a ha))) (HOUT.out _ (Nat.le_trans HB2.out.size HB6.out.size)) (HOUT.out _ (Nat.le_trans HB2.out.size HL6.out.1)) (HOUT.out _ (Nat.le_trans HB2.out.size HL6.out.2)) (HOUT.out _ (Nat.le_refl _)) (HOUT.out _ HBE.out)).mono ?_; rintro e8 w8 ⟨rfl, hQ⟩; have HQ := Lib.hid hQ; obtain ⟨F8, hW8, hF8, hS8⟩ := hQ; have u0 := hF8.cell t0 (HOUT.out _ (Nat.le_refl _)); have u1 := hF8.cell t1 (HOUT.out _ HBE.out); have u2 := hF8.cell t2 (HOUT.out _ HBE.out); have u3 := hF8.cell t3 (HOUT.out _ HBE.out); have u4 := hF8.cell t4 (HOUT.out _ HBE.out); clear hW8 hF8 hS8 t0 t1 t2 t3 t4))
  all_goals (try go_wp2_with fail)
  all_goals go_ret
  all_goals exact StpI.then (Dk.Fr.below HBW.out) (fun i hi => .inl hi) ⟨rfl, HQ.out⟩
end Go.Proofs.YtnppomiggajhnaaGreatDoor.Wl
