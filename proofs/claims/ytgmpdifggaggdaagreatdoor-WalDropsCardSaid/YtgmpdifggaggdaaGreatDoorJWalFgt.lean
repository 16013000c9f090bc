/-
  Several texts in one: Layer 6, in the program: forget: the disk is read again, the first segments are forgotten. Conditions: the Wal and its disk lie in memory (WmX), the disk is on, there are as many segments. Layer 6, in the program: the last closure of Drop; the steps of Drop by run. Conditions: the Wal and its disk lie in memory (WmS), the disk is on; the closures' variables hold what they should. Layer 6, in the program: Drop. Conditions: the Wal and its disk lie in memory (WmX), the disk is on. The plain mathematics of layer 6: logs of heads and entries alone; what a scan finds that begins at a later segment. Conditions: as each theorem states. Layer 6: WalBack. Conditions: the entries and the numbers can be read.
-/
import Derived.Test.YtgmpdifggaggdaaGreatDoorJWalMch
import Derived.Test.YtgmpdifggaggdaaGreatDoorJWalRst
import Derived.Test.YtgmpdifggaggdaaGreatDoorJWalScA
import Derived.Test.YtgmpdifggaggdaaGreatDoorJWalOp
import Derived.Test.YtgmpdifggaggdaaGreatDoorJWalLogB
import Derived.Test.YtgmpdifggaggdaaGreatDoorJWalIny
namespace Go.Proofs.YtgmpdifggaggdaaGreatDoor.Wl
open Go.RowKit Go.Proofs.YtgmpdifggaggdaaGreatDoor.Fld
set_option linter.unusedVariables false

theorem StpI.forgot {lo W g b lim : Nat} {m : List Dk.Ent} {ve vs ve' vs9 vs2 : Value} {xs xs' : List EA} {w w1 w3 : World} {c c9 : Ct} {t : Dk.St} (h : WmX lo W g b lim m ve vs xs w c t) (hct : CtV (w.heap.size + 1) w1 ve' vs9 xs' c9) (hb : Below w.heap.size w w1) (o : Obj) (r : Int) (old : Nat)
    (hrow : w3.ownsRow lo 69 3 vs2 (c.segs.drop old).length (rowS (c.segs.drop old))) (hv2 : vs2.ownBlock = vs.ownBlock)
    (hfr3 : Dk.Fr vs.ownBlock.toList (((w1.alloc o).setCell ⟨W, 3, none⟩ (.int .i64 (c9.lg.base : Int))).setCell ⟨W, 4, none⟩ ve') w3) :
    StpI lo W g b lim (WFt W g b m ve vs) w (r, ⟨c9.lg, c.segs.drop old⟩, t) (.returned (.int .i64 r)) (w3.setCell ⟨W, 5, none⟩ vs2) := by
  have hsz := h.size
  have hW := h.ct.blk.lt
  have hba : Below w.heap.size w (w1.alloc o) := hb.alloc hb.size o
  have hXa := h.below hba
  have hVW : vs.ownBlock ≠ some W := row_ne h.ct.rS h.ct.blk h.ct.t2
  have hvlt : ∀ i, vs.ownBlock = some i → i < w.heap.size := fun i hi => (row_lo h.ct.rS i hi).2
  have h1s := hb.size
  have hs2 : (((w1.alloc o).setCell ⟨W, 3, none⟩ (.int .i64 (c9.lg.base : Int))).setCell ⟨W, 4, none⟩ ve').heap.size = w1.heap.size + 1 := by simp
  have hWv : W ∉ vs.ownBlock.toList := fun hm => hVW (by simpa using hm)
  -- what the blocks but W and the row's own hold
  have hk : ∀ i, i ≠ W → vs.ownBlock ≠ some i → i < w1.heap.size → (w3.setCell ⟨W, 5, none⟩ vs2).heap[i]? = w1.heap[i]? := by
    intro i hi hv hl
    rw [Below.heap_setCell _ _ _ _ (by simp only; omega), hfr3.block i (by rw [hs2]; omega) (fun hm => hv (by simpa using hm)), Below.heap_setCell _ _ _ _ (by simp only; omega), Below.heap_setCell _ _ _ _ (by simp only; omega)]
    exact Below.heap_alloc _ _ _ hl
  have hblk : Blk (w3.setCell ⟨W, 5, none⟩ vs2) W (wcs g lim ⟨c9.lg, c.segs.drop old⟩ ve' vs2) 61 := by
    have h2 : Blk (((w1.alloc o).setCell ⟨W, 3, none⟩ (.int .i64 (c9.lg.base : Int))).setCell ⟨W, 4, none⟩ ve') W _ 61 := (hXa.ct.blk.set 3 (.int .i64 (c9.lg.base : Int)) (by simp [wcs])).set 4 ve' (by simp [wcs])
    have h3 := h2.of (hfr3.block W h2.lt hWv)
    exact h3.set 5 vs2 (by simp [wcs])
  have hfr : Dk.Fr (WFt W g b m ve vs) w (w3.setCell ⟨W, 5, none⟩ vs2) :=
    ((((Dk.Fr.below hba).setCell ⟨W, 3, none⟩ (.inl (by simp [WFt, CtF])) _).setCell ⟨W, 4, none⟩ (.inl (by simp [WFt, CtF])) _).same (hfr3.mono (fun i hi => by
      unfold WFt CtF
      simp only [List.mem_cons, List.mem_append]
      exact .inr (.inr (.inr (.inr (.inr hi))))))).setCell ⟨W, 5, none⟩ (.inl (by simp [WFt, CtF])) _
  have hge : ∀ i, InFoot W ve' vs2 xs' i → i = W ∨ vs.ownBlock = some i ∨ (w.heap.size + 1 ≤ i ∧ i < w1.heap.size) := by
    rintro i (rfl | hi | hi | ⟨x, hx, hi⟩)
    · exact .inl rfl
    · exact .inr (.inr (row_lo hct.rE i hi))
    · rw [hv2] at hi; exact .inr (.inl hi)
    · exact .inr (.inr (row_lo (hct.dat x hx).2 i hi))
  have hsub : ∀ i ∈ WFt W g b m ve' vs2, i ∈ WFt W g b m ve vs ∨ w.heap.size ≤ i := by
    intro i hi
    unfold WFt CtF at hi ⊢
    simp only [List.mem_cons, List.mem_append, Option.mem_toList] at hi ⊢
    rcases hi with h1 | h1 | h1 | h1 | h1 | h1
    · exact .inl (.inl h1)
    · exact .inl (.inr (.inl h1))
    · exact .inl (.inr (.inr (.inl h1)))
    · exact .inl (.inr (.inr (.inr (.inl h1))))
    · have := (row_lo hct.rE i h1).1; exact .inr (by omega)
    · rw [hv2] at h1; exact .inl (.inr (.inr (.inr (.inr (.inr h1)))))
  refine ⟨rfl, _, ⟨m, ve', vs2, xs', ⟨?_, ⟨hblk, rfl, rfl, rfl, hct.es, ?_, ?_, ?_, ⟨hct.ok.1, fun s hs => h.ct.ok.2 s (List.mem_of_mem_drop hs)⟩, h.ct.t1, h.ct.t2, h.ct.t3⟩, ?_, ?_, ?_, h.glo, h.lim1, h.lim2⟩, rfl⟩, hfr, hsub⟩
  · have hX1 := (h.below hb).im
    exact hX1.of_blocks fun i hi => hk i (by rintro rfl; exact h.apart _ (.inl rfl) hi) (fun hv => h.apart i (.inr (.inr (.inl hv))) hi) (hX1.lt i hi)
  · exact row_of (row_lower hct.rE (by omega)) (fun i hi => hk i (by have := (row_lo hct.rE i hi).1; omega) (fun hv => by have := hvlt i hv; have := (row_lo hct.rE i hi).1; omega) (row_lo hct.rE i hi).2)
  · refine row_of hrow (fun i hi => Below.heap_setCell _ _ _ _ ?_)
    rw [hv2] at hi
    rintro rfl
    exact hVW hi
  · exact fun x hx => ⟨(hct.dat x hx).1, row_of (row_lower (hct.dat x hx).2 (by omega)) (fun i hi => hk i (by have := (row_lo (hct.dat x hx).2 i hi).1; omega) (fun hv => by have := hvlt i hv; have := (row_lo (hct.dat x hx).2 i hi).1; omega) (row_lo (hct.dat x hx).2 i hi).2)⟩
  · intro i hi hm
    rcases hge i hi with rfl | h1 | h1
    · exact h.apart _ (.inl rfl) hm
    · exact h.apart _ (.inr (.inr (.inl h1))) hm
    · have := h.im.lt i hm; omega
  · exact h.base_fr hfr h.low
  · intro i hi
    rcases hsub i hi with h1 | h1
    · exact h.low i h1
    · omega
set_option maxRecDepth 100000 in
set_option maxHeartbeats 3200000 in
theorem forget_any {lo W g b lim : Nat} {m : List Dk.Ent} {ve vs : Value} {xs : List EA} {w : World} {c : Ct} {t : Dk.St} (h : WmX lo W g b lim m ve vs xs w c t) (ho : t.off = false) (hm : t.fs.length ≤ 900000) (old : Nat) (h1 : 1 ≤ old) (h2 : old ≤ c.segs.length) :
    Calls Tryz.prog 31 #[.pointer (some ⟨W, 0, none⟩), .int .i64 (old : Int)] w (StpI lo W g b lim (WFt W g b m ve vs) w (spForget old c t)) := by
  have HX := Lib.hid h
  have HS := Lib.hid (scan_any g b m t w h.im h.base ho hm)
  have c0 := h.ct.blk.cell 0 (.pointer (some ⟨g, 0, none⟩)) rfl
  have HR := Lib.hid (show spForget old c t = (0, ⟨(scanD t.fs).lg, c.segs.drop old⟩, t) from rfl)
  clear h
  generalize spForget old c t = R at *
  generalize scanD t.fs = c9 at *
  go_enter Tryz.func31, Tryz.ntmps31
  go_wp2_with fail
  refine HS.out.mono ?_
  clear HS
  rintro e w1 ⟨ve', vs9, xs', rfl, hct, hb⟩
  have HCT := Lib.hid hct
  have HB := Lib.hid hb
  obtain ⟨EA1, ec1, hve, _⟩ := row_slice hct.rE
  obtain ⟨SA9, sc9, hvs9, _⟩ := row_slice hct.rS
  obtain ⟨SA, sc, hvs, _⟩ := row_slice HX.out.ct.rS
  subst hve hvs9
  have hXa := HX.out.below (hb.alloc hb.size (.cells #[.int .i64 (c9.lg.base : Int), .slice EA1 xs'.length ec1, .slice SA9 c9.segs.length sc9] 59))
  have HOX := Lib.hid (Blk.new w1 #[.int .i64 (c9.lg.base : Int), .slice EA1 xs'.length ec1, .slice SA9 c9.segs.length sc9] 59)
  have z0 := HOX.out.cell 0 (.int .i64 (c9.lg.base : Int)) rfl
  have z1 := HOX.out.cell 1 (.slice EA1 xs'.length ec1) rfl
  obtain ⟨o, hO⟩ : ∃ o, Obj.cells #[.int .i64 (c9.lg.base : Int), .slice EA1 xs'.length ec1, .slice SA9 c9.segs.length sc9] 59 = o := ⟨_, rfl⟩
  rw [hO] at hXa z0 z1
  have HO := Lib.hid hO
  clear hO HOX
  obtain ⟨wa, hwa⟩ : ∃ wa, w1.alloc o = wa := ⟨_, rfl⟩
  rw [hwa] at hXa z0 z1
  have g3 := hXa.ct.blk.free 3
  have g4 := hXa.ct.blk.free 4
  have y3 : wa.cell? ⟨W, 3, none⟩ = some (.int .i64 (c.lg.base : Int)) := hXa.ct.blk.cell 3 _ rfl
  have y4 : wa.cell? ⟨W, 4, none⟩ = some ve := hXa.ct.blk.cell 4 _ rfl
  have hb2 : Blk ((wa.setCell ⟨W, 3, none⟩ (.int .i64 (c9.lg.base : Int))).setCell ⟨W, 4, none⟩ (.slice EA1 xs'.length ec1)) W _ 61 := (hXa.ct.blk.set 3 (.int .i64 (c9.lg.base : Int)) (by simp [wcs])).set 4 (.slice EA1 xs'.length ec1) (by simp [wcs])
  have hVW : vs.ownBlock ≠ some W := row_ne HX.out.ct.rS HX.out.ct.blk HX.out.ct.t2
  have hrow2 : ((wa.setCell ⟨W, 3, none⟩ (.int .i64 (c9.lg.base : Int))).setCell ⟨W, 4, none⟩ (.slice EA1 xs'.length ec1)).ownsRow lo 69 3 vs c.segs.length (rowS c.segs) :=
    row_of hXa.ct.rS (fun i hi => by
      have hne : i ≠ W := fun e => hVW (by rw [← e]; exact hi)
      rw [Below.heap_setCell _ _ _ _ (by simp only; exact hne), Below.heap_setCell _ _ _ _ (by simp only; exact hne)])
  have HW2 := Lib.hid (show ((w1.alloc o).setCell ⟨W, 3, none⟩ (.int .i64 (c9.lg.base : Int))).setCell ⟨W, 4, none⟩ (.slice EA1 xs'.length ec1) = (wa.setCell ⟨W, 3, none⟩ (.int .i64 (c9.lg.base : Int))).setCell ⟨W, 4, none⟩ (.slice EA1 xs'.length ec1) by rw [hwa])
  obtain ⟨w2, hw2⟩ : ∃ w2, (wa.setCell ⟨W, 3, none⟩ (.int .i64 (c9.lg.base : Int))).setCell ⟨W, 4, none⟩ (.slice EA1 xs'.length ec1) = w2 := ⟨_, rfl⟩
  rw [hw2] at hb2 hrow2 HW2
  subst hvs
  obtain ⟨q, hq, _, _⟩ := row_cellS hrow2 rfl 0 (by omega)
  subst hq
  obtain ⟨k, hk⟩ : ∃ k, c.segs.length = old + k := ⟨c.segs.length - old, by omega⟩
  have HD := Lib.hid (delS_any q c.segs.length sc 0 old k lo c.segs w2 hrow2 (by omega) hk)
  have HK := Lib.hid hk
  have HB2 := Lib.hid hb2
  have HHW := Lib.hid hwa
  have HHW2 := Lib.hid hw2
  have u5 : w2.cell? ⟨W, 5, none⟩ = some (.slice (some ⟨q, 0, none⟩) c.segs.length sc) := hb2.cell 5 _ rfl
  have hqW : q ≠ W := fun e => hVW (by rw [e]; rfl)
  have HQW := Lib.hid hqW
  clear hXa hb2 hrow2 hVW hk hct hb hwa hw2 hqW
  generalize hN : c.segs.length = N at *
  have HN := Lib.hid hN
  clear hN
  go_wp2_with (first | rw [HO.out] | rw [HHW.out] | rw [HHW2.out] | fail)
  refine HD.out.mono ?_
  rintro e w3 ⟨rfl, hrow3, hfr3⟩
  have hb3 : Blk w3 W _ 61 := HB2.out.of (hfr3.block W HB2.out.lt (by simp; exact fun e => HQW.out e.symm))
  have v5 : w3.cell? ⟨W, 5, none⟩ = some (.slice (some ⟨q, 0, none⟩) N sc) := hb3.cell 5 _ rfl
  have f5 := hb3.free 5
  have HR3 := Lib.hid hrow3
  have HF3 := Lib.hid hfr3
  clear hrow3 hfr3 hb3 u5 y3 y4 z0 z1 g3 g4
  go_wp2
  go_ret
  rw [HR.out]
  have hdl : (c.segs.drop old).length = 0 + k := by rw [List.length_drop, HN.out, HK.out]; omega
  refine StpI.forgot HX.out HCT.out HB.out o 0 old ?_ rfl ?_
  · rw [hdl]
    have := HR3.out
    rw [List.take_zero, List.nil_append] at this
    simp only [Nat.zero_add] at this ⊢
    exact this
  · rw [HW2.out]
    exact HF3.out
end Go.Proofs.YtgmpdifggaggdaaGreatDoor.Wl

namespace Go.Proofs.YtgmpdifggaggdaaGreatDoor.Wl
open Go.RowKit Go.Proofs.YtgmpdifggaggdaaGreatDoor.Fld
set_option linter.unusedVariables false

set_option maxRecDepth 100000 in
set_option maxHeartbeats 1600000 in
theorem drop2_any {lo W g b lim : Nat} {m : List Dk.Ent} {ve vs : Value} {xs : List EA} {w : World} {c : Ct} {t : Dk.St} (h : WmX lo W g b lim m ve vs xs w c t) (ho : t.off = false) (hm : t.fs.length ≤ 900000) (old : Nat) (h1 : 1 ≤ old) (h2 : old ≤ c.segs.length) (bw bo : Nat) (hw : w.cell? ⟨bw, 0, none⟩ = some (.pointer (some ⟨W, 0, none⟩))) (hs : w.cell? ⟨bo, 0, none⟩ = some (.int .i64 (old : Int))) :
    Calls Tryz.prog 30 #[.pointer (some ⟨bw, 0, none⟩), .pointer (some ⟨bo, 0, none⟩)] w (StpI lo W g b lim (WFt W g b m ve vs) w (spForget old c t)) := by
  have HF := Lib.hid (forget_any h ho hm old h1 h2)
  generalize spForget old c t = q at *
  clear h
  go_enter Tryz.func30, Tryz.ntmps30
  go_wp2_with fail
  refine HF.out.mono ?_
  rintro e w2 ⟨rfl, hQ⟩
  have HQ := Lib.hid hQ
  clear hQ
  go_wp2
  go_ret
  exact ⟨rfl, HQ.out⟩
def drop1Fv (bw bn : Nat) : Fv := ⟨27, #[], #[.pointer (some ⟨bw, 0, none⟩), .pointer (some ⟨bn, 0, none⟩)]⟩
def drop2Fv (bw bo : Nat) : Fv := ⟨30, #[], #[.pointer (some ⟨bw, 0, none⟩), .pointer (some ⟨bo, 0, none⟩)]⟩
theorem drop1Fv_in (bw bn : Nat) : (drop1Fv bw bn).In := fun a w => enters_of Tryz.func27 (by kernel_rfl) rfl a w
theorem drop2Fv_in (bw bo : Nat) : (drop2Fv bw bo).In := fun a w => enters_of Tryz.func30 (by kernel_rfl) rfl a w
noncomputable def dropFs (bw bo old : Nat) (bs : List Nat) (ss : List Sg) : List (Fv × Sp) := ((bs.zip ss).map fun p => (drop1Fv bw p.1, spDisk (Dk.stUnlink (segN p.2.num)))) ++ [(drop2Fv bw bo, spForget old)]
theorem droprun_any {lo W g b lim : Nat} {F : List Nat} {w : World} {c : Ct} {t : Dk.St} (hW : WmS lo W g b lim F w c t) (ho : t.off = false) (hm : t.fs.length ≤ 900000) (A : Option Addr) (cap bw bo old : Nat) (bs : List Nat) (ss : List Sg) (hss : ss = c.segs.take old) (hl : bs.length = old) (hlen : old ≤ 900000) (h1 : 1 ≤ old) (h2 : old ≤ c.segs.length)
    (l0 : Nat) (hl0 : ∀ i ∈ F, i < l0) (hrow : w.ownsRow l0 78 1 (.slice A (old + 1) cap) (old + 1) ((bs.map fun x => (drop1Fv bw x).val) ++ [(drop2Fv bw bo).val]))
    (hw : w.cell? ⟨bw, 0, none⟩ = some (.pointer (some ⟨W, 0, none⟩))) (hbo : w.cell? ⟨bo, 0, none⟩ = some (.int .i64 (old : Int)))
    (hbs : ∀ (i x : Nat) (s : Sg), bs[i]? = some x → ss[i]? = some s → w.cell? ⟨x, 0, none⟩ = some (.int .i64 (s.num : Int)) ∧ w.cell? ⟨x, 1, none⟩ = some (.int .i64 (s.next : Int)) ∧ w.cell? ⟨x, 2, none⟩ = some (.int .i64 (s.size : Int)) ∧ s.num ≤ 99999999 ∧ x ∉ F) (o1 : bw ∉ F) (o2 : bo ∉ F) :
    Calls Tryz.prog 15 #[.slice A (old + 1) cap] w (StpI lo W g b lim F w (spDrop old c t)) := by
  have hsl : ss.length = old := by rw [hss, List.length_take]; omega
  have hfs : (dropFs bw bo old bs ss).map Prod.snd = (c.segs.take old).map (fun s => spDisk (Dk.stUnlink (segN s.num))) ++ [spForget old] := by
    unfold dropFs
    rw [List.map_append, List.map_map, ← hss]
    congr 1
    apply List.ext_getElem?
    intro i
    simp only [List.getElem?_map]
    by_cases hi : i < ss.length
    · rw [List.getElem?_eq_getElem (by rw [List.length_zip]; omega), List.getElem?_eq_getElem hi]
      simp
    · rw [List.getElem?_eq_none (by rw [List.length_zip]; omega), List.getElem?_eq_none (by omega)]
      rfl
  have hzl : ((bs.zip ss).map fun p => ((drop1Fv bw p.1, spDisk (Dk.stUnlink (segN p.2.num))) : Fv × Sp)).length = old := by rw [List.length_map, List.length_zip]; omega
  have hlf : (dropFs bw bo old bs ss).length = old + 1 := by unfold dropFs; rw [List.length_append, hzl]; rfl
  have hat : ∀ (i : Nat) (f : Fv × Sp), (dropFs bw bo old bs ss)[i]? = some f → (∃ (x : Nat) (s : Sg), bs[i]? = some x ∧ ss[i]? = some s ∧ f = (drop1Fv bw x, spDisk (Dk.stUnlink (segN s.num)))) ∨ (i = old ∧ f = (drop2Fv bw bo, spForget old)) := by
    intro i f hi
    unfold dropFs at hi
    rcases Nat.lt_or_ge i old with h | h
    · rw [List.getElem?_append_left (by omega), List.getElem?_map, Option.map_eq_some_iff] at hi
      obtain ⟨p, hp, rfl⟩ := hi
      obtain ⟨e1, e2⟩ := List.getElem?_zip_eq_some.1 hp
      exact .inl ⟨p.1, p.2, e1, e2, rfl⟩
    · rw [List.getElem?_append_right (by omega), hzl] at hi
      have hi0 : i - old = 0 := by
        rcases Nat.eq_zero_or_pos (i - old) with h0 | h0
        · exact h0
        · rw [List.getElem?_eq_none (by simp; omega)] at hi; cases hi
      rw [hi0] at hi
      cases hi
      exact .inr ⟨by omega, rfl⟩
  have hvals : (dropFs bw bo old bs ss).map (fun f => f.1.val) = (bs.map fun x => (drop1Fv bw x).val) ++ [(drop2Fv bw bo).val] := by
    unfold dropFs
    rw [List.map_append, List.map_map]
    congr 1
    apply List.ext_getElem?
    intro i
    simp only [List.getElem?_map]
    by_cases hi : i < bs.length
    · rw [List.getElem?_eq_getElem (by rw [List.length_zip]; omega), List.getElem?_eq_getElem hi]
      simp
    · rw [List.getElem?_eq_none (by rw [List.length_zip]; omega), List.getElem?_eq_none (by omega)]
      rfl
  have hrd : ∃ q, A = some ⟨q, 0, none⟩ ∧ q ∉ F ∧ ∀ (i : Nat) (f : Fv × Sp), (dropFs bw bo old bs ss)[i]? = some f → w.cell? ⟨q, i, none⟩ = some f.1.val := by
    obtain ⟨q, rfl, hq, hc⟩ := row_cell1 hrow (by omega)
    refine ⟨q, rfl, fun hmm => by have := hl0 q hmm; omega, fun i f hi => hc i _ ?_⟩
    rw [← hvals, List.getElem?_map, hi]
    rfl
  obtain ⟨q, rfl, hqF, hqc⟩ := hrd
  show Calls _ _ _ _ (StpI lo W g b lim F w (spRun ((c.segs.take old).map (fun s => spDisk (Dk.stUnlink (segN s.num))) ++ [spForget old]) c t))
  rw [← hfs]
  refine run_sp (some ⟨q, 0, none⟩) (old + 1) cap (dropFs bw bo old bs ss) c t hW hlf (by unfold maxLen; omega) ⟨by rw [List.length_map]; exact hlf, by unfold maxLen; omega, fun h0 => ?_⟩ (fun h0 a ha => ?_) (fun f hf => ?_) (fun i c' t' => (i ≤ old → c' = c) ∧ t'.off = false ∧ t'.fs.length ≤ 900000) ⟨fun _ => rfl, ho, hm⟩ (fun i f hi c' t' hP hz => ?_) (fun i f hi F' w' c' t' hW' hfr hsub hP => ?_)
  · refine ⟨q, 0, rfl, fun i f hi => ?_⟩
    rw [List.getElem?_map, Option.map_eq_some_iff] at hi
    obtain ⟨f', hf', rfl⟩ := hi
    rw [Nat.zero_add]
    exact hqc i f' hf'
  · cases ha
    exact hqF
  · obtain ⟨i, hi⟩ := List.getElem?_of_mem hf
    rcases hat i f hi with ⟨x, s, e1, e2, rfl⟩ | ⟨_, rfl⟩
    · exact drop1Fv_in _ _
    · exact drop2Fv_in _ _
  · rcases hat i f hi with ⟨x, s, e1, e2, rfl⟩ | ⟨_, rfl⟩
    · obtain ⟨p1, p2, p3⟩ := hP
      have hix : i < old := by rw [← hl]; exact (List.getElem?_eq_some_iff.1 e1).1
      exact ⟨fun _ => p1 (by omega), unl_off _ _ hz, Nat.le_trans (unl_le _ _) p3⟩
    · exact ⟨fun h => by omega, hP.2.1, hP.2.2⟩
  · obtain ⟨p1, p2, p3⟩ := hP
    have hio : i ≤ old := by
      rcases hat i f hi with ⟨x, s, e1, _, _⟩ | ⟨e, _⟩
      · have := (List.getElem?_eq_some_iff.1 e1).1; omega
      · omega
    obtain rfl := p1 hio
    obtain ⟨m', ve', vs', xs', hX', rfl⟩ := hW'
    rcases hat i f hi with ⟨x, s, e1, e2, rfl⟩ | ⟨_, rfl⟩
    · obtain ⟨k0, k1, k2, k3, k4⟩ := hbs i x s e1 e2
      exact drop1_any hX' bw x (hfr.cell hw o1) s k3 (hfr.cell k0 k4) (hfr.cell k1 k4) (hfr.cell k2 k4) (out_of o1 hw hsub) (out_of k4 k0 hsub)
    · exact drop2_any hX' p2 p3 old h1 h2 bw bo (hfr.cell hw o1) (hfr.cell hbo o2)
end Go.Proofs.YtgmpdifggaggdaaGreatDoor.Wl

namespace Go.Proofs.YtgmpdifggaggdaaGreatDoor.Wl
open Go.RowKit Go.Proofs.YtgmpdifggaggdaaGreatDoor.Fld
set_option linter.unusedVariables false

theorem run_uptoS (q n cap u : Nat) (hu : u ≤ n) (hn : n ≤ cap) (W : World) : (Instr.slice 57 (.slice (some ⟨q, 0, none⟩) n cap) none (some (.int .i64 (u : Int))) none).run Tryz.prog W = .ok (.slice (some ⟨q, 0, none⟩) u cap) W := by
  have h1 : (0 : Int) ≤ (u : Int) := by omega
  have h3 : (u : Int) ≤ (cap : Int) := by omega
  go_simp
theorem step_append_step {w : World} {ops : Array Oper} {o : Oper} {a : Act} {K : Act → World → Prop} {Q : Exit → Act → World → Prop} {E : Prop} (hgd : o.guard = none) (s x : Operand)
    (ho : o.op = .call { callee := .builtin .append, args := #[s, x], argTypes := #[64, 64] })
    (lo : Nat) (v : Value) (n : Nat) (xs : List Value) (hs : a.eval s = v) (hown : w.ownsRow lo 78 1 v n xs)
    (q : Nat) (y : Value) (hx : a.eval x = .slice (some ⟨q, 0, none⟩) 1 1) (hc : w.cell? ⟨q, 0, none⟩ = some y) (h1 : y.oneCell' = true) (hb : n ≤ 2000000) (hlo : lo ≤ w.heap.size)
    (h : ∀ v' w', w'.ownsRow lo 78 1 v' (n + 1) (xs ++ [y]) → w.grownBy w' v.ownBlock → K (a.put o.dst v') w') : if Region.wanted o (yielded ops a.tmps) = true then Oper.wp Tryz.prog o a w K Q else E := by
  obtain ⟨i, z, i1, i2, i3, i4, i5⟩ := step_info
  refine step_append_row hgd s x _ ho 78 i z 1 8 Tryz.underlying64 i1 i2 i3 i5 i4 (by omega) lo v n xs hs hown ⟨q, 0, none⟩ 1 1 [y] hx rfl ?_ ?_ (by unfold maxLen; omega) (by omega) hlo ?_
  · intro j u hu
    rcases j with _ | j
    · simp at hu; subst hu; exact hc
    · simp at hu
  · intro u hu; simp at hu; subst hu; exact h1
  · intro v' w' k1 k2 _
    exact h v' w' k1 k2
/-- what Drop answers and leaves -/
def DropIs (lo W g b lim : Nat) (F : List Nat) (w : World) (before : Int) (c : Ct) (t : Dk.St) (e : Ending) (w' : World) : Prop :=
  ((c.lg.last : Int) + 1 < before ∧ e = .returned (.int .i64 7) ∧ Below w.heap.size w w') ∨ (before ≤ (c.lg.last : Int) + 1 ∧ needless before c.segs = 0 ∧ e = .returned (.int .i64 0) ∧ Below w.heap.size w w') ∨
  (before ≤ (c.lg.last : Int) + 1 ∧ 1 ≤ needless before c.segs ∧ TakeIs lo W g b lim F w (spDrop (needless before c.segs) c t) e w')
theorem TakeIs.past {lo W g b lim : Nat} {F : List Nat} {w w1 w' : World} {q : Int × Ct × Dk.St} {e : Ending} (hb : Below w.heap.size w w1) (h : TakeIs lo W g b lim F w1 q e w') : TakeIs lo W g b lim F w q e w' := by
  obtain ⟨he, h⟩ := h
  have hs := hb.size
  refine ⟨he, ?_⟩
  rcases h with ⟨h0, F', h1, h2, h3⟩ | ⟨h0, m', h1, h2, h3⟩
  · exact .inl ⟨h0, F', h1, (Dk.Fr.below hb).same h2, fun i hi => (h3 i hi).imp id (fun h => by omega)⟩
  · exact .inr ⟨h0, m', h1, (Dk.Fr.below hb).same h2, fun i hi => (h3 i hi).imp id (fun h => by omega)⟩
theorem TakeIs.cell {lo W g b lim : Nat} {F : List Nat} {w w' : World} {q : Int × Ct × Dk.St} {e : Ending} (h : TakeIs lo W g b lim F w q e w') {B o : Nat} {v : Value} (hc : w.cell? ⟨B, o, none⟩ = some v) (hB : B ∉ F) : w'.cell? ⟨B, o, none⟩ = some v := by
  obtain ⟨_, h⟩ := h
  rcases h with ⟨_, _, _, h2, _⟩ | ⟨_, _, _, h2, _⟩
  · exact h2.cell hc hB
  · exact h2.cell hc hB
set_option maxRecDepth 100000 in
set_option maxHeartbeats 6400000 in
theorem wdrop_any {lo W g b lim : Nat} {m : List Dk.Ent} {ve vs : Value} {xs : List EA} {w : World} {c : Ct} {t : Dk.St} (h : WmX lo W g b lim m ve vs xs w c t) (ho : t.off = false) (hm : t.fs.length ≤ 900000) (hsl : c.segs.length ≤ 900000) (before : Int) :
    Calls Tryz.prog 9 #[.pointer (some ⟨W, 0, none⟩), .int .i64 before] w (DropIs lo W g b lim (WFt W g b m ve vs) w before c t) := by
  have HX := Lib.hid h
  have hal := alloc_below' w (.cells #[.pointer (some ⟨W, 0, none⟩)] 33)
  have hb0 := Blk.new w #[.pointer (some ⟨W, 0, none⟩)] 33
  obtain ⟨w1, hw1⟩ : ∃ w1, w.alloc (.cells #[.pointer (some ⟨W, 0, none⟩)] 33) = w1 := ⟨_, rfl⟩
  rw [hw1] at hal hb0
  obtain ⟨B0, hB0⟩ : ∃ B0, w.heap.size = B0 := ⟨_, rfl⟩
  rw [hB0] at hb0
  have HB0 := Lib.hid hB0
  have HW1 := Lib.hid hw1
  have HAL := Lib.hid hal
  have HK0 := Lib.hid hb0
  have hX1 := h.below hal
  have HX1 := Lib.hid hX1
  obtain ⟨EA0, ec0, hve, _⟩ := row_slice h.ct.rE
  obtain ⟨SA, sc, hvs, hSA, hsn, _⟩ := row_slice h.ct.rS
  have hlen : c.lg.es.length = xs.length := by rw [h.ct.es]; simp
  have hle := h.ct.ok.1.1
  unfold Lg.last MI at hle
  have HLA := Lib.hid (show Calls Tryz.prog 24 #[.pointer (some ⟨W, 3, none⟩)] w1 (fun e w2 => e = .returned (.int .i64 ((c.lg.base + xs.length : Nat) : Int)) ∧ Still w1 w2) from last_any W 3 _ _ c.lg.base xs.length ec0 EA0 w1 hX1.ct.blk rfl (show (wcs g lim c ve vs)[3 + 1]? = some (.slice EA0 xs.length ec0) from by rw [← hve]; rfl) (by omega))
  have HE := Lib.hid (show c.lg.last = c.lg.base + xs.length by unfold Lg.last; rw [hlen])
  have HNL := Lib.hid (needless_le before c.segs)
  have HND := Lib.hid (fun (w2 : World) (h2 : Below w1.heap.size w1 w2) => needless_any (hX1.below h2) before (by omega))
  obtain ⟨N, hN⟩ : ∃ N : Nat, c.lg.base + xs.length = N := ⟨_, rfl⟩
  rw [hN] at HLA HE
  have hNb : N ≤ 1099511627776 := by omega
  have x0 := hb0.cell 0 (.pointer (some ⟨W, 0, none⟩)) rfl
  have x2 := hX1.ct.blk.cell 2 (.bool false) rfl
  have x5 := hX1.ct.blk.cell 5 (.slice SA c.segs.length sc) (by rw [← hvs]; rfl)
  have HKX := Lib.hid (show ∀ W', Below w1.heap.size w1 W' → W'.cell? ⟨B0, 0, none⟩ = some (.pointer (some ⟨W, 0, none⟩)) ∧ W'.cell? ⟨W, 2, none⟩ = some (.bool false) ∧ W'.cell? ⟨W, 5, none⟩ = some (.slice SA c.segs.length sc) from fun W' hb => ⟨(hb.cell (lt_of_cell x0)).trans x0, (hb.cell (lt_of_cell x2)).trans x2, (hb.cell (lt_of_cell x5)).trans x5⟩)
  obtain ⟨od, hod⟩ : ∃ od, needless before c.segs = od := ⟨_, rfl⟩
  rw [hod] at HND HNL
  have HOD := Lib.hid hod
  clear h hal hb0 hX1 hve hlen hle hN hw1 hB0 hod
  by_cases hbf : (N : Int) + 1 < before
  · have HBF := Lib.hid hbf
    go_enter Tryz.func9, Tryz.ntmps9
    go_wp2_with (first | rw [HW1.out] | rw [HB0.out] | fail)
    refine HLA.out.mono ?_
    rintro e w2 ⟨rfl, hst⟩
    have HB2 := Lib.hid (HAL.out.trans ((still_below hst).mono HAL.out.size))
    clear hst x0 x2 x5
    go_wp2
    go_ret
    exact .inl ⟨by rw [HE.out]; exact HBF.out, rfl, HB2.out⟩
  have HBF := Lib.hid (show before ≤ (N : Int) + 1 by omega)
  by_cases hz : od = 0
  · have HZ := Lib.hid hz
    subst hz
    go_enter Tryz.func9, Tryz.ntmps9
    go_wp2_with (first | rw [HW1.out] | rw [HB0.out] | fail)
    refine HLA.out.mono ?_
    rintro e w2 ⟨rfl, hst⟩
    have HB2 := Lib.hid (still_below hst)
    obtain ⟨x0, x2, x5⟩ := HKX.out _ HB2.out
    clear hst
    go_wp2_with fail
    refine (HND.out _ HB2.out).mono ?_
    rintro e w3 ⟨rfl, rfl⟩
    have HB3 := Lib.hid (HAL.out.trans (HB2.out.mono HAL.out.size))
    have HB4 := Lib.hid (HB3.out.alloc HB3.out.size (.cells #[.int .i64 0] 3))
    clear x0 x2 x5
    go_wp2
    go_ret
    exact .inr (.inl ⟨by rw [HE.out]; exact HBF.out, HOD.out, rfl, HB4.out⟩)
  · obtain ⟨q, hq, _, hcell⟩ := row_cellS (show w1.ownsRow lo 69 3 (.slice SA c.segs.length sc) c.segs.length (rowS c.segs) from by rw [← hvs]; exact HX1.out.ct.rS) rfl 0 (by have := HNL.out; omega)
    subst hq
    have HCE := Lib.hid hcell
    have hod1 : od ≤ c.segs.length := HNL.out
    have hscb : c.segs.length ≤ sc := hsn
    have hup := fun W => run_uptoS q c.segs.length sc od hod1 hscb W
    have hb9 : decide ((N : Int) + 1 < before) = false := decide_eq_false hbf
    have hodz : decide (od = 0) = false := decide_eq_false hz
    have hodz2 : ((od : Int) == 0) = false := by simp; omega
    have hodz3 : decide ((od : Int) = 0) = false := decide_eq_false (by omega)
    clear hcell
    generalize hn : c.segs.length = n at *
    have HN := Lib.hid hn
    clear hn
    go_enter Tryz.func9, Tryz.ntmps9
    go_wp2_with (first | rw [HW1.out] | rw [HB0.out] | fail)
    refine HLA.out.mono ?_
    rintro e w2 ⟨rfl, hst⟩
    have HB2 := Lib.hid (still_below hst)
    obtain ⟨x0, x2, x5⟩ := HKX.out _ HB2.out
    clear hst
    go_wp2_with fail
    refine (HND.out _ HB2.out).mono ?_
    rintro e w3 ⟨rfl, rfl⟩
    have hb3 := alloc_below' w2 (.cells #[.int .i64 (od : Int)] 3)
    have hk3 := Blk.new w2 #[.int .i64 (od : Int)] 3
    obtain ⟨w4, hw4⟩ : ∃ w4, w2.alloc (.cells #[.int .i64 (od : Int)] 3) = w4 := ⟨_, rfl⟩
    rw [hw4] at hb3 hk3
    obtain ⟨B1, hB1⟩ : ∃ B1, w2.heap.size = B1 := ⟨_, rfl⟩
    rw [hB1] at hk3
    have HB1 := Lib.hid hB1
    have HW4 := Lib.hid hw4
    have HB4 := Lib.hid (HB2.out.trans (hb3.mono HB2.out.size))
    have HK4 := Lib.hid hk3
    have hlo1 : w1.heap.size ≤ B1 := by rw [← hB1]; exact HB2.out.size
    have y1 := hk3.cell 0 (.int .i64 (od : Int)) rfl
    clear hb3 hk3 hw4 hB1 x0 x2 x5
    obtain ⟨x0, x2, x5⟩ := HKX.out _ HB4.out
    go_wp2_with fail
    rw [HW4.out, HB1.out]
    go_quiet (fail)
    have hb5 : Below w4.heap.size w4 (w4.drewN nq) := ⟨rfl, rfl, rfl, Nat.le_refl _, fun _ _ => rfl⟩
    generalize hw5 : w4.drewN nq = w5 at *
    have HB5 := Lib.hid (HB4.out.trans (hb5.mono HB4.out.size))
    have HK5 := Lib.hid (HK4.out.below hb5)
    have HK6 := Lib.hid (HK0.out.below HB5.out)
    have HSZ5 := Lib.hid (show B1 < w5.heap.size from HK5.out.lt)
    clear hw5 hb5 x0 x2 x5 y1
    have HCC := Lib.hid (fun i (hi : i < n) j (hj : j < 3) => (show w5.cell? ⟨q, i * 3 + j, none⟩ = (c.segs.getD i sg0).cells[j]? from by
      have h1 := HCE.out i j hi hj
      have h2 : ∃ v, (c.segs.getD i sg0).cells[j]? = some v := ⟨_, List.getElem?_eq_getElem (by show j < 3; omega)⟩
      obtain ⟨v, hv⟩ := h2
      rw [hv] at h1 ⊢
      exact (HB5.out.cell (lt_of_cell h1)).trans h1))
    go_wp2_with fail
    go_loopw [6, 34] (fun v iv wr => ∃ (j : Nat) (bs : List Nat), j ≤ od ∧ iv = .int .i64 (j : Int) ∧ bs.length = j ∧ wr.ownsRow w5.heap.size 78 1 v j (bs.map fun x => (drop1Fv B0 x).val) ∧ (∀ (i x : Nat), bs[i]? = some x → w5.heap.size ≤ x ∧ Blk wr x #[.int .i64 ((c.segs.getD i sg0).num : Int), .int .i64 ((c.segs.getD i sg0).next : Int), .int .i64 ((c.segs.getD i sg0).size : Int)] 69) ∧ Below w5.heap.size w5 wr) (fun _ iv _ => od - (intOf iv).toNat)
    case atStart => exact ⟨0, [], Nat.zero_le _, rfl, rfl, ⟨rfl, .inl ⟨rfl, rfl⟩⟩, fun i x hi => by simp at hi, Below.refl _ _⟩
    case round =>
      obtain ⟨j, bs, hj, rfl, hbl, hrow, hbs, hbr⟩ := hrel
      obtain ⟨RA, rc, rfl, _⟩ := row_slice hrow
      have HROW := Lib.hid hrow
      have HBS := Lib.hid hbs
      have HBR := Lib.hid hbr
      have HBL := Lib.hid hbl
      by_cases hjt : j < od
      · have k0 := HCC.out j (by omega) 0 (by omega)
        have k1 := HCC.out j (by omega) 1 (by omega)
        have k2 := HCC.out j (by omega) 2 (by omega)
        obtain ⟨s, hs⟩ : ∃ s, c.segs.getD j sg0 = s := ⟨_, rfl⟩
        rw [hs] at k0 k1 k2
        have HS := Lib.hid hs
        have c0 : wr.cell? ⟨q, j * 3, none⟩ = some (.int .i64 (s.num : Int)) := (hbr.cell (p := ⟨q, j * 3, none⟩) (lt_of_cell k0)).trans k0
        have c1 : wr.cell? ⟨q, j * 3 + 1, none⟩ = some (.int .i64 (s.next : Int)) := (hbr.cell (p := ⟨q, j * 3 + 1, none⟩) (lt_of_cell k1)).trans k1
        have c2 : wr.cell? ⟨q, j * 3 + 2, none⟩ = some (.int .i64 (s.size : Int)) := (hbr.cell (p := ⟨q, j * 3 + 2, none⟩) (lt_of_cell k2)).trans k2
        have j0 : (0 : Int) ≤ (j : Int) := by omega
        have j1 : (j : Int) < (od : Int) := by omega
        generalize he1 : (s.num : Int) = e1 at *
        have HVe1 := Lib.hid he1
        clear he1
        generalize he2 : (s.next : Int) = e2 at *
        have HVe2 := Lib.hid he2
        clear he2
        generalize he3 : (s.size : Int) = e3 at *
        have HVe3 := Lib.hid he3
        clear he3
        have hA := alloc_below' wr (.cells #[.int .i64 e1, .int .i64 e2, .int .i64 e3] 69)
        have hB := alloc_below' (wr.alloc (.cells #[.int .i64 e1, .int .i64 e2, .int .i64 e3] 69)) (.cells #[(drop1Fv B0 wr.heap.size).val] 78)
        have HAB := Lib.hid (hA.trans (hB.mono hA.size))
        have HBX := Lib.hid ((Blk.new wr #[.int .i64 e1, .int .i64 e2, .int .i64 e3] 69).past (.cells #[(drop1Fv B0 wr.heap.size).val] 78))
        have HRA := Lib.hid (row_of hrow (fun i hi => (hA.trans (hB.mono hA.size)).block i (row_lo hrow i hi).2))
        have hs0 := hbr.size
        have hq := (Blk.new (wr.alloc (.cells #[.int .i64 e1, .int .i64 e2, .int .i64 e3] 69)) #[(drop1Fv B0 wr.heap.size).val] 78).cell 0 _ rfl
        rw [show (wr.alloc (.cells #[.int .i64 e1, .int .i64 e2, .int .i64 e3] 69)).heap.size = wr.heap.size + 1 by simp] at hq
        have HQ := Lib.hid hq
        have HSZ := Lib.hid (show w5.heap.size ≤ ((wr.alloc (.cells #[.int .i64 e1, .int .i64 e2, .int .i64 e3] 69)).alloc (.cells #[(drop1Fv B0 wr.heap.size).val] 78)).heap.size by simp; omega)
        unfold Fv.val drop1Fv at HAB HBX HRA HQ HSZ
        clear hrow hbs hbr hbl hA hB hq k0 k1 k2 hs
        go_wp2_with (at_builtin; refine wpList_append_step rfl _ _ rfl w5.heap.size (.slice RA j rc) j (bs.map fun x => (drop1Fv B0 x).val) rfl HRA.out (wr.heap.size + 1) (drop1Fv B0 wr.heap.size).val rfl HQ.out rfl (by omega) HSZ.out ?_; intro v3 w3 hr3 hg3; obtain ⟨A4, c4, hv3, _⟩ := row_slice hr3; subst hv3; have HR3 := Lib.hid hr3; have HG3 := Lib.hid hg3; clear hr3 hg3)
        go_roundw
        case rel =>
          have hfr := (Dk.Fr.refl (Value.slice RA j rc).ownBlock.toList _).grown HG3.out (fun i hi => .inl (by simp [hi]))
          refine ⟨j + 1, bs ++ [wr.heap.size], by omega, by go_num, by rw [List.length_append, HBL.out]; rfl, ?_, fun i x hi => ?_, ?_⟩
          · rw [List.map_append]; exact HR3.out
          · rcases Nat.lt_or_ge i j with hij | hij
            · rw [List.getElem?_append_left (by rw [HBL.out]; exact hij)] at hi
              obtain ⟨k1, k2⟩ := HBS.out i x hi
              exact ⟨k1, (k2.below HAB.out).of (hfr.block x (Nat.lt_of_lt_of_le k2.lt HAB.out.size) (fun hmm => row_ne HROW.out k2 (by decide) (by simpa using hmm)))⟩
            · rw [List.getElem?_append_right (by rw [HBL.out]; exact hij), HBL.out] at hi
              have hij2 : i = j := by
                rcases Nat.eq_or_lt_of_le hij with h | h
                · exact h.symm
                · rw [List.getElem?_eq_none (by simp; omega)] at hi; cases hi
              subst hij2
              simp at hi
              subst hi
              rw [HS.out, HVe1.out, HVe2.out, HVe3.out]
              exact ⟨hs0, HBX.out.of (hfr.block _ HBX.out.lt (fun hmm => by rw [Option.mem_toList] at hmm; have := (row_lo HROW.out _ hmm).2; omega))⟩
          · exact (HBR.out.trans (HAB.out.mono hs0)).grown HG3.out HSZ.out fun r hr' => (row_lo HROW.out r hr').1
        case measure => simp [intOf]; omega
      · obtain rfl : j = od := by omega
        -- the last closure, and the steps by run
        have x0 : wr.cell? ⟨B0, 0, none⟩ = some (.pointer (some ⟨W, 0, none⟩)) := (HK6.out.below hbr).cell 0 _ rfl
        have hA := alloc_below' wr.drew (.cells #[(drop2Fv B0 B1).val] 78)
        have HAA := Lib.hid hA
        have hq := (Blk.new wr.drew #[(drop2Fv B0 B1).val] 78).cell 0 _ rfl
        have HQ := Lib.hid hq
        have HRA := Lib.hid (row_of (show wr.drew.ownsRow w5.heap.size 78 1 (.slice RA j rc) j (bs.map fun x => (drop1Fv B0 x).val) from hrow) (fun i hi => hA.block i (row_lo hrow i hi).2))
        have HSZ := Lib.hid (show w5.heap.size ≤ (wr.drew.alloc (.cells #[(drop2Fv B0 B1).val] 78)).heap.size by have := hbr.size; simp; omega)
        unfold Fv.val drop2Fv at HAA HQ HRA HSZ
        clear hrow hbs hbr hbl hA hq
        have HTK := Lib.hid (show ∀ (A4 : Option Addr) (c4 : Nat) (w9 : World), w9.ownsRow w5.heap.size 78 1 (.slice A4 (j + 1) c4) (j + 1) ((bs.map fun x => (drop1Fv B0 x).val) ++ [(drop2Fv B0 B1).val]) → (wr.drew.alloc (.cells #[(drop2Fv B0 B1).val] 78)).grownBy w9 (Value.slice RA j rc).ownBlock → Calls Tryz.prog 25 #[.pointer (some ⟨W, 0, none⟩), .slice A4 (j + 1) c4] w9 (fun e w' => TakeIs lo W g b lim (WFt W g b m ve vs) w (spDrop j c t) e w' ∧ w'.cell? ⟨B0, 0, none⟩ = some (.pointer (some ⟨W, 0, none⟩))) ∧ w9.cell? ⟨B0, 0, none⟩ = some (.pointer (some ⟨W, 0, none⟩)) from fun A4 c4 w9 hr9 hg9 => by
          have hA9 := alloc_below' wr.drew (.cells #[(drop2Fv B0 B1).val] 78)
          have hwr : Below w5.heap.size w5 wr.drew := HBR.out.drew
          have hrl := row_lo HROW.out
          have h59 : Below w5.heap.size w5 w9 := (hwr.trans (hA9.mono hwr.size)).grown hg9 (by have := HBR.out.size; simp; omega) fun r hr' => (hrl r hr').1
          have h19 : Below w1.heap.size w1 w9 := HB5.out.trans (h59.mono HB5.out.size)
          have hfr := (Dk.Fr.refl (Value.slice RA j rc).ownBlock.toList _).grown hg9 (fun i hi => .inl (by simp [hi]))
          have keepB : ∀ (B : Nat) (cs : Array Value) (ty : TypeId), Blk wr B cs ty → 78 ≠ ty → Blk w9 B cs ty := fun B cs ty hB hty => by
            have hBd : Blk wr.drew B cs ty := hB
            have hB2 := hBd.past (.cells #[(drop2Fv B0 B1).val] 78)
            exact hB2.of (hfr.block B hB2.lt (fun hmm => row_ne HROW.out hB hty (by simpa using hmm)))
          have c0 := (keepB _ _ _ (HK6.out.below HBR.out) (by decide)).cell 0 (.pointer (some ⟨W, 0, none⟩)) rfl
          have c1 := (keepB _ _ _ (HK5.out.below HBR.out) (by decide)).cell 0 (.int .i64 (j : Int)) rfl
          have hF1 : ∀ i ∈ WFt W g b m ve vs, i < w1.heap.size := fun i hi => HX1.out.lt i hi
          have hF0 : ∀ i ∈ WFt W g b m ve vs, i < B0 := fun i hi => by have := HX.out.lt i hi; have := HB0.out; omega
          have h15 := HB5.out.size
          refine ⟨?_, c0⟩
          refine (take_any A4 (j + 1) c4 (droprun_any (F := WFt W g b m ve vs) ⟨m, ve, vs, xs, HX1.out.below h19, rfl⟩ ho hm A4 c4 B0 B1 j bs (c.segs.take j) rfl HBL.out (by have := HN.out; omega) (by omega) (by have := HN.out; omega) w5.heap.size (fun i hi => Nat.lt_of_lt_of_le (hF1 i hi) h15) hr9 c0 c1 (fun i x s hx hs => ?_) (fun hmm => by have := hF0 _ hmm; omega) (fun hmm => by have := hF1 _ hmm; omega))).mono (fun e w' hT => ⟨TakeIs.past (HAL.out.trans (h19.mono HAL.out.size)) hT, TakeIs.cell hT c0 (fun hmm => by have := hF0 _ hmm; omega)⟩)
          obtain ⟨k1, k2⟩ := HBS.out i x hx
          have hi : i < (c.segs.take j).length := (List.getElem?_eq_some_iff.1 hs).1
          rw [List.length_take] at hi
          have hse : c.segs.getD i sg0 = s := by
            rw [List.getElem?_take, if_pos (by omega)] at hs
            rw [List.getD_eq_getElem?_getD, hs]
            rfl
          rw [hse] at k2
          have k3 := keepB _ _ _ k2 (by decide)
          refine ⟨k3.cell 0 _ rfl, k3.cell 1 _ rfl, k3.cell 2 _ rfl, (HX1.out.ct.ok.2 s (List.mem_of_mem_take (List.mem_of_getElem? hs))).2.1, fun hmm => by have := hF1 _ hmm; omega⟩)
        unfold Fv.val drop2Fv at HTK
        go_wp2_with fail
        go_region_held3 (fun w' => w'.cell? ⟨B0, 0, none⟩ = some (.pointer (some ⟨W, 0, none⟩))) (first | exact (by assumption) | go_keep) (first | (refine step_append_step rfl _ _ rfl w5.heap.size (.slice RA j rc) j (bs.map fun x => (drop1Fv B0 x).val) rfl HRA.out wr.heap.size _ rfl HQ.out rfl (by omega) HSZ.out ?_; intro v3 w9 hr3 hg3; obtain ⟨A4, c4, hv3, _⟩ := row_slice hr3; subst hv3; obtain ⟨hT9, x9⟩ := HTK.out A4 c4 w9 hr3 hg3; have HT9 := Lib.hid hT9; clear hr3 hg3 hT9) | (go_at_call 25; refine HT9.out.mono ?_; rintro e w10 ⟨⟨he10, hT10⟩, x10⟩; subst he10; have HT10 := Lib.hid hT10; clear hT10))
        all_goals
          go_wp2
          go_ret
          refine .inr (.inr ⟨by rw [HE.out]; exact HBF.out, by rw [HOD.out]; omega, ?_⟩)
          rw [HOD.out]
          exact ⟨rfl, HT10.out⟩
end Go.Proofs.YtgmpdifggaggdaaGreatDoor.Wl

namespace Go.Proofs.YtgmpdifggaggdaaGreatDoor.Wl
open Go.Proofs.YtgmpdifggaggdaaGreatDoor.Fld Go.Proofs.YtgmpdifggaggdaaGreatDoor.Rc
set_option linter.unusedVariables false

/-- a segment's records: a head, and entries -/
def PlR (rs : List (List Int)) : Prop := ∃ (n i : Nat) (es : List E), rs = chC (.head n i) :: es.map (fun e => chC (.entry e)) ∧ (Ch.head n i).Ok ∧ ∀ e ∈ es, e.Ok
def PlFs (fs : List Dk.Fil) : Prop := ∀ e ∈ fs, ∃ rs, e.2.1 = recs rs ∧ Small rs ∧ PlR rs
theorem PlFs.of {Fs : List Fl} {f : Fl} {c0 : Ct} {fs : List Dk.Fil} (h : Dsk Fs f c0 fs) (hp : PlFs fs) : ∀ g ∈ Fs ++ [f], PlR g.rs := by
  intro g hg
  obtain ⟨rs, h1, h2, h3⟩ := hp g.fil (by rw [h.fs]; exact List.mem_map_of_mem hg)
  have e1 : recsOf (recs g.rs) = g.rs := recsOf_eq (Sc.all (h.small g hg))
  have e2 : recsOf (recs rs) = rs := recsOf_eq (Sc.all h2)
  rw [show g.fil.2.1 = recs g.rs from rfl] at h1
  rw [← e1, h1, e2]
  exact h3
theorem PlFs.mk {Fs : List Fl} {f : Fl} {c0 : Ct} {fs : List Dk.Fil} (h : Dsk Fs f c0 fs) (hp : ∀ g ∈ Fs ++ [f], PlR g.rs) : PlFs fs := by
  intro e he
  rw [h.fs] at he
  obtain ⟨g, hg, rfl⟩ := List.mem_map.1 he
  exact ⟨g.rs, rfl, h.small g hg, hp g hg⟩
theorem PlFs.put {fs : List Dk.Fil} (hp : PlFs fs) (x : Dk.Fil) (h : ∃ rs, x.2.1 = recs rs ∧ Small rs ∧ PlR rs) : PlFs (Dk.fput x fs) := by
  intro e he
  rcases Dk.mem_fput.1 he with rfl | ⟨he, _⟩
  · exact h
  · exact hp e he
theorem pl_syncN {n : Nat} {t : Dk.St} {x : Dk.Fil} (hp : PlFs t.fs) (hg : Dk.fget (segN n) t.fs = some x) : PlFs (Dk.stSync (segN n) t).2.fs := by
  rcases sync_alt hg with h1 | h1
  · rw [h1.2]; exact hp
  · rw [h1.2]; exact hp.put _ (hp x (Dk.get_some hg).1)
section
variable {Fs : List Fl} {f : Fl} {c0 : Ct} {t : Dk.St}
theorem pl_sync (h : Dsk Fs f c0 t.fs) (hp : PlFs t.fs) : PlFs (spSync (ctOf f c0) t).2.2.fs := by
  obtain ⟨i, hi⟩ := ctOf_segs h.ok h.ne
  have hl := lastN_last hi
  simp only at hl
  show PlFs (Dk.stSync (segN (lastN (ctOf f c0))) t).2.fs
  rw [hl]
  exact pl_syncN hp h.get
theorem pl_write (h : Dsk Fs f c0 t.fs) (hp : PlFs t.fs) {e : E} (he : e.Ok) (hi : e.idx = (ctOf f c0).lg.last + 1) : PlFs (spWrite (recd (chC (.entry e))) (ctOf f c0) t).2.2.fs := by
  rcases res_write h (chC_entry_len e he) (acc_entry_c he hi) with h1 | ⟨h1, h2, h3, _⟩
  · rw [h1.2]; exact hp
  · refine PlFs.mk h3 fun g hg => ?_
    have ho := hp.of h
    rcases List.mem_append.1 hg with hg | hg
    · exact ho g (List.mem_append_left _ hg)
    · simp only [List.mem_singleton] at hg
      subst hg
      obtain ⟨n, i, es, k1, k2, k3⟩ := ho f (by simp)
      refine ⟨n, i, es ++ [e], ?_, k2, fun x hx => ?_⟩
      · show f.rs ++ [chC (.entry e)] = _
        rw [k1]; simp
      · rcases List.mem_append.1 hx with hx | hx
        · exact k3 x hx
        · simp only [List.mem_singleton] at hx; subst hx; exact he
theorem pl_create (h : Dsk Fs f c0 t.fs) (hp : PlFs t.fs) (hn : f.n < 99999999) (hl : (ctOf f c0).lg.last ≤ MI) : PlFs (spCreate (f.n + 1) (ctOf f c0) t).2.2.fs := by
  have hcok : (Ch.head (f.n + 1) ((ctOf f c0).lg.last + 1)).Ok := ⟨by omega, by omega, by omega, by omega⟩
  have hb := head_len (f.n + 1) ((ctOf f c0).lg.last + 1) (by omega) (by unfold MI at hl; omega)
  rw [recd_len] at hb
  obtain ⟨b, hbd⟩ : ∃ b, recd (chC (.head (f.n + 1) ((ctOf f c0).lg.last + 1))) = b := ⟨_, rfl⟩
  have hbr : ∃ rs, b = recs rs ∧ Small rs ∧ PlR rs := ⟨[chC (.head (f.n + 1) ((ctOf f c0).lg.last + 1))], by rw [← hbd]; simp [recs], fun x hx => by simp only [List.mem_singleton] at hx; subst hx; omega, ⟨_, _, [], rfl, hcok, fun e he => by cases he⟩⟩
  unfold spCreate
  rw [hbd]
  have hln : lastN (⟨(ctOf f c0).lg, (ctOf f c0).segs ++ [⟨f.n + 1, (ctOf f c0).lg.last + 1, 0⟩]⟩ : Ct) = f.n + 1 := lastN_last (c := ⟨(ctOf f c0).lg, (ctOf f c0).segs ++ [⟨f.n + 1, (ctOf f c0).lg.last + 1, 0⟩]⟩) (l := (ctOf f c0).segs) (s := ⟨f.n + 1, (ctOf f c0).lg.last + 1, 0⟩) rfl
  obtain ⟨cc, hcc⟩ : ∃ cc, (⟨(ctOf f c0).lg, (ctOf f c0).segs ++ [⟨f.n + 1, (ctOf f c0).lg.last + 1, 0⟩]⟩ : Ct) = cc := ⟨_, rfl⟩
  rw [hcc] at hln ⊢
  have e2 : (spWrite b cc t).2.2 = (Dk.stAppend (segN (f.n + 1)) b t).2 := by unfold spWrite; rw [hln]
  have e1 : (spWrite b cc t).1 = (Dk.stAppend (segN (f.n + 1)) b t).1 := by unfold spWrite; rw [hln]
  have hput : (Dk.stAppend (segN (f.n + 1)) b t).1 = 0 → PlFs (Dk.stAppend (segN (f.n + 1)) b t).2.fs ∧ ∃ x, Dk.fget (segN (f.n + 1)) (Dk.stAppend (segN (f.n + 1)) b t).2.fs = some x := by
    intro h0
    rcases app_alt (f.n + 1) b t with h1 | ⟨_, h1⟩
    · exact absurd h0 h1.1
    · have hm := app_more h (n := f.n + 1) (by omega) (by omega) b
      have hf := h.fresh (n := f.n + 1) (by omega) (by omega)
      rw [h1]
      refine ⟨?_, ?_⟩
      · rw [hm]
        intro e he
        rcases List.mem_append.1 he with he | he
        · exact hp e he
        · simp only [List.mem_singleton] at he; subst he; exact hbr
      · obtain ⟨e, k1, k2⟩ := fget_appFs (segN (f.n + 1)) b (fs := t.fs) (by rw [h.fs]; exact h.upf)
        exact ⟨e, k1⟩
  by_cases h0 : (spWrite b cc t).1 = 0
  · rw [spRun_ok h0, spRun_one]
    rw [e1] at h0
    obtain ⟨q1, x, q2⟩ := hput h0
    have hl2 : lastN (spWrite b cc t).2.1 = f.n + 1 := by
      unfold spWrite
      rw [hln, if_pos h0]
      unfold lastN
      rw [← hcc]
      simp only
      rw [addSz_snoc, List.getLast?_append]
      rfl
    show PlFs (Dk.stSync (segN (lastN (spWrite b cc t).2.1)) (spWrite b cc t).2.2).2.fs
    rw [hl2, e2]
    exact pl_syncN q1 q2
  · rw [spRun_no h0, e2]
    rw [e1] at h0
    rcases app_alt (f.n + 1) b t with h1 | h1
    · rw [h1.2]; exact hp
    · exact absurd h1.1 h0
theorem pl_room (lim : Nat) (h : Dsk Fs f c0 t.fs) (hp : PlFs t.fs) (hl : (ctOf f c0).lg.last ≤ MI) : PlFs (spRoom lim (ctOf f c0) t).2.2.fs := by
  obtain ⟨i, hi⟩ := ctOf_num h
  have hf := h.num f (by simp)
  have HRO : spRoom lim (ctOf f c0) t = if (recs f.rs).length < lim ∨ f.n = 99999999 then (0, ctOf f c0, t) else spRun [spSync, spCreate (f.n + 1)] (ctOf f c0) t := by unfold spRoom; rw [hi]
  rw [HRO]
  split
  · exact hp
  · rename_i hc
    have hps := pl_sync h hp
    obtain ⟨h0, h1⟩ := res_sync h
    rcases h1 with ⟨h1, h2⟩ | ⟨h1, h2⟩
    · rw [spRun_no h1]; exact hps
    · rw [spRun_ok h1, spRun_one, h0]
      have hq := pl_create (f := ⟨f.n, f.rs, (recs f.rs).length⟩) h2 hps (by show f.n < _; omega) hl
      exact hq
theorem pl_add (lim : Nat) (h : Dsk Fs f c0 t.fs) (hp : PlFs t.fs) (hl : (ctOf f c0).lg.last ≤ MI) (e : E) (he : e.Ok) (hi : e.idx = (ctOf f c0).lg.last + 1) : PlFs (spAdd lim e (ctOf f c0) t).2.2.fs := by
  obtain ⟨⟨Fs1, f1, c1, h1, h2, h3⟩, h4⟩ := res_room lim h hl
  have hpr := pl_room lim h hp hl
  unfold spAdd
  by_cases h0 : (spRoom lim (ctOf f c0) t).1 = 0
  · rw [spRun_ok h0, h3 h0]
    have h5 := h4 h0
    rw [h3 h0] at h5
    have hw := pl_write h1 hpr he (by rw [h5]; exact hi)
    by_cases h6 : (spWrite (recd (chC (.entry e))) (ctOf f1 c1) (spRoom lim (ctOf f c0) t).2.2).1 = 0
    · rw [spRun_ok h6, spRun_one]; exact hw
    · rw [spRun_no h6]; exact hw
  · rw [spRun_no h0]; exact hpr
end
theorem pl_app (lim : Nat) : ∀ (es : List E) (Fs : List Fl) (f : Fl) (c0 : Ct) (t : Dk.St), Dsk Fs f c0 t.fs → PlFs t.fs → (ctOf f c0).lg.last ≤ MI → (∀ e ∈ es, e.Ok) → Seq (ctOf f c0).lg.last es → PlFs (spApp lim es (ctOf f c0) t).2.2.fs
  | [], Fs, f, c0, t, h, hp, hl, ho, hs => hp
  | e :: es, Fs, f, c0, t, h, hp, hl, ho, hs => by
    obtain ⟨⟨Fs1, f1, c1, h1, _, h3⟩, h4⟩ := res_add lim h hl e (ho e (by simp)) hs.1
    have hpa := pl_add lim h hp hl e (ho e (by simp)) hs.1
    show PlFs (spRun (spAdd lim e :: es.map (spAdd lim)) (ctOf f c0) t).2.2.fs
    by_cases h0 : (spAdd lim e (ctOf f c0) t).1 = 0
    · rw [spRun_ok h0, h3 h0]
      have h5 := h4 h0
      rw [h3 h0] at h5
      have hlast : (ctOf f1 c1).lg.last = (ctOf f c0).lg.last + 1 := by rw [h5]; simp [Lg.last, Lg.add]; omega
      have he := ho e (by simp)
      refine pl_app lim es Fs1 f1 c1 _ h1 hpa ?_ (fun x hx => ho x (by simp [hx])) (by rw [hlast]; exact hs.2)
      rw [hlast, ← hs.1]
      exact he.2.1
    · rw [spRun_no h0]; exact hpa

/-- d is what a scan finds that begins k segments later -/
structure Sfx (k : Nat) (c d : Ct) : Prop where
  segs : d.segs = c.segs.drop k
  lt : k < c.segs.length
  low : c.lg.base ≤ d.lg.base
  high : d.lg.base ≤ c.lg.last
  es : d.lg.es = c.lg.es.drop (d.lg.base - c.lg.base)
  next : ∃ s r, d.segs = s :: r ∧ s.next = d.lg.base + 1
theorem Sfx.last {k : Nat} {c d : Ct} (h : Sfx k c d) : d.lg.last = c.lg.last := by
  have := h.low
  have := h.high
  unfold Lg.last at *
  rw [h.es, List.length_drop]
  omega
theorem addSz_drop (j : Nat) : ∀ (l : List Sg) (k : Nat), k < l.length → (addSz j l).drop k = addSz j (l.drop k)
  | [], k, h => by simp at h
  | [s], k, h => by
    obtain rfl : k = 0 := by simpa using h
    rfl
  | s :: t :: r, 0, _ => rfl
  | s :: t :: r, k + 1, h => by
    show (s :: addSz j (t :: r)).drop (k + 1) = _
    rw [List.drop_succ_cons, List.drop_succ_cons]
    exact addSz_drop j (t :: r) k (by simpa using h)
theorem addSz_next (j : Nat) {s : Sg} {r : List Sg} : ∃ s' r', addSz j (s :: r) = s' :: r' ∧ s'.next = s.next := by
  cases r with
  | nil => exact ⟨_, _, rfl, rfl⟩
  | cons t r => exact ⟨_, _, rfl, rfl⟩
theorem sfx_add {k : Nat} {c d : Ct} (h : Sfx k c d) (e : E) (j : Nat) : Sfx k ⟨c.lg.add e, addSz j c.segs⟩ ⟨d.lg.add e, addSz j d.segs⟩ := by
  have hh := h.high
  have hl := h.low
  refine ⟨?_, ?_, hl, ?_, ?_, ?_⟩
  · show addSz j d.segs = (addSz j c.segs).drop k
    rw [addSz_drop j _ k h.lt, h.segs]
  · show k < (addSz j c.segs).length
    rw [addSz_len]; exact h.lt
  · show d.lg.base ≤ (c.lg.add e).last
    unfold Lg.last Lg.add at *
    simp only [List.length_append, List.length_cons, List.length_nil]
    omega
  · show d.lg.es ++ [e] = (c.lg.es ++ [e]).drop (d.lg.base - c.lg.base)
    rw [List.drop_append_of_le_length (by unfold Lg.last at hh; omega), h.es]
  · obtain ⟨s, r, k1, k2⟩ := h.next
    obtain ⟨s', r', k3, k4⟩ := addSz_next j (s := s) (r := r)
    refine ⟨s', r', ?_, ?_⟩
    · show addSz j d.segs = _
      rw [k1, k3]
    · rw [k4, k2]; rfl
theorem sfx_seg {k : Nat} {c d : Ct} (h : Sfx k c d) (s : Sg) : Sfx k ⟨c.lg, c.segs ++ [s]⟩ ⟨d.lg, d.segs ++ [s]⟩ := by
  refine ⟨?_, ?_, h.low, h.high, h.es, ?_⟩
  · show d.segs ++ [s] = (c.segs ++ [s]).drop k
    rw [List.drop_append_of_le_length (Nat.le_of_lt h.lt), h.segs]
  · show k < (c.segs ++ [s]).length
    have := h.lt
    simp
    omega
  · obtain ⟨u, r, k1, k2⟩ := h.next
    refine ⟨u, r ++ [s], ?_, k2⟩
    show d.segs ++ [s] = _
    rw [k1]; rfl
theorem Sfx.ne {k : Nat} {c d : Ct} (h : Sfx k c d) : c.segs ≠ [] ∧ d.segs ≠ [] ∧ d.segs.getLast? = c.segs.getLast? := by
  have hl := h.lt
  obtain ⟨s, r, k1, _⟩ := h.next
  refine ⟨fun e => by rw [e] at hl; simp at hl, by rw [k1]; simp, ?_⟩
  rw [h.segs, List.getLast?_drop, if_neg (by omega)]
theorem sfx_entries {n k : Nat} : ∀ (es : List E) (c d c' : Ct), Sfx k c d → (∀ e ∈ es, e.Ok) → scanR n false c (es.map fun e => chC (.entry e)) = (c', true) → ∃ d', scanR n false d (es.map fun e => chC (.entry e)) = (d', true) ∧ Sfx k c' d'
  | [], c, d, c', h, _, hs => by
    simp only [List.map_nil, scanR, Prod.mk.injEq, and_true] at hs
    subst hs
    exact ⟨d, rfl, h⟩
  | e :: es, c, d, c', h, ho, hs => by
    have he := ho e (by simp)
    rw [List.map_cons] at hs ⊢
    by_cases hi : e.idx = c.lg.last + 1
    · rw [scanR_some (acc_entry_c he hi)] at hs
      rw [scanR_some (acc_entry_c he (by rw [h.last]; exact hi))]
      exact sfx_entries es _ _ c' (sfx_add h e _) (fun x hx => ho x (by simp [hx])) hs
    · exfalso
      have : acc n false c (chC (.entry e)) = none := by
        unfold acc
        rw [dec_chC (.entry e) he]
        simp only
        rw [if_neg (fun h => hi h.2)]
      rw [scanR_none this] at hs
      cases hs
theorem acc_head_c {n m i : Nat} {c c' : Ct} (hk : (Ch.head m i).Ok) (h : acc n true c (chC (.head m i)) = some c') : m = n ∧ follows c m i ∧ c' = ⟨if c.segs = [] then Lg.restart i else c.lg, c.segs ++ [⟨m, i, 8 + (chC (.head m i)).length⟩]⟩ := by
  unfold acc at h
  rw [dec_chC _ hk] at h
  simp only at h
  split at h
  · rename_i hc
    cases h
    exact ⟨hc.2.1, hc.2.2, rfl⟩
  · cases h
theorem acc_head_i {n i : Nat} {c : Ct} (hk : (Ch.head n i).Ok) (h : follows c n i) : acc n true c (chC (.head n i)) = some ⟨if c.segs = [] then Lg.restart i else c.lg, c.segs ++ [⟨n, i, 8 + (chC (.head n i)).length⟩]⟩ := by
  unfold acc
  rw [dec_chC _ hk]
  simp only
  rw [if_pos ⟨trivial, trivial, h⟩]
/-- a segment more, for both -/
theorem sfx_scan {n k : Nat} {rs : List (List Int)} {c d c' : Ct} (h : Sfx k c d) (hp : PlR rs) (hs : scanR n true c rs = (c', true)) : ∃ d', scanR n true d rs = (d', true) ∧ Sfx k c' d' := by
  obtain ⟨m, i, es, rfl, hk, ho⟩ := hp
  obtain ⟨n1, n2, n3⟩ := h.ne
  cases hq : acc n true c (chC (.head m i)) with
  | none => rw [scanR_none hq] at hs; cases hs
  | some c1 =>
    rw [scanR_some hq] at hs
    obtain ⟨rfl, hf, rfl⟩ := acc_head_c hk hq
    have hfd : follows d m i := by unfold follows at hf ⊢; rw [n3, h.last]; exact hf
    rw [scanR_some (acc_head_i hk hfd), if_neg n2]
    rw [if_neg n1] at hs
    exact sfx_entries es _ _ c' (sfx_seg h _) ho hs
/-- where a scan begins -/
theorem sfx_start {n : Nat} {rs : List (List Int)} {c c' : Ct} (hne : c.segs ≠ []) (hp : PlR rs) (hs : scanR n true c rs = (c', true)) : ∃ d', scanR n true ct0 rs = (d', true) ∧ Sfx c.segs.length c' d' := by
  obtain ⟨m, i, es, rfl, hk, ho⟩ := hp
  cases hq : acc n true c (chC (.head m i)) with
  | none => rw [scanR_none hq] at hs; cases hs
  | some c1 =>
    rw [scanR_some hq] at hs
    obtain ⟨rfl, hf, rfl⟩ := acc_head_c hk hq
    have hi : i = c.lg.last + 1 := by
      unfold follows at hf
      cases hg : c.segs.getLast? with
      | none => exact absurd (List.getLast?_eq_none_iff.1 hg) hne
      | some s => rw [hg] at hf; exact hf.2
    have hf0 : follows ct0 m i := by unfold follows; simp [ct0]
    rw [scanR_some (acc_head_i hk hf0), if_pos (show ct0.segs = [] from rfl)]
    rw [if_neg hne] at hs
    refine sfx_entries es _ _ c' ⟨?_, ?_, ?_, ?_, ?_, ⟨_, [], rfl, ?_⟩⟩ ho hs
    · show ct0.segs ++ [_] = (c.segs ++ [_]).drop c.segs.length
      simp [ct0]
    · simp
    · show c.lg.base ≤ i - 1
      unfold Lg.last at hi
      omega
    · show i - 1 ≤ c.lg.last
      omega
    · show [] = c.lg.es.drop (i - 1 - c.lg.base)
      rw [List.drop_of_length_le]
      unfold Lg.last at hi
      omega
    · show i = i - 1 + 1
      omega
theorem sfx_walk {k : Nat} : ∀ (F : List Fl) (c d c' : Ct), Sfx k c d → (∀ g ∈ F, PlR g.rs) → walk c F = some c' → ∃ d', walk d F = some d' ∧ Sfx k c' d'
  | [], c, d, c', h, _, hw => by rw [walk] at hw; cases hw; exact ⟨d, rfl, h⟩
  | f :: F, c, d, c', h, hp, hw => by
    rw [walk] at hw
    split at hw
    · rename_i hc
      obtain ⟨d1, h1, h2⟩ := sfx_scan (n := f.n) h (hp f (by simp)) (c' := (scanR f.n true c f.rs).1) (Prod.ext rfl hc.2)
      obtain ⟨d', h3, h4⟩ := sfx_walk F _ d1 c' h2 (fun g hg => hp g (by simp [hg])) hw
      refine ⟨d', ?_, h4⟩
      rw [walk, if_pos ⟨hc.1, by rw [h1]⟩, h1]
      exact h3
    · cases hw
/-- a walk that begins later -/
theorem walk_sfx {A B : List Fl} {c : Ct} (hA : A ≠ []) (hB : B ≠ []) (hp : ∀ g ∈ B, PlR g.rs) (hw : walk ct0 (A ++ B) = some c) : ∃ d, walk ct0 B = some d ∧ Sfx A.length c d := by
  rw [walk_app] at hw
  cases hq : walk ct0 A with
  | none => rw [hq] at hw; cases hw
  | some c1 =>
    rw [hq] at hw
    have hl := (walk_ne A ct0 c1 hq).2
    simp only [ct0, List.length_nil, Nat.zero_add] at hl
    cases B with
    | nil => exact absurd rfl hB
    | cons f B =>
      show ∃ d, _
      have hw' : walk c1 (f :: B) = some c := hw
      rw [walk] at hw'
      split at hw'
      · rename_i hc
        have hne : c1.segs ≠ [] := fun e => by rw [e] at hl; simp at hl; exact hA (List.eq_nil_of_length_eq_zero hl.symm)
        obtain ⟨d1, h1, h2⟩ := sfx_start (n := f.n) hne (hp f (by simp)) (c' := (scanR f.n true c1 f.rs).1) (Prod.ext rfl hc.2)
        obtain ⟨d', h3, h4⟩ := sfx_walk B _ d1 c h2 (fun g hg => hp g (by simp [hg])) hw'
        refine ⟨d', ?_, by rw [← hl]; exact h4⟩
        rw [walk, if_pos ⟨hc.1, by rw [h1]⟩, h1]
        exact h3
      · cases hw'
theorem walk_nums : ∀ (l : List Fl) (c c' : Ct), walk c l = some c' → c'.segs.map Sg.num = c.segs.map Sg.num ++ l.map Fl.n
  | [], c, c', h => by simp [walk] at h; subst h; simp
  | f :: r, c, c', h => by
    rw [walk] at h
    split at h
    · rename_i hc
      obtain ⟨i, hi⟩ := ctOf_segs (f := f) (c0 := c) hc.2 hc.1
      unfold ctOf at hi
      rw [walk_nums r _ _ h, hi]
      simp
    · cases h
end Go.Proofs.YtgmpdifggaggdaaGreatDoor.Wl

namespace Go.Proofs.YtgmpdifggaggdaaGreatDoor.Wl
open Go.RowKit Go.Proofs.YtgmpdifggaggdaaGreatDoor.Fld
set_option linter.unusedVariables false

theorem one_entry (w : World) (a b c : Int) (ty : TypeId) : RdX (w.alloc (.cells #[.int .i64 a, .int .i64 b, .int .i64 c, .slice none 0 0] ty)) (some ⟨w.heap.size, 0, none⟩) 1 [⟨a, b, c, [], none, 0⟩] := by
  have hk := Blk.new w #[.int .i64 a, .int .i64 b, .int .i64 c, .slice none 0 0] ty
  refine ⟨rfl, by unfold maxLen; omega, fun _ => ⟨_, _, rfl, fun i hi j hj => ?_⟩, fun x hx => ?_⟩
  · have hi0 : i = 0 := by simp at hi; exact hi
    subst hi0
    rw [show (0 : Nat) + 0 * 4 + j = j by omega]
    rcases j with _ | _ | _ | _ | j
    · exact hk.cell 0 _ rfl
    · exact hk.cell 1 _ rfl
    · exact hk.cell 2 _ rfl
    · exact hk.cell 3 _ rfl
    · omega
  · simp at hx
    subst hx
    exact ⟨Rd.nil _, fun _ => rfl⟩
theorem one_step (w : World) (A : Option Addr) (n cap : Nat) (l : List XE) (ty : TypeId) (h : RdX w A n l) : RdT (w.alloc (.cells #[.int .i64 0, .int .i64 0, .int .i64 0, .slice A n cap, .slice none 0 0] ty)) (some ⟨w.heap.size, 0, none⟩) 1 [⟨0, 0, 0, A, n, cap, l, none, 0, 0, []⟩] := by
  have hk := Blk.new w #[.int .i64 0, .int .i64 0, .int .i64 0, .slice A n cap, .slice none 0 0] ty
  refine ⟨rfl, by unfold maxLen; omega, fun _ => ⟨_, _, rfl, fun i hi j hj => ?_⟩, fun x hx => ?_⟩
  · have hi0 : i = 0 := by simp at hi; exact hi
    subst hi0
    rw [show (0 : Nat) + 0 * 5 + j = j by omega]
    rcases j with _ | _ | _ | _ | _ | j
    · exact hk.cell 0 _ rfl
    · exact hk.cell 1 _ rfl
    · exact hk.cell 2 _ rfl
    · exact hk.cell 3 _ rfl
    · exact hk.cell 4 _ rfl
    · omega
  · simp at hx
    subst hx
    exact ⟨h.below (alloc_below' _ _), rfl, show 0 ≤ maxLen by unfold maxLen; omega, fun h => absurd h (Nat.lt_irrefl 0)⟩
theorem Wa.sn {w0 w : World} {W g b lim : Nat} {c : Ct} {t : Dk.St} (h : Wa w0 W g b lim w c t) : ∃ m, Dk.Sn w0 w g b m t := by
  obtain ⟨⟨m, ve, vs, xs, hX⟩, hB⟩ := h
  exact ⟨m, hX.im, hB, fun i hi => hX.low i (wft_disk _ hi)⟩
theorem getL_all (es r : List E) (n : Nat) (h : es.length = n) : getL ⟨0, es ++ r⟩ 1 (n : Int) = es := by
  unfold getL
  split
  · rename_i hc
    simp only [Lg.last, List.length_append] at hc
    have : es.length = 0 := by omega
    exact (List.length_eq_zero_iff.1 this).symm
  · have e : ((1 : Int) - ((0 : Nat) : Int) - 1).toNat = 0 := by omega
    simp only [e, List.drop_zero, Int.toNat_natCast]
    rw [← h, List.take_left]
end Go.Proofs.YtgmpdifggaggdaaGreatDoor.Wl
