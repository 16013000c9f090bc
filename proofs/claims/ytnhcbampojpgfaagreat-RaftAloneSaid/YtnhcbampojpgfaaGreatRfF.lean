/-
  Layer 12, a node that is alone: advance commits its whole log, if the last entry has its own term. Conditions: the node lies in memory.
-/
import Derived.Test.YtnhcbampojpgfaaGreatRfE
import Derived.Test.YtnhcbampojpgfaaGreatQuM
import Derived.Deep.RegionHeld3
import Derived.Deep.MidRow
namespace Go.Proofs.YtnhcbampojpgfaaGreat.Rf
open Go.RowKit Go.Shelf Go.Proofs.YtnhcbampojpgfaaGreat.Fld
open Go.Proofs.YtnhcbampojpgfaaGreat.Qu (RdI)
set_option linter.unusedVariables false

theorem blk_range {W : World} {g : Nat} {cs : List Value} {ty : TypeId} (h : Rg.Blk W g cs.toArray ty) : W.rangeAt g 0 cs := by
  intro j v hv
  rw [Nat.zero_add]
  exact h.cell j v (by rw [List.getElem?_toArray]; exact hv)
theorem arr_info (ps : List Int) (hp : ps.length = 16) : (Tryz.prog.info? 195).map (·.size) = some (Qu.vI ps).length := by
  rw [Qu.vI_len, hp]
  kernel_rfl
def zer : List Int := List.replicate 16 0
theorem vI_set (ps : List Int) (m : Nat) (x : Int) : (Qu.vI ps).toArray.setIfInBounds m (.int .i64 x) = (Qu.vI (ps.set m x)).toArray := by
  apply Array.ext_getElem?
  intro i
  simp [Qu.vI, List.getElem?_set, List.getElem?_map]
theorem mid_alone (m : Nat) (id last : Int) (h : id = m) (hm : 1 ≤ m ∧ m ≤ 15) : Qu.midG [id] [] (zer.set m last) = last := by
  subst h
  have hg : Qu.grpOk [(m : Int)] [] = true := (Qu.grpOk_iff _ _).2 (by simp [Qu.upN]; omega)
  unfold Qu.midG
  rw [if_pos hg]
  have : (([(m : Int)] : List Int).map (Qu.atOf (zer.set m last))) = [last] := by
    have hm' : m < 16 := by omega
    simp [Qu.atOf, zer, List.getD_eq_getElem?_getD, hm']
  rw [this]
  simp [Qu.midOf, Qu.need, Qu.srt]
theorem term_last {s : Rg.St} (h : s.Ok) : Rg.termV s s.last = s.lt := (Rg.termV_last s).2
theorem Al.commit {lo : Nat} {w : World} {b : PB} {s : AS} (h : Al lo w b s) (hc : s.g.com ≤ s.g.last) (W : World) (hW : Below w.heap.size w W) : Calls Tryz.prog 168 #[.pointer (some ⟨b.g, 0, none⟩), .int .i64 s.g.last] W fun e w' => (∃ c, e = .returned (.int .i64 c)) ∧ Aft lo W w' b b { s with g := { s.g with com := s.g.last } } := by
  have hh := h.below hW
  refine (Rg.commit_any lo b.g s.g b.v b.xs s.g.last W hh.lg).mono ?_
  rintro e w' ⟨rfl, hD⟩
  refine ⟨⟨_, rfl⟩, ?_⟩
  have es : Rg.stCom s.g s.g.last = { s.g with com := s.g.last } := by unfold Rg.stCom; rw [if_pos ⟨hc, Int.le_refl _⟩]
  rw [es] at hD
  exact hh.log hD h.kind rfl h.few
set_option maxRecDepth 100000 in
set_option maxHeartbeats 3200000 in
theorem advance_any {lo : Nat} {w : World} {b : PB} {s : AS} (h : Al lo w b s) (h1 : s.g.com < s.g.last) (h2 : s.g.lt = s.e.term) :
    Calls Tryz.prog 88 #[.pointer (some ⟨b.nb, 0, none⟩)] w fun e w' => e = .returned (.tuple #[]) ∧ Aft lo w w' b b { s with g := { s.g with com := s.g.last } } := by
  have hid := (El.okNode_iff _).1 h.el.ok.id1
  obtain ⟨m, hm⟩ : ∃ m : Nat, s.e.id = m := ⟨s.e.id.toNat, by omega⟩
  have hm1 : 1 ≤ m ∧ m ≤ 15 := by omega
  have HMID := Lib.hid (mid_alone m s.e.id s.g.last hm hm1)
  have hal := Rg.alloc_below' w (.cells (Qu.vI zer).toArray 195)
  have HAL := Lib.hid hal
  have HS := Lib.hid h
  have hk := Rg.Blk.new w (Qu.vI zer).toArray 195
  have HK := Lib.hid hk
  have hh := h.below hal
  have c1 := hh.c1
  have c3 := hh.c3
  rw [hm] at c1
  have HL := Lib.hid (fun W hW => hh.last W hW)
  have hne : b.nb ≠ w.heap.size := by have := h.blk.lt; omega
  have hz : w.alloc (.cells #[.int .i64 0, .int .i64 0, .int .i64 0, .int .i64 0, .int .i64 0, .int .i64 0, .int .i64 0, .int .i64 0, .int .i64 0, .int .i64 0, .int .i64 0, .int .i64 0, .int .i64 0, .int .i64 0, .int .i64 0, .int .i64 0] 195) = w.alloc (.cells (Qu.vI zer).toArray 195) := rfl
  have j3 : (m : Int) < 16 := by omega
  have j5 : (0 : Int) ≤ (m : Int) := by omega
  have g1 := hk.cell m (.int .i64 0) (by rw [List.getElem?_toArray]; unfold Qu.vI zer; rw [List.map_replicate, List.getElem?_replicate, if_pos (by omega)])
  have f1 := hk.free m
  clear hm h hal hk hh
  go_enter Tryz.func88, Tryz.ntmps88
  go_wp2_with fail
  generalize hw1 : w.alloc (.cells (Qu.vI zer).toArray 195) = w1 at *
  have HB0 := Lib.hid (Below.refl w1.heap.size w1).drew
  go_region_held3 (fun w' => w'.cell? ⟨b.nb, 1, none⟩ = some (.int .i64 (m : Int)) ∧ w'.cell? ⟨b.nb, 3, none⟩ = some (.pointer (some ⟨b.g, 0, none⟩))) (first | exact ⟨by assumption, by assumption⟩ | exact ⟨(World.cell?_of_block (Below.heap_setCell _ _ _ _ hne)).trans c1, (World.cell?_of_block (Below.heap_setCell _ _ _ _ hne)).trans c3⟩ | go_keep) (first
    | (go_at_call 39; refine (HL.out _ (by exact HB0.out)).mono ?_; rintro e w' ⟨rfl, k, rfl⟩; have c1 : (w1.drewN (1 + k)).cell? ⟨b.nb, 1, none⟩ = _ := c1; have c3 : (w1.drewN (1 + k)).cell? ⟨b.nb, 3, none⟩ = _ := c3; have g1 : (w1.drewN (1 + k)).cell? ⟨w.heap.size, m, none⟩ = _ := g1; have f1 : (w1.drewN (1 + k)).frozen? ⟨w.heap.size, m, none⟩ = _ := f1))
  have HB2 := Lib.hid (show Below w.heap.size w ((w1.drewN (1 + k)).setCell ⟨w.heap.size, m, none⟩ (.int .i64 s.g.last)) from (HAL.out.trans ((Qu.below_dr w1 (1 + k)).mono HAL.out.size)).setCell (p := ⟨w.heap.size, m, none⟩) (Nat.le_refl _) _)
  have HK2 := Lib.hid (show Rg.Blk ((w1.drewN (1 + k)).setCell ⟨w.heap.size, m, none⟩ (.int .i64 s.g.last)) w.heap.size (Qu.vI (zer.set m s.g.last)).toArray 195 by
    rw [← vI_set]
    exact Rg.Blk.set (w := w1.drewN (1 + k)) HK.out m _ (by simp [Qu.vI, zer]; omega))
  generalize (w1.drewN (1 + k)).setCell ⟨w.heap.size, m, none⟩ (.int .i64 s.g.last) = w2 at *
  have HS2 := Lib.hid (HS.out.below HB2.out)
  have HMB := Lib.hid (HS2.out.members w2 (Below.refl _ _))
  have hpl : (zer.set m s.g.last).length = 16 := by simp [zer]
  have HMI := Lib.hid (fun W (hW : Below w2.heap.size w2 W) => show Calls Tryz.prog 167 #[grp1 b, .agg (Qu.vI (zer.set m s.g.last)).toArray] W _ from Qu.middle_any b.SV 1 b.svc [s.e.id] b.SL 0 b.slc [] (zer.set m s.g.last) hpl W (HS2.out.sv.below hW) (Qu.RdI.nil _ _))
  rw [HMID.out] at HMI
  have hin := arr_info (zer.set m s.g.last) hpl
  have hun := Tryz.underlying195
  have HGR := Lib.hid (fun W (hW : Below w2.heap.size w2 W) => HS2.out.group W hW)
  generalize Qu.vI (zer.set m s.g.last) = ar at *
  clear c1 c3 g1 f1 hz hw1 HMID HL hpl
  go_wp2_with fail
  refine HMB.out.mono ?_
  rintro e w3 ⟨rfl, hb3⟩
  have HB3 := Lib.hid hb3
  have HK3 := Lib.hid (HK2.out.below hb3)
  clear hb3
  go_wp2
  go_loopw [21] (fun i wr => i = .int .i64 0 ∧ w3 = wr) (fun _ _ => 0)
  case atStart => exact ⟨rfl, rfl⟩
  case round =>
    obtain ⟨rfl, rfl⟩ := hrel
    have l0 := blk_range HK3.out
    have HBd := Lib.hid (HB3.out.trans ((Below.refl w3.heap.size w3).drew.mono HB3.out.size))
    have HKd := Lib.hid (show Rg.Blk w3.drew w.heap.size ar.toArray 195 from HK3.out)
    go_wp2_with fail
    go_region_held3 (fun w' => w'.rangeAt w.heap.size 0 ar) (first | exact (by assumption) | go_keep) (first
      | (go_at_call 55; refine (HGR.out _ (by exact HBd.out)).mono ?_; rintro e w4 ⟨rfl, hb4⟩; have l0 := blk_range (HKd.out.below hb4); have HB4 := Lib.hid (HBd.out.trans (hb4.mono HBd.out.size)); clear hb4)
      | (go_at_call 167; refine (HMI.out _ (by exact HB4.out)).mono ?_; rintro e w5 ⟨rfl, hb5⟩; have HB5 := Lib.hid (HB4.out.trans (hb5.mono HB4.out.size)); have l0 : w5.rangeAt w.heap.size 0 ar := (fun j v hv => (hb5.cell (lt_of_cell (l0 j v hv))).trans (l0 j v hv)); clear hb5))
    have HB5' := Lib.hid (HB2.out.trans (HB5.out.mono HB2.out.size))
    have HS5 := Lib.hid (HS.out.below HB5'.out)
    have HT := Lib.hid (HS5.out.term s.g.last w5 (Below.refl _ _))
    rw [term_last HS.out.lg.ok] at HT
    have d3 := HS5.out.c3
    clear l0
    go_wp2_with fail
    refine HT.out.mono ?_
    rintro e w' ⟨rfl, m2, rfl⟩
    have HS6 := Lib.hid (HS5.out.below (Qu.below_dr w5 m2))
    have HB6 := Lib.hid (HB5'.out.trans ((Qu.below_dr w5 m2).mono HB5'.out.size))
    generalize w5.drewN m2 = w6 at *
    have HCO := Lib.hid (HS6.out.com w6 (Below.refl _ _))
    have HH := Lib.hid (El.hard_any b.p s.e w6 HS6.out.el)
    have qf := fun W => field_hard s.e.term s.e.vote W
    have HCM := Lib.hid (fun W (hW : Below w6.heap.size w6 W) => HS6.out.commit (by omega) W hW)
    have d3 := HS6.out.c3
    have d0 := HS6.out.c0
    have HLT := Lib.hid h2
    rw [h2] at *
    clear h2
    have q1 : ¬ s.g.last ≤ s.g.com := by omega
    have q2 : (s.e.term != s.e.term) = false := by simp
    go_wp2_with fail
    refine HCO.out.mono ?_
    rintro e w' ⟨rfl, rfl⟩
    go_wp2_with fail
    refine HH.out.mono ?_
    rintro e w7 ⟨rfl, hb7⟩
    have d3 := (hb7.cell (p := ⟨b.nb, 3, none⟩) (lt_of_cell d3)).trans d3
    have HB7 := Lib.hid hb7
    clear hb7 d0
    go_wp2_with fail
    refine (HCM.out w7 HB7.out).mono ?_
    rintro e w8 ⟨⟨c, rfl⟩, hA8⟩
    have HA8 := Lib.hid (Aft.past HS.out (HB6.out.trans (HB7.out.mono HB6.out.size)) hA8)
    have HBE := Lib.hid (beats_any hA8.im)
    clear hA8 d3
    go_wp2_with fail
    refine HBE.out.mono ?_
    rintro e w9 ⟨rfl, hb9⟩
    have HA9 := Lib.hid (HA8.out.to hb9)
    clear hb9
    go_wp2
    go_end0
    exact ⟨rfl, HA9.out⟩
end Go.Proofs.YtnhcbampojpgfaaGreat.Rf
