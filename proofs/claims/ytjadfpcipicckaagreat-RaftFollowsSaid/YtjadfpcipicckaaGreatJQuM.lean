/-
  Several texts in one: Layer 9, in the program: Middle. Conditions: the lists can be read; the array has sixteen places. Layer 12, a node that is alone: advance commits its whole log, if the last entry has its own term. Conditions: the node lies in memory. Layer 12, a node that is alone: a read is put behind those that are done; settled, ask, Read. Conditions: the node lies in memory.
-/
import Derived.Test.YtjadfpcipicckaaGreatJRfE
import Derived.Test.YtjadfpcipicckaaGreatShelf
import Derived.Deep.RegionHeld3
import Derived.Deep.MidRow
import Derived.Deep.RegionLaw
namespace Go.Proofs.YtjadfpcipicckaaGreat.Qu
open Go.RowKit Go.Proofs.YtjadfpcipicckaaGreat.Fld
set_option linter.unusedVariables false

set_option maxRecDepth 100000 in
set_option maxHeartbeats 6400000 in
theorem middle_any (VA : Option Addr) (vn vc : Nat) (vs : List Int) (LA : Option Addr) (ln lc : Nat) (ls : List Int) (ps : List Int) (hp : ps.length = 16) (w : World) (hv : RdI w VA vn vs) (hl : RdI w LA ln ls) :
    Calls Tryz.prog 93 #[grpV VA vn vc LA ln lc, .agg (arrC ps)] w fun e w' => e = .returned (.int .i64 (midG vs ls ps)) ∧ Below w.heap.size w w' := by
  have hb0 := alloc_below w (.cells #[.slice VA vn vc, .slice LA ln lc] 26)
  have hb1 : Below w.heap.size w ((w.alloc (.cells #[.slice VA vn vc, .slice LA ln lc] 26)).alloc (.cells (arrC ps) 144)) := hb0.trans ((alloc_below _ _).mono hb0.size)
  have hk0 := (Blk.new w #[.slice VA vn vc, .slice LA ln lc] 26).past (.cells (arrC ps) 144)
  have hk1 := Blk.new (w.alloc (.cells #[.slice VA vn vc, .slice LA ln lc] 26)) (arrC ps) 144
  rw [show (w.alloc (.cells #[.slice VA vn vc, .slice LA ln lc] 26)).heap.size = w.heap.size + 1 by simp] at hk1
  have HR := Lib.hid (right_any VA vn vc vs LA ln lc ls _ (RdI.below hv hb1) (RdI.below hl hb1))
  have HB1 := Lib.hid hb1
  have HK0 := Lib.hid hk0
  have HK1 := Lib.hid hk1
  have HVR := Lib.hid hv
  have HLR := Lib.hid hl
  have HVL := Lib.hid hv.1
  have HP := Lib.hid hp
  have HM := Lib.hid (show midG vs ls ps = if grpOk vs ls = true then midOf (vs.map (atOf ps)) (need vs) else 0 from rfl)
  rw [HM.out]
  unfold grpV at HR ⊢
  have c0 := hk0.cell 0 (.slice VA vn vc) rfl
  have c1 := hk0.cell 1 (.slice LA ln lc) rfl
  clear hv hl hb0 hb1 hk0 hk1 hp
  generalize harr : arrC ps = ar at *
  have HAR := Lib.hid harr
  clear harr
  cases hg : grpOk vs ls with
  | false =>
    rw [hg] at HR
    simp only [Bool.false_eq_true, if_false]
    go_enter Tryz.func93, Tryz.ntmps93
    go_wp2_with fail
    refine HR.out.mono ?_
    clear HR c0 c1
    rintro e w1 ⟨rfl, hb⟩
    have HE0 := Lib.hid (HK0.out.below hb)
    have HE1 := Lib.hid (HK1.out.below hb)
    have HEB := Lib.hid (HB1.out.trans (hb.mono HB1.out.size))
    clear HK0 HK1 HB1
    clear hb
    have c0 := HE0.out.cell 0 (.slice VA vn vc) rfl
    have c1 := HE0.out.cell 1 (.slice LA ln lc) rfl
    go_wp2
    go_ret
    exact ⟨rfl, HEB.out⟩
  | true =>
    rw [hg] at HR
    simp only [if_true]
    have hl1 := (ok_len hg).1
    have HG := Lib.hid hg
    have hvn0 : 0 < vn := by rw [← HVL.out]; exact List.length_pos_iff.2 ((grpOk_iff vs ls).1 hg).1
    rw [HVL.out] at hl1
    have HND := Lib.hid (node_nat hg)
    clear hg
    have HYL := Lib.hid (show (vs.map (atOf ps)).length = vn by rw [List.length_map, HVL.out])
    have HMT := Lib.hid (map_take vs (atOf ps))
    obtain ⟨ys, hys⟩ : ∃ ys, vs.map (atOf ps) = ys := ⟨_, rfl⟩
    have HMID := Lib.hid (show midOf (vs.map (atOf ps)) (need vs) = (srt ys).getD (vn - (vn / 2 + 1)) 0 by unfold midOf need; rw [HYL.out, HVL.out, hys])
    rw [HMID.out]
    rw [hys] at HYL HMT
    clear hys HMID HM
    go_enter Tryz.func93, Tryz.ntmps93
    go_wp2_with fail
    refine HR.out.mono ?_
    clear HR c0 c1
    rintro e w1 ⟨rfl, hb⟩
    have HE0 := Lib.hid (HK0.out.below hb)
    have HE1 := Lib.hid (HK1.out.below hb)
    have HEB := Lib.hid (HB1.out.trans (hb.mono HB1.out.size))
    clear HK0 HK1 HB1
    clear hb
    have c0 := HE0.out.cell 0 (.slice VA vn vc) rfl
    have c1 := HE0.out.cell 1 (.slice LA ln lc) rfl
    have HC := Lib.hid (fun W (hW : Below w.heap.size w W) => need_any VA vn vc vs LA ln lc ls W (HVR.out.below hW) (HLR.out.below hW))
    rw [HG.out, if_pos rfl] at HC
    unfold grpV at HC
    have HV0 := Lib.hid (Blk.new w1 (arrC (vals [])) 172)
    have HBA := Lib.hid (alloc_below w1 (.cells (arrC (vals [])) 172))
    have hz : w1.alloc (.cells #[.int .i64 0, .int .i64 0, .int .i64 0, .int .i64 0, .int .i64 0, .int .i64 0, .int .i64 0, .int .i64 0, .int .i64 0, .int .i64 0, .int .i64 0, .int .i64 0, .int .i64 0, .int .i64 0, .int .i64 0] 172) = w1.alloc (.cells (arrC (vals [])) 172) := rfl
    have d0 := (HE0.out.past (.cells (arrC (vals [])) 172)).cell 0 (.slice VA vn vc) rfl
    clear c0 c1
    go_wp2_with fail
    clear d0
    go_loopw [15] (fun i wr => ∃ k : Nat, k ≤ vn ∧ i = .int .i64 k ∧ Blk wr w1.heap.size (arrC (vals (ys.take k))) 172 ∧ Below w1.heap.size w1 wr) (fun i _ => vn - (intOf i).toNat)
    case atStart => exact ⟨0, Nat.zero_le _, rfl, HV0.out, HBA.out⟩
    case round =>
      obtain ⟨k, hk, rfl, hblk, hb⟩ := hrel
      have HBL := Lib.hid hblk
      have HB := Lib.hid hb
      have hyk : (ys.take k).length = k := by rw [List.length_take, HYL.out]; omega
      have HYK := Lib.hid hyk
      clear hyk
      by_cases hlt : k < vn
      · obtain ⟨b, off, rfl, hcell⟩ := (RdI.below HVR.out (HEB.out.trans (hb.mono HEB.out.size))).2.2 (by omega)
        obtain ⟨m, hm, hm1, hm2⟩ := HND.out k (by rw [HVL.out]; exact hlt)
        have hc := hcell k hlt
        rw [hm] at hc
        have HT := Lib.hid (show ys.take (k + 1) = ys.take k ++ [ps.getD m 0] by rw [HMT.out k (by rw [HVL.out]; exact hlt), hm]; unfold atOf; simp)
        have g1 := (HE1.out.below hb).cell m (.int .i64 (ps.getD m 0)) (by rw [← HAR.out]; exact arrC_at ps m (by rw [HP.out]; omega))
        have HSET := Lib.hid (hblk.set k (.int .i64 (ps.getD m 0)) (by rw [arrC_size, vals_len _ (by rw [HYK.out]; omega)]; omega))
        have HVS := Lib.hid (vals_set (ys.take k) (ps.getD m 0) (by rw [HYK.out]; omega))
        rw [HYK.out] at HVS
        have f1 := hblk.free k
        obtain ⟨z, hz⟩ : ∃ z : Int, (arrC (vals (ys.take k)))[k]? = some (.int .i64 z) := ⟨_, arrC_at _ k (by rw [vals_len _ (by rw [HYK.out]; omega)]; omega)⟩
        have g2 := hblk.cell k _ hz
        clear hcell hm hblk hz
        generalize ps.getD m 0 = y at *
        have j1 : (k : Int) < (vn : Int) := by omega
        have j2 : (k : Int) < 15 := by omega
        have j3 : (m : Int) < 16 := by omega
        have j4 : (0 : Int) ≤ (k : Int) := by omega
        have j5 : (0 : Int) ≤ (m : Int) := by omega
        go_wp2
        go_roundw
        case rel => exact ⟨k + 1, by omega, by go_num, by rw [HT.out, ← HVS.out]; exact HSET.out, below_set HB.out _ (Nat.le_refl _) _⟩
        case measure => simp [intOf]; omega
      · obtain rfl : k = vn := by omega
        have hall : ys.take k = ys := by rw [← HYL.out, List.take_length]
        rw [hall] at HBL
        have HSO := Lib.hid (show Calls Tryz.prog 116 #[.slice (some ⟨w1.heap.size, 0, none⟩) k 15] wr _ by
          have := Tryz.slices_Sort_int w1.heap.size 0 15 ys wr (vals_holds HBL.out (by rw [HYL.out]; omega)) HBL.out.lt (by rw [HYL.out]; omega)
          rw [HYL.out] at this
          exact this)
        have d0 := (HE0.out.below hb).cell 0 (.slice VA k vc) rfl
        have d1 := (HE0.out.below hb).cell 1 (.slice LA ln lc) rfl
        have j2 : (k : Int) ≤ 15 := by omega
        have j4 : (0 : Int) ≤ (k : Int) := by omega
        clear hblk hall hlt HV0 HBA hz
        go_wp2_with fail
        refine HSO.out.mono ?_
        rintro e w5 ⟨rfl, n5, os5, h5⟩
        obtain ⟨hb5, _, hc5⟩ := sorted_world (w0 := w1) hb (Nat.le_refl _) HBL.out (by rw [HYL.out]; omega) h5
        have HB5 := Lib.hid (HEB.out.trans (hb5.mono HEB.out.size))
        have HC5 := Lib.hid hc5
        have K5 := Lib.hid (HE0.out.below hb5)
        clear h5 hb5 hc5 d0 d1 hb
        have d0 := K5.out.cell 0 (.slice VA k vc) rfl
        have d1 := K5.out.cell 1 (.slice LA ln lc) rfl
        go_wp2_with fail
        refine (HC.out w5 HB5.out).mono ?_
        rintro e w6 ⟨rfl, hb6⟩
        have HB6 := Lib.hid (HB5.out.trans (hb6.mono HB5.out.size))
        obtain ⟨q, hq⟩ : ∃ q, k - (k / 2 + 1) = q := ⟨_, rfl⟩
        have hql : q < k := by omega
        have e1 : IntKind.i64.wrap ((k : Int) - ((k / 2 + 1 : Nat) : Int)) = (q : Int) := (IntWalk.i64_in _ (by omega)).trans (by omega)
        have e1' : IntKind.i64.wrap ((k : Int) - ((k : Int) / 2 + 1)) = (q : Int) := (IntWalk.i64_in _ (by omega)).trans (by omega)
        have e2 := HC5.out q (by rw [HYL.out]; exact hql)
        have e3 := (hb6.cell (p := ⟨w1.heap.size, q, none⟩) (lt_of_cell e2)).trans e2
        have HQ := Lib.hid hq
        obtain ⟨y, hy⟩ : ∃ y, (srt ys).getD q 0 = y := ⟨_, rfl⟩
        have HY := Lib.hid hy
        rw [hy] at e2 e3
        clear hy
        have e4 : (q : Int) < (k : Int) := by omega
        have e5 : (0 : Int) ≤ (q : Int) := by omega
        clear hb6 e2 d0 d1 hq
        go_wp2
        go_ret
        exact ⟨by rw [HQ.out, HY.out]; rfl, HB6.out⟩
end Go.Proofs.YtjadfpcipicckaaGreat.Qu

namespace Go.Proofs.YtjadfpcipicckaaGreat.Rf
open Go.RowKit Go.Shelf Go.Proofs.YtjadfpcipicckaaGreat.Fld
open Go.Proofs.YtjadfpcipicckaaGreat.Qu (RdI)
set_option linter.unusedVariables false

theorem blk_range {W : World} {g : Nat} {cs : List Value} {ty : TypeId} (h : Rg.Blk W g cs.toArray ty) : W.rangeAt g 0 cs := by
  intro j v hv
  rw [Nat.zero_add]
  exact h.cell j v (by rw [List.getElem?_toArray]; exact hv)
theorem arr_info (ps : List Int) (hp : ps.length = 16) : (Tryz.prog.info? 144).map (·.size) = some (Qu.vI ps).length := by
  rw [Qu.vI_len, hp]
  kernel_rfl
def zer : List Int := List.replicate 16 0
theorem vI_set (ps : List Int) (m : Nat) (x : Int) : (Qu.vI ps).toArray.setIfInBounds m (.int .i64 x) = (Qu.vI (ps.set m x)).toArray := by
  apply Array.ext_getElem?
  intro i
  simp [Qu.vI, List.getElem?_set, List.getElem?_map]
theorem mid_alone (m : Nat) (id last : Int) (h : id = m) (hm : 1 ≤ m ∧ m ≤ 15) : Qu.midG [id] [] (zer.set m last) = last := by
  subst h
  have hg : Qu.grpOk [(m : Int)] [] = true := (Qu.grpOk_iff _ _).2 (by simp [Qu.upN]; omega)
  unfold Qu.midG
  rw [if_pos hg]
  have : (([(m : Int)] : List Int).map (Qu.atOf (zer.set m last))) = [last] := by
    have hm' : m < 16 := by omega
    simp [Qu.atOf, zer, List.getD_eq_getElem?_getD, hm']
  rw [this]
  simp [Qu.midOf, Qu.need, Qu.srt]
theorem term_last {s : Rg.St} (h : s.Ok) : Rg.termV s s.last = s.lt := (Rg.termV_last s).2
theorem Al.commit {lo : Nat} {w : World} {b : PB} {s : AS} (h : Al lo w b s) (hc : s.g.com ≤ s.g.last) (W : World) (hW : Below w.heap.size w W) : Calls Tryz.prog 94 #[.pointer (some ⟨b.g, 0, none⟩), .int .i64 s.g.last] W fun e w' => (∃ c, e = .returned (.int .i64 c)) ∧ Aft lo W w' b b { s with g := { s.g with com := s.g.last } } := by
  have hh := h.below hW
  refine (Rg.commit_any lo b.g s.g b.v b.xs s.g.last W hh.lg).mono ?_
  rintro e w' ⟨rfl, hD⟩
  refine ⟨⟨_, rfl⟩, ?_⟩
  have es : Rg.stCom s.g s.g.last = { s.g with com := s.g.last } := by unfold Rg.stCom; rw [if_pos ⟨hc, Int.le_refl _⟩]
  rw [es] at hD
  exact hh.log hD h.kind rfl h.few
set_option maxRecDepth 100000 in
set_option maxHeartbeats 3200000 in
theorem advance_any {lo : Nat} {w : World} {b : PB} {s : AS} (h : Al lo w b s) (h1 : s.g.com < s.g.last) (h2 : s.g.lt = s.e.term) :
    Calls Tryz.prog 55 #[.pointer (some ⟨b.nb, 0, none⟩)] w fun e w' => e = .returned (.tuple #[]) ∧ Aft lo w w' b b { s with g := { s.g with com := s.g.last } } := by
  have hid := (El.okNode_iff _).1 h.el.ok.id1
  obtain ⟨m, hm⟩ : ∃ m : Nat, s.e.id = m := ⟨s.e.id.toNat, by omega⟩
  have hm1 : 1 ≤ m ∧ m ≤ 15 := by omega
  have HMID := Lib.hid (mid_alone m s.e.id s.g.last hm hm1)
  have hal := Rg.alloc_below' w (.cells (Qu.vI zer).toArray 144)
  have HAL := Lib.hid hal
  have HS := Lib.hid h
  have hk := Rg.Blk.new w (Qu.vI zer).toArray 144
  have HK := Lib.hid hk
  have hh := h.below hal
  have c1 := hh.c1
  have c3 := hh.c3
  rw [hm] at c1
  have HL := Lib.hid (fun W hW => hh.last W hW)
  have hne : b.nb ≠ w.heap.size := by have := h.blk.lt; omega
  have hz : w.alloc (.cells #[.int .i64 0, .int .i64 0, .int .i64 0, .int .i64 0, .int .i64 0, .int .i64 0, .int .i64 0, .int .i64 0, .int .i64 0, .int .i64 0, .int .i64 0, .int .i64 0, .int .i64 0, .int .i64 0, .int .i64 0, .int .i64 0] 144) = w.alloc (.cells (Qu.vI zer).toArray 144) := rfl
  have j3 : (m : Int) < 16 := by omega
  have j5 : (0 : Int) ≤ (m : Int) := by omega
  have g1 := hk.cell m (.int .i64 0) (by rw [List.getElem?_toArray]; unfold Qu.vI zer; rw [List.map_replicate, List.getElem?_replicate, if_pos (by omega)])
  have f1 := hk.free m
  clear hm h hal hk hh
  go_enter Tryz.func55, Tryz.ntmps55
  go_wp2_with fail
  generalize hw1 : w.alloc (.cells (Qu.vI zer).toArray 144) = w1 at *
  have HB0 := Lib.hid (Below.refl w1.heap.size w1).drew
  go_region_held3 (fun w' => w'.cell? ⟨b.nb, 1, none⟩ = some (.int .i64 (m : Int)) ∧ w'.cell? ⟨b.nb, 3, none⟩ = some (.pointer (some ⟨b.g, 0, none⟩))) (first | exact ⟨by assumption, by assumption⟩ | exact ⟨(World.cell?_of_block (Below.heap_setCell _ _ _ _ hne)).trans c1, (World.cell?_of_block (Below.heap_setCell _ _ _ _ hne)).trans c3⟩ | go_keep) (first
    | (go_at_call 22; refine (HL.out _ (by exact HB0.out)).mono ?_; rintro e w' ⟨rfl, k, rfl⟩; have c1 : (w1.drewN (1 + k)).cell? ⟨b.nb, 1, none⟩ = _ := c1; have c3 : (w1.drewN (1 + k)).cell? ⟨b.nb, 3, none⟩ = _ := c3; have g1 : (w1.drewN (1 + k)).cell? ⟨w.heap.size, m, none⟩ = _ := g1; have f1 : (w1.drewN (1 + k)).frozen? ⟨w.heap.size, m, none⟩ = _ := f1))
  have HB2 := Lib.hid (show Below w.heap.size w ((w1.drewN (1 + k)).setCell ⟨w.heap.size, m, none⟩ (.int .i64 s.g.last)) from (HAL.out.trans ((Qu.below_dr w1 (1 + k)).mono HAL.out.size)).setCell (p := ⟨w.heap.size, m, none⟩) (Nat.le_refl _) _)
  have HK2 := Lib.hid (show Rg.Blk ((w1.drewN (1 + k)).setCell ⟨w.heap.size, m, none⟩ (.int .i64 s.g.last)) w.heap.size (Qu.vI (zer.set m s.g.last)).toArray 144 by
    rw [← vI_set]
    exact Rg.Blk.set (w := w1.drewN (1 + k)) HK.out m _ (by simp [Qu.vI, zer]; omega))
  generalize (w1.drewN (1 + k)).setCell ⟨w.heap.size, m, none⟩ (.int .i64 s.g.last) = w2 at *
  have HS2 := Lib.hid (HS.out.below HB2.out)
  have HMB := Lib.hid (HS2.out.members w2 (Below.refl _ _))
  have hpl : (zer.set m s.g.last).length = 16 := by simp [zer]
  have HMI := Lib.hid (fun W (hW : Below w2.heap.size w2 W) => show Calls Tryz.prog 93 #[grp1 b, .agg (Qu.vI (zer.set m s.g.last)).toArray] W _ from Qu.middle_any b.SV 1 b.svc [s.e.id] b.SL 0 b.slc [] (zer.set m s.g.last) hpl W (HS2.out.sv.below hW) (Qu.RdI.nil _ _))
  rw [HMID.out] at HMI
  have hin := arr_info (zer.set m s.g.last) hpl
  have hun := Tryz.underlying144
  have HGR := Lib.hid (fun W (hW : Below w2.heap.size w2 W) => HS2.out.group W hW)
  generalize Qu.vI (zer.set m s.g.last) = ar at *
  clear c1 c3 g1 f1 hz hw1 HMID HL hpl
  go_wp2_with fail
  refine HMB.out.mono ?_
  rintro e w3 ⟨rfl, hb3⟩
  have HB3 := Lib.hid hb3
  have HK3 := Lib.hid (HK2.out.below hb3)
  clear hb3
  go_wp2
  go_loopw [21] (fun i wr => i = .int .i64 0 ∧ w3 = wr) (fun _ _ => 0)
  case atStart => exact ⟨rfl, rfl⟩
  case round =>
    obtain ⟨rfl, rfl⟩ := hrel
    have l0 := blk_range HK3.out
    have HBd := Lib.hid (HB3.out.trans ((Below.refl w3.heap.size w3).drew.mono HB3.out.size))
    have HKd := Lib.hid (show Rg.Blk w3.drew w.heap.size ar.toArray 144 from HK3.out)
    go_wp2_with fail
    go_region_held3 (fun w' => w'.rangeAt w.heap.size 0 ar) (first | exact (by assumption) | go_keep) (first
      | (go_at_call 25; refine (HGR.out _ (by exact HBd.out)).mono ?_; rintro e w4 ⟨rfl, hb4⟩; have l0 := blk_range (HKd.out.below hb4); have HB4 := Lib.hid (HBd.out.trans (hb4.mono HBd.out.size)); clear hb4)
      | (go_at_call 93; refine (HMI.out _ (by exact HB4.out)).mono ?_; rintro e w5 ⟨rfl, hb5⟩; have HB5 := Lib.hid (HB4.out.trans (hb5.mono HB4.out.size)); have l0 : w5.rangeAt w.heap.size 0 ar := (fun j v hv => (hb5.cell (lt_of_cell (l0 j v hv))).trans (l0 j v hv)); clear hb5))
    have HB5' := Lib.hid (HB2.out.trans (HB5.out.mono HB2.out.size))
    have HS5 := Lib.hid (HS.out.below HB5'.out)
    have HT := Lib.hid (HS5.out.term s.g.last w5 (Below.refl _ _))
    rw [term_last HS.out.lg.ok] at HT
    have d3 := HS5.out.c3
    clear l0
    go_wp2_with fail
    refine HT.out.mono ?_
    rintro e w' ⟨rfl, m2, rfl⟩
    have HS6 := Lib.hid (HS5.out.below (Qu.below_dr w5 m2))
    have HB6 := Lib.hid (HB5'.out.trans ((Qu.below_dr w5 m2).mono HB5'.out.size))
    generalize w5.drewN m2 = w6 at *
    have HCO := Lib.hid (HS6.out.com w6 (Below.refl _ _))
    have HH := Lib.hid (El.hard_any b.p s.e w6 HS6.out.el)
    have qf := fun W => field_hard s.e.term s.e.vote W
    have HCM := Lib.hid (fun W (hW : Below w6.heap.size w6 W) => HS6.out.commit (by omega) W hW)
    have d3 := HS6.out.c3
    have d0 := HS6.out.c0
    have HLT := Lib.hid h2
    rw [h2] at *
    clear h2
    have q1 : ¬ s.g.last ≤ s.g.com := by omega
    have q2 : (s.e.term != s.e.term) = false := by simp
    go_wp2_with fail
    refine HCO.out.mono ?_
    rintro e w' ⟨rfl, rfl⟩
    go_wp2_with fail
    refine HH.out.mono ?_
    rintro e w7 ⟨rfl, hb7⟩
    have d3 := (hb7.cell (p := ⟨b.nb, 3, none⟩) (lt_of_cell d3)).trans d3
    have HB7 := Lib.hid hb7
    clear hb7 d0
    go_wp2_with fail
    refine (HCM.out w7 HB7.out).mono ?_
    rintro e w8 ⟨⟨c, rfl⟩, hA8⟩
    have HA8 := Lib.hid (Aft.past HS.out (HB6.out.trans (HB7.out.mono HB6.out.size)) hA8)
    have HBE := Lib.hid (beats_any hA8.im)
    clear hA8 d3
    go_wp2_with fail
    refine HBE.out.mono ?_
    rintro e w9 ⟨rfl, hb9⟩
    have HA9 := Lib.hid (HA8.out.to hb9)
    clear hb9
    go_wp2
    go_end0
    exact ⟨rfl, HA9.out⟩
end Go.Proofs.YtjadfpcipicckaaGreat.Rf

namespace Go.Proofs.YtjadfpcipicckaaGreat.Rf
open Go.RowKit Go.Shelf Go.Proofs.YtjadfpcipicckaaGreat.Fld
open Go.Proofs.YtjadfpcipicckaaGreat.Qu (RdI)
set_option linter.unusedVariables false

theorem add0 (q j : Nat) : (⟨q, 0, none⟩ : Addr).add j = ⟨q, j, none⟩ := by
  unfold Addr.add
  split <;> simp_all
structure Ety (t e : TypeId) (size : Nat) : Prop where
  und : Tryz.prog.underlying t = some (.slice e)
  inf : ∃ (i : TypeInfo) (z : Value), Tryz.prog.info? e = some i ∧ i.zero = some z ∧ i.size = size ∧ z.cells.size = size ∧ i.bytes ≤ 64
  pos : 0 < size
theorem eread : Ety 46 82 2 := by
  refine ⟨Tryz.underlying46, ?_, by omega⟩
  have h : (Tryz.prog.info? 82).map (fun i => (i.zero, i.size, i.bytes)) = some (some (.agg #[.int .i64 0, .int .i64 0]), 2, 16) := by kernel_rfl
  cases hq : Tryz.prog.info? 82 with
  | none => simp [hq] at h
  | some i => simp [hq] at h; exact ⟨i, _, rfl, h.1, h.2.1, rfl, by omega⟩
theorem run_append1 {t e : TypeId} {size : Nat} (hE : Ety t e size) (w : World) (ty : TypeId) (lo : Nat) (v : Value) (n : Nat) (xs : List Value) (hown : w.ownsRow lo e size v n xs) (q : Nat) (c : Nat) (ys : List Value) (hl : ys.length = size) (hc : Rg.Blk w q ys.toArray e) (h1 : ∀ u ∈ ys, u.oneCell' = true) (hb : n ≤ 2000000) (hlo : lo ≤ w.heap.size) :
    ∃ v' w', (Builtin.append_ #[t, t] ty #[v, .slice (some ⟨q, 0, none⟩) 1 c]).run Tryz.prog w = .ok v' w' ∧ w'.ownsRow lo e size v' (n + 1) (xs ++ ys) ∧ w.grownBy w' v.ownBlock ∧ (v'.ownBlock = v.ownBlock ∨ v'.ownBlock = some w.heap.size) := by
  obtain ⟨i, z, i1, i2, i3, i4, i5⟩ := hE.inf
  obtain ⟨v', w', hrun, hrow, hg, _, hat⟩ := run_append_own_at (P := Tryz.prog) w lo t ty e i z size i.bytes hE.und i1 i2 i3 rfl i4 hE.pos v n xs hown ⟨q, 0, none⟩ 1 c ys (by omega) (by
    intro j u hu
    rw [add0]
    exact Rg.Blk.cell hc j u (by simpa using hu)) h1 (by unfold maxLen; omega) (by
      have : (n + 1) * i.bytes ≤ (2000000 + 1) * 64 := Nat.mul_le_mul (by omega) i5
      omega) hlo
  exact ⟨v', w', hrun, hrow, hg, hat⟩
theorem wpList_append1 {t e : TypeId} {size : Nat} (hE : Ety t e size) {w : World} {ops : Array Oper} {rest : List Oper} {o : Oper} {a : Act} {Q : Exit → Act → World → Prop} (hgd : o.guard = none) (s x : Operand)
    (ho : o.op = .call { callee := .builtin .append, args := #[s, x], argTypes := #[t, t] })
    (lo : Nat) (v : Value) (n : Nat) (xs : List Value) (hs : a.eval s = v) (hown : w.ownsRow lo e size v n xs)
    (q : Nat) (c : Nat) (ys : List Value) (hx : a.eval x = .slice (some ⟨q, 0, none⟩) 1 c) (hl : ys.length = size) (hc : Rg.Blk w q ys.toArray e) (h1 : ∀ u ∈ ys, u.oneCell' = true) (hb : n ≤ 2000000) (hlo : lo ≤ w.heap.size)
    (h : ∀ v' w', w'.ownsRow lo e size v' (n + 1) (xs ++ ys) → w.grownBy w' v.ownBlock → (v'.ownBlock = v.ownBlock ∨ v'.ownBlock = some w.heap.size) → wpList Tryz.prog ops Q rest (a.put o.dst v') w') : wpList Tryz.prog ops Q (o :: rest) a w := by
  obtain ⟨v', w', hrun, k1, k2, k3⟩ := run_append1 hE w o.type lo v n xs hown q c ys hl hc h1 hb hlo
  refine wpList_plain hgd fun K' hK' => ?_
  unfold Oper.wp execOp
  simp only [ho, resolve, invoke, builtin, Sem.run_bind, Sem.run_pure, Result.andThen_ok, List.map_toArray, List.map_cons, List.map_nil, hs, hx, hrun]
  exact hK' _ _ (h v' w' k1 k2 k3)
theorem step_append1 {t e : TypeId} {size : Nat} (hE : Ety t e size) {w : World} {ops : Array Oper} {o : Oper} {a : Act} {K : Act → World → Prop} {Q : Exit → Act → World → Prop} {E : Prop} (hgd : o.guard = none) (s x : Operand)
    (ho : o.op = .call { callee := .builtin .append, args := #[s, x], argTypes := #[t, t] })
    (lo : Nat) (v : Value) (n : Nat) (xs : List Value) (hs : a.eval s = v) (hown : w.ownsRow lo e size v n xs)
    (q : Nat) (c : Nat) (ys : List Value) (hx : a.eval x = .slice (some ⟨q, 0, none⟩) 1 c) (hl : ys.length = size) (hc : Rg.Blk w q ys.toArray e) (h1 : ∀ u ∈ ys, u.oneCell' = true) (hb : n ≤ 2000000) (hlo : lo ≤ w.heap.size)
    (h : ∀ v' w', w'.ownsRow lo e size v' (n + 1) (xs ++ ys) → w.grownBy w' v.ownBlock → (v'.ownBlock = v.ownBlock ∨ v'.ownBlock = some w.heap.size) → K (a.put o.dst v') w') :
    if Region.wanted o (yielded ops a.tmps) = true then Oper.wp Tryz.prog o a w K Q else E := by
  have hw : Region.wanted o (yielded ops a.tmps) = true := by simp [Region.wanted, hgd]
  rw [if_pos hw]
  obtain ⟨v', w', hrun, k1, k2, k3⟩ := run_append1 hE w o.type lo v n xs hown q c ys hl hc h1 hb hlo
  unfold Oper.wp execOp
  simp only [ho, resolve, invoke, builtin, Sem.run_bind, Sem.run_pure, Result.andThen_ok, List.map_toArray, List.map_cons, List.map_nil, hs, hx, hrun]
  exact h v' w' k1 k2 k3


theorem ndR_rv (b : PB) (s : AS) (v : Value) (l : List (Int × Int)) : (ndR b s).setIfInBounds 23 v = ndR { b with rv := v } { s with rd := l } := rfl
/-- one more read is done -/
theorem Al.read {lo : Nat} {w w6 : World} {b : PB} {s : AS} {v' : Value} {tok idx : Int} (h : Al lo w b s) (hg : w.grownBy w6 b.rv.ownBlock) (hr6 : w6.ownsRow lo 82 2 v' (s.rd.length + 1) (rowP s.rd ++ [.int .i64 tok, .int .i64 idx])) (hat : v'.ownBlock = b.rv.ownBlock ∨ v'.ownBlock = some w.heap.size) :
    Aft lo w (w6.setCell ⟨b.nb, 23, none⟩ v') b { b with rv := v' } { s with rd := s.rd ++ [(tok, idx)] } := by
  obtain ⟨n1, n2, n3, n4, n5, n6⟩ := h.nb_ne
  obtain ⟨m1, m2, m3, m4, m5, m6, m7⟩ := h.el_ne
  obtain ⟨l1, l2, l3, l4, l5, l6⟩ := h.lg_ne
  have hf6 : Dk.Fr b.rv.ownBlock.toList w w6 := (Dk.Fr.refl _ _).grown hg (fun i hi => .inl (by simp [hi]))
  have hlt := h.foot_lt
  have hlo0 : lo ≤ w.heap.size := Nat.le_trans (h.lo b.nb (mem_foot.2 (by simp))) (Nat.le_of_lt h.blk.lt)
  have kb : Rg.Blk w6 b.nb (ndR b s) 60 := (hf6.block _ h.blk.lt (by simpa using n5)).trans h.blk
  have hf : Dk.Fr (b.nb :: b.rv.ownBlock.toList) w (w6.setCell ⟨b.nb, 23, none⟩ v') := (hf6.mono (fun i hi => by simp [hi])).setCell _ (.inl (by simp)) _
  have nin : ∀ i, i ≠ b.nb → b.rv.ownBlock ≠ some i → i ∉ b.nb :: b.rv.ownBlock.toList := fun i h1 h2 hm => by
    simp only [List.mem_cons, Option.mem_toList] at hm
    exact hm.elim h1 h2
  have nro : ∀ i ∈ b.ro, i ∉ b.nb :: b.rv.ownBlock.toList := fun i hi => nin i (fun e => h.ro i hi (mem_foot.2 (.inl e))) (fun e => h.ro i hi (mem_foot.2 (by simp [e])))
  have h8 : Rg.Not8 w (b.nb :: b.rv.ownBlock.toList) := by
    intro i hi cs hb
    simp only [List.mem_cons, Option.mem_toList] at hi
    rcases hi with rfl | hi
    · exact Rg.Blk.ne h.blk hb (by decide) rfl
    · exact Rg.row_ne h.rv hb (by decide) hi
  have hfo : ∀ i, i ∈ ({ b with rv := v' } : PB).foot → i ∈ b.foot ∨ w.heap.size ≤ i := by
    intro i hi
    rcases mem_foot.1 hi with h1 | h1 | h1 | h1 | h1 | h1 | h1
    · exact .inl (mem_foot.2 (by simp [show i = b.nb from h1]))
    · exact .inl (mem_foot.2 (by simp [show i = b.p.g from h1]))
    · exact .inl (mem_foot.2 (by simp [show i = b.p.b from h1]))
    · exact .inl (mem_foot.2 (by simp [show i = b.g from h1]))
    · exact .inl (mem_foot.2 (by simp [show b.v.ownBlock = some i from h1]))
    · rcases hat with h2 | h2
      · exact .inl (mem_foot.2 (by simp [show b.rv.ownBlock = some i by rw [← h2]; exact h1]))
      · have : some w.heap.size = some i := h2.symm.trans h1
        exact .inr (by cases this; omega)
    · exact .inl (mem_foot.2 (by simp [show b.pm = some i from h1]))
  have hrn : v'.ownBlock ≠ some b.nb := Rg.row_ne hr6 kb (by decide)
  refine ⟨⟨?_, h.el.fr hf (fun i hi => ?_), h.lg.fr hf (fun i hi => ?_) h8, El.rdI_fr h.sv hf (fun a ha => nro _ (mem_ro.2 (.inr (.inr ⟨a, ha, rfl⟩)))), ?_, fun m hm => (h.pm m hm).of (hf.block m (hlt m (mem_foot.2 (by simp [show b.pm = some m from hm]))) (nin _ (fun e => n6 (by rw [← e]; exact hm)) (fun e => l6 m e hm))), h.pmb, ?_, ?_, h.vs, h.ls, fun i hi => Nat.lt_of_lt_of_le (h.rl i hi) hf.size, h.kind, h.win, h.sI, h.slz, h.few⟩, hf.mono (fun i hi => ?_), hfo, fun i hi => .inl hi, rfl⟩
  · rw [← ndR_rv b s v' (s.rd ++ [(tok, idx)])]
    exact Rg.Blk.set kb 23 v' (by show 23 < 27; omega)
  · simp only [El.Pl.all, List.mem_cons, List.mem_append, Option.mem_toList, Option.map_eq_some_iff] at hi
    rcases hi with (rfl | rfl | ⟨a, ha, rfl⟩) | ⟨a, ha, rfl⟩
    · exact nin _ (Ne.symm n1) m3
    · exact nin _ (Ne.symm n2) m7
    · exact nro _ (mem_ro.2 (.inl ⟨a, ha, rfl⟩))
    · exact nro _ (mem_ro.2 (.inr (.inl ⟨a, ha, rfl⟩)))
  · simp only [List.mem_cons, Option.mem_toList] at hi
    rcases hi with rfl | hi
    · exact nin _ (Ne.symm n3) l2
    · exact nin _ (fun e => n4 (by rw [← e]; exact hi)) (l4 _ hi)
  · have e1 : (s.rd ++ [(tok, idx)]).length = s.rd.length + 1 := by simp
    have e2 : rowP (s.rd ++ [(tok, idx)]) = rowP s.rd ++ [.int .i64 tok, .int .i64 idx] := by rw [rowP_append]; rfl
    show (w6.setCell ⟨b.nb, 23, none⟩ v').ownsRow lo 82 2 v' (s.rd ++ [(tok, idx)]).length (rowP (s.rd ++ [(tok, idx)]))
    rw [e1, e2]
    exact Rg.row_of hr6 (fun i hi => Below.heap_setCell _ _ _ _ (fun e => hrn (by rw [hi]; exact congrArg some e)))
  · intro i hi
    rcases hfo i hi with h1 | h1
    · exact h.lo i h1
    · omega
  · intro i hi hm
    have hi' : i ∈ b.ro := hi
    rcases hfo i hm with h1 | h1
    · exact h.ro i hi' h1
    · have := h.rl i hi'; omega
  · simp only [List.mem_cons, Option.mem_toList] at hi
    rcases hi with rfl | hi
    · exact mem_foot.2 (by simp)
    · exact mem_foot.2 (by simp [hi])
end Go.Proofs.YtjadfpcipicckaaGreat.Rf
