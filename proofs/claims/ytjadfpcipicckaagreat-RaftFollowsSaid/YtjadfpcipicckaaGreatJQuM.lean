/-
  Several texts in one: Layer 9, in the program: Middle. Conditions: the lists can be read; the array has sixteen places. Layer 9, in the program: may. Conditions: the lists can be read.
-/
import Derived.Test.YtjadfpcipicckaaGreatJQuF0
import Derived.Test.YtjadfpcipicckaaGreatShelf
import Derived.Deep.RegionHeld3
import Derived.Deep.RegionWith
import Derived.Deep.CutRange
import Derived.Deep.CutBlock
namespace Go.Proofs.YtjadfpcipicckaaGreat.Qu
open Go.RowKit Go.Proofs.YtjadfpcipicckaaGreat.Fld
set_option linter.unusedVariables false

set_option maxRecDepth 100000 in
set_option maxHeartbeats 6400000 in
theorem middle_any (VA : Option Addr) (vn vc : Nat) (vs : List Int) (LA : Option Addr) (ln lc : Nat) (ls : List Int) (ps : List Int) (hp : ps.length = 16) (w : World) (hv : RdI w VA vn vs) (hl : RdI w LA ln ls) :
    Calls Tryz.prog 93 #[grpV VA vn vc LA ln lc, .agg (arrC ps)] w fun e w' => e = .returned (.int .i64 (midG vs ls ps)) ∧ Below w.heap.size w w' := by
  have hb0 := alloc_below w (.cells #[.slice VA vn vc, .slice LA ln lc] 26)
  have hb1 : Below w.heap.size w ((w.alloc (.cells #[.slice VA vn vc, .slice LA ln lc] 26)).alloc (.cells (arrC ps) 144)) := hb0.trans ((alloc_below _ _).mono hb0.size)
  have hk0 := (Blk.new w #[.slice VA vn vc, .slice LA ln lc] 26).past (.cells (arrC ps) 144)
  have hk1 := Blk.new (w.alloc (.cells #[.slice VA vn vc, .slice LA ln lc] 26)) (arrC ps) 144
  rw [show (w.alloc (.cells #[.slice VA vn vc, .slice LA ln lc] 26)).heap.size = w.heap.size + 1 by simp] at hk1
  have HR := Lib.hid (right_any VA vn vc vs LA ln lc ls _ (RdI.below hv hb1) (RdI.below hl hb1))
  have HB1 := Lib.hid hb1
  have HK0 := Lib.hid hk0
  have HK1 := Lib.hid hk1
  have HVR := Lib.hid hv
  have HLR := Lib.hid hl
  have HVL := Lib.hid hv.1
  have HP := Lib.hid hp
  have HM := Lib.hid (show midG vs ls ps = if grpOk vs ls = true then midOf (vs.map (atOf ps)) (need vs) else 0 from rfl)
  rw [HM.out]
  unfold grpV at HR ⊢
  have c0 := hk0.cell 0 (.slice VA vn vc) rfl
  have c1 := hk0.cell 1 (.slice LA ln lc) rfl
  clear hv hl hb0 hb1 hk0 hk1 hp
  generalize harr : arrC ps = ar at *
  have HAR := Lib.hid harr
  clear harr
  cases hg : grpOk vs ls with
  | false =>
    rw [hg] at HR
    simp only [Bool.false_eq_true, if_false]
    go_enter Tryz.func93, Tryz.ntmps93
    go_wp2_with fail
    refine HR.out.mono ?_
    clear HR c0 c1
    rintro e w1 ⟨rfl, hb⟩
    have HE0 := Lib.hid (HK0.out.below hb)
    have HE1 := Lib.hid (HK1.out.below hb)
    have HEB := Lib.hid (HB1.out.trans (hb.mono HB1.out.size))
    clear HK0 HK1 HB1
    clear hb
    have c0 := HE0.out.cell 0 (.slice VA vn vc) rfl
    have c1 := HE0.out.cell 1 (.slice LA ln lc) rfl
    go_wp2
    go_ret
    exact ⟨rfl, HEB.out⟩
  | true =>
    rw [hg] at HR
    simp only [if_true]
    have hl1 := (ok_len hg).1
    have HG := Lib.hid hg
    have hvn0 : 0 < vn := by rw [← HVL.out]; exact List.length_pos_iff.2 ((grpOk_iff vs ls).1 hg).1
    rw [HVL.out] at hl1
    have HND := Lib.hid (node_nat hg)
    clear hg
    have HYL := Lib.hid (show (vs.map (atOf ps)).length = vn by rw [List.length_map, HVL.out])
    have HMT := Lib.hid (map_take vs (atOf ps))
    obtain ⟨ys, hys⟩ : ∃ ys, vs.map (atOf ps) = ys := ⟨_, rfl⟩
    have HMID := Lib.hid (show midOf (vs.map (atOf ps)) (need vs) = (srt ys).getD (vn - (vn / 2 + 1)) 0 by unfold midOf need; rw [HYL.out, HVL.out, hys])
    rw [HMID.out]
    rw [hys] at HYL HMT
    clear hys HMID HM
    go_enter Tryz.func93, Tryz.ntmps93
    go_wp2_with fail
    refine HR.out.mono ?_
    clear HR c0 c1
    rintro e w1 ⟨rfl, hb⟩
    have HE0 := Lib.hid (HK0.out.below hb)
    have HE1 := Lib.hid (HK1.out.below hb)
    have HEB := Lib.hid (HB1.out.trans (hb.mono HB1.out.size))
    clear HK0 HK1 HB1
    clear hb
    have c0 := HE0.out.cell 0 (.slice VA vn vc) rfl
    have c1 := HE0.out.cell 1 (.slice LA ln lc) rfl
    have HC := Lib.hid (fun W (hW : Below w.heap.size w W) => need_any VA vn vc vs LA ln lc ls W (HVR.out.below hW) (HLR.out.below hW))
    rw [HG.out, if_pos rfl] at HC
    unfold grpV at HC
    have HV0 := Lib.hid (Blk.new w1 (arrC (vals [])) 172)
    have HBA := Lib.hid (alloc_below w1 (.cells (arrC (vals [])) 172))
    have hz : w1.alloc (.cells #[.int .i64 0, .int .i64 0, .int .i64 0, .int .i64 0, .int .i64 0, .int .i64 0, .int .i64 0, .int .i64 0, .int .i64 0, .int .i64 0, .int .i64 0, .int .i64 0, .int .i64 0, .int .i64 0, .int .i64 0] 172) = w1.alloc (.cells (arrC (vals [])) 172) := rfl
    have d0 := (HE0.out.past (.cells (arrC (vals [])) 172)).cell 0 (.slice VA vn vc) rfl
    clear c0 c1
    go_wp2_with fail
    clear d0
    go_loopw [15] (fun i wr => ∃ k : Nat, k ≤ vn ∧ i = .int .i64 k ∧ Blk wr w1.heap.size (arrC (vals (ys.take k))) 172 ∧ Below w1.heap.size w1 wr) (fun i _ => vn - (intOf i).toNat)
    case atStart => exact ⟨0, Nat.zero_le _, rfl, HV0.out, HBA.out⟩
    case round =>
      obtain ⟨k, hk, rfl, hblk, hb⟩ := hrel
      have HBL := Lib.hid hblk
      have HB := Lib.hid hb
      have hyk : (ys.take k).length = k := by rw [List.length_take, HYL.out]; omega
      have HYK := Lib.hid hyk
      clear hyk
      by_cases hlt : k < vn
      · obtain ⟨b, off, rfl, hcell⟩ := (RdI.below HVR.out (HEB.out.trans (hb.mono HEB.out.size))).2.2 (by omega)
        obtain ⟨m, hm, hm1, hm2⟩ := HND.out k (by rw [HVL.out]; exact hlt)
        have hc := hcell k hlt
        rw [hm] at hc
        have HT := Lib.hid (show ys.take (k + 1) = ys.take k ++ [ps.getD m 0] by rw [HMT.out k (by rw [HVL.out]; exact hlt), hm]; unfold atOf; simp)
        have g1 := (HE1.out.below hb).cell m (.int .i64 (ps.getD m 0)) (by rw [← HAR.out]; exact arrC_at ps m (by rw [HP.out]; omega))
        have HSET := Lib.hid (hblk.set k (.int .i64 (ps.getD m 0)) (by rw [arrC_size, vals_len _ (by rw [HYK.out]; omega)]; omega))
        have HVS := Lib.hid (vals_set (ys.take k) (ps.getD m 0) (by rw [HYK.out]; omega))
        rw [HYK.out] at HVS
        have f1 := hblk.free k
        obtain ⟨z, hz⟩ : ∃ z : Int, (arrC (vals (ys.take k)))[k]? = some (.int .i64 z) := ⟨_, arrC_at _ k (by rw [vals_len _ (by rw [HYK.out]; omega)]; omega)⟩
        have g2 := hblk.cell k _ hz
        clear hcell hm hblk hz
        generalize ps.getD m 0 = y at *
        have j1 : (k : Int) < (vn : Int) := by omega
        have j2 : (k : Int) < 15 := by omega
        have j3 : (m : Int) < 16 := by omega
        have j4 : (0 : Int) ≤ (k : Int) := by omega
        have j5 : (0 : Int) ≤ (m : Int) := by omega
        go_wp2
        go_roundw
        case rel => exact ⟨k + 1, by omega, by go_num, by rw [HT.out, ← HVS.out]; exact HSET.out, below_set HB.out _ (Nat.le_refl _) _⟩
        case measure => simp [intOf]; omega
      · obtain rfl : k = vn := by omega
        have hall : ys.take k = ys := by rw [← HYL.out, List.take_length]
        rw [hall] at HBL
        have HSO := Lib.hid (show Calls Tryz.prog 116 #[.slice (some ⟨w1.heap.size, 0, none⟩) k 15] wr _ by
          have := Tryz.slices_Sort_int w1.heap.size 0 15 ys wr (vals_holds HBL.out (by rw [HYL.out]; omega)) HBL.out.lt (by rw [HYL.out]; omega)
          rw [HYL.out] at this
          exact this)
        have d0 := (HE0.out.below hb).cell 0 (.slice VA k vc) rfl
        have d1 := (HE0.out.below hb).cell 1 (.slice LA ln lc) rfl
        have j2 : (k : Int) ≤ 15 := by omega
        have j4 : (0 : Int) ≤ (k : Int) := by omega
        clear hblk hall hlt HV0 HBA hz
        go_wp2_with fail
        refine HSO.out.mono ?_
        rintro e w5 ⟨rfl, n5, os5, h5⟩
        obtain ⟨hb5, _, hc5⟩ := sorted_world (w0 := w1) hb (Nat.le_refl _) HBL.out (by rw [HYL.out]; omega) h5
        have HB5 := Lib.hid (HEB.out.trans (hb5.mono HEB.out.size))
        have HC5 := Lib.hid hc5
        have K5 := Lib.hid (HE0.out.below hb5)
        clear h5 hb5 hc5 d0 d1 hb
        have d0 := K5.out.cell 0 (.slice VA k vc) rfl
        have d1 := K5.out.cell 1 (.slice LA ln lc) rfl
        go_wp2_with fail
        refine (HC.out w5 HB5.out).mono ?_
        rintro e w6 ⟨rfl, hb6⟩
        have HB6 := Lib.hid (HB5.out.trans (hb6.mono HB5.out.size))
        obtain ⟨q, hq⟩ : ∃ q, k - (k / 2 + 1) = q := ⟨_, rfl⟩
        have hql : q < k := by omega
        have e1 : IntKind.i64.wrap ((k : Int) - ((k / 2 + 1 : Nat) : Int)) = (q : Int) := (IntWalk.i64_in _ (by omega)).trans (by omega)
        have e1' : IntKind.i64.wrap ((k : Int) - ((k : Int) / 2 + 1)) = (q : Int) := (IntWalk.i64_in _ (by omega)).trans (by omega)
        have e2 := HC5.out q (by rw [HYL.out]; exact hql)
        have e3 := (hb6.cell (p := ⟨w1.heap.size, q, none⟩) (lt_of_cell e2)).trans e2
        have HQ := Lib.hid hq
        obtain ⟨y, hy⟩ : ∃ y, (srt ys).getD q 0 = y := ⟨_, rfl⟩
        have HY := Lib.hid hy
        rw [hy] at e2 e3
        clear hy
        have e4 : (q : Int) < (k : Int) := by omega
        have e5 : (0 : Int) ≤ (q : Int) := by omega
        clear hb6 e2 d0 d1 hq
        go_wp2
        go_ret
        exact ⟨by rw [HQ.out, HY.out]; rfl, HB6.out⟩
end Go.Proofs.YtjadfpcipicckaaGreat.Qu

namespace Go.Proofs.YtjadfpcipicckaaGreat.Qu
open Go.RowKit Go.Proofs.YtjadfpcipicckaaGreat.Fld
set_option linter.unusedVariables false

def mayG (v l : Bool) (n : Nat) (kind : Int) : Bool := if kind = 1 then !v && !l else if kind = 2 then l else l || (v && decide (1 < n))
theorem containsI_quiet (A : Option Addr) (n cap : Nat) (l : List Int) (x : Int) (w : World) (k : Nat) (hr : RdI w A n l) : Calls Tryz.prog 75 #[.slice A n cap, .int .i64 x] (w.drewN k) fun e w'' => e = .returned (.bool (hasI l x)) ∧ ∃ m, w'' = w.drewN m :=
  (containsI_any A n cap l x (w.drewN k) (RdI.below hr (below_dr w k))).mono fun _ _ ⟨he, hw⟩ => ⟨he, k, hw.symm⟩
set_option maxRecDepth 100000 in
set_option maxHeartbeats 3200000 in
theorem may_any (VA : Option Addr) (vn vc : Nat) (vs : List Int) (LA : Option Addr) (ln lc : Nat) (ls : List Int) (kind x : Int) (w : World) (hv : RdI w VA vn vs) (hl : RdI w LA ln ls) :
    Calls Tryz.prog 57 #[grpV VA vn vc LA ln lc, .int .i64 kind, .int .i64 x] w fun e w' => e = .returned (.bool (mayG (hasI vs x) (hasI ls x) vn kind)) ∧ Below w.heap.size w w' := by
  have hb := alloc_below w (.cells #[.slice VA vn vc, .slice LA ln lc] 26)
  have HB := Lib.hid hb
  have HK := Lib.hid (Blk.new w #[.slice VA vn vc, .slice LA ln lc] 26)
  generalize hwa : w.alloc (.cells #[.slice VA vn vc, .slice LA ln lc] 26) = wa at *
  have HV := Lib.hid (fun k => containsI_quiet VA vn vc vs x wa k (RdI.below hv hb))
  have HL := Lib.hid (fun k => containsI_quiet LA ln lc ls x wa k (RdI.below hl hb))
  have HM := Lib.hid (show ∀ v l, mayG v l vn kind = if kind = 1 then !v && !l else if kind = 2 then l else l || (v && decide (1 < vn)) from fun _ _ => rfl)
  have hmv := hv.2.1
  unfold maxLen at hmv
  clear hv hl hb
  have HD := Lib.hid (fun k => (below_dr wa k))
  have HC0 := Lib.hid (fun k => ((HK.out.below (below_dr wa k)).cell 0 (.slice VA vn vc) rfl))
  have c0 := HK.out.cell 0 (.slice VA vn vc) rfl
  have c1 := HK.out.cell 1 (.slice LA ln lc) rfl
  unfold grpV
  generalize hasI vs x = bv at *
  generalize hasI ls x = bl at *
  have hn0 : ∀ k, Below w.heap.size w (wa.drewN k) := fun k => HB.out.trans ((HD.out k).mono HB.out.size)
  have HN0 := Lib.hid hn0
  clear hn0
  by_cases k1 : kind = 1
  · subst k1
    cases bv <;> cases bl
    all_goals
      go_enter Tryz.func57, Tryz.ntmps57
      go_wp2_with fail
      try rw [hwa]
      go_quiet (first | (go_at_call_of 75 (Value.slice VA vn vc); exact HV.out _) | (go_at_call_of 75 (Value.slice LA ln lc); exact HL.out _))
      clear c0 c1
      go_wp2
      go_ret
      exact ⟨by rw [HM.out]; rfl, HN0.out _⟩
  · by_cases k2 : kind = 2
    · subst k2
      cases bv <;> cases bl
      all_goals
        go_enter Tryz.func57, Tryz.ntmps57
        go_wp2_with fail
        try rw [hwa]
        go_quiet (first | (go_at_call_of 75 (Value.slice VA vn vc); exact HV.out _) | (go_at_call_of 75 (Value.slice LA ln lc); exact HL.out _))
        clear c0 c1
        go_wp2
        go_ret
        exact ⟨by rw [HM.out]; rfl, HN0.out _⟩
    · have q1 : (kind == 1) = false := by simpa using k1
      have q2 : (kind == 2) = false := by simpa using k2
      have HM2 := Lib.hid (show ∀ v l, mayG v l vn kind = (l || (v && decide (1 < vn))) from fun v l => by rw [HM.out, if_neg k1, if_neg k2])
      cases bv <;> cases bl
      all_goals
        go_enter Tryz.func57, Tryz.ntmps57
        go_wp2_with fail
        try rw [hwa]
        go_quiet (first | (go_at_call_of 75 (Value.slice VA vn vc); exact HV.out _) | (go_at_call_of 75 (Value.slice LA ln lc); exact HL.out _))
        clear c0 c1
        have c0 := HC0.out nq
        go_wp2
        go_ret
        exact ⟨by rw [HM2.out]; first | rfl | (simp; done) | (simp; omega), HN0.out _⟩
end Go.Proofs.YtjadfpcipicckaaGreat.Qu
