/-
  Layer 9, that the law QuorumOnce answers true. Conditions: the lists can be read.
-/
import Derived.Test.YtcnligkndficoaaQuLo
import Derived.Test.YtcnligkndficoaaQuL5
import Derived.Test.YtcnligkndficoaaQuV2
import Derived.Deep.RegionHeld3
import Derived.Deep.MidRow
import Derived.Deep.RegionWith
namespace Go.Proofs.Ytcnligkndficoaa.Qu
open Go.RowKit Go.Proofs.Ytcnligkndficoaa.Fld
set_option linter.unusedVariables false

set_option maxRecDepth 100000 in
set_option maxHeartbeats 3200000 in
theorem once_walk (VA : Option Addr) (vn vc : Nat) (vs : List Int) (LA : Option Addr) (ln lc : Nat) (ls : List Int) (SA : Option Addr) (sn sc : Nat) (sl : List Int) (ps : List Int) (hp : ps.length = 16) (w : World) (hv : RdI w VA vn vs) (hl : RdI w LA ln ls) (hs : RdI w SA sn sl) :
    Calls Try.prog 7 #[grpV VA vn vc LA ln lc, .slice SA sn sc, .agg (arrC ps)] w fun e w' => e = .returned (.bool true) ∧ Below w.heap.size w w' := by
  have hb0 := alloc_below w (.cells #[.slice VA vn vc, .slice LA ln lc] 24)
  have hb1 : Below w.heap.size w ((w.alloc (.cells #[.slice VA vn vc, .slice LA ln lc] 24)).alloc (.cells (arrC ps) 30)) := hb0.trans ((alloc_below _ _).mono hb0.size)
  have HB := Lib.hid hb1
  have HK := Lib.hid ((Blk.new w #[.slice VA vn vc, .slice LA ln lc] 24).past (.cells (arrC ps) 30))
  have hq := Blk.new (w.alloc (.cells #[.slice VA vn vc, .slice LA ln lc] 24)) (arrC ps) 30
  rw [show (w.alloc (.cells #[.slice VA vn vc, .slice LA ln lc] 24)).heap.size = w.heap.size + 1 by simp] at hq
  have HQ := Lib.hid hq
  have HAW := Lib.hid (awake_any ((w.alloc (.cells #[.slice VA vn vc, .slice LA ln lc] 24)).alloc (.cells (arrC ps) 30)))
  have HVR := Lib.hid hv
  have HLR := Lib.hid hl
  have HSR := Lib.hid hs
  have HPL := Lib.hid hp
  have HVL := Lib.hid hv.1
  have hm1 := hv.2.1
  have hm2 := hl.2.1
  unfold maxLen at hm1 hm2
  clear hv hl hs hb0 hb1 hq
  have hin := arr_info ps hp
  have hun := Try.underlying30
  unfold arrC at HB HK HQ HAW ⊢
  generalize har : vI ps = ar at *
  have HAR := Lib.hid har
  clear har hp
  unfold grpV
  go_enter Try.func7, Try.ntmps7
  go_wp2_with fail
  refine HAW.out.mono ?_
  rintro e w1 ⟨rfl, hb⟩
  have HB1 := Lib.hid (HB.out.trans (hb.mono HB.out.size))
  have K1 := Lib.hid (HK.out.below hb)
  have Q1 := Lib.hid (HQ.out.below hb)
  clear hb HAW HK HQ HB
  have c0 := K1.out.cell 0 (.slice VA vn vc) rfl
  have c1 := K1.out.cell 1 (.slice LA ln lc) rfl
  have HFW := Lib.hid (few_any VA vn vc vs LA ln lc ls (some ⟨w1.heap.size, 0, none⟩) 1 1 [sn] _ (lens_one w1 SA sn sc 22) (by omega) (by omega))
  have HBF := Lib.hid (alloc_below w1 (.cells #[.slice SA sn sc] 22))
  unfold grpV at HFW
  go_wp2_with fail
  refine HFW.out.mono ?_
  rintro e w2 ⟨rfl, hb⟩
  have HBW := Lib.hid (HBF.out.trans (hb.mono HBF.out.size))
  have HB2 := Lib.hid (HB1.out.trans (HBW.out.mono HB1.out.size))
  have K2 := Lib.hid (K1.out.below HBW.out)
  have Q2 := Lib.hid (Q1.out.below HBW.out)
  clear hb c0 c1 HFW HBF HBW K1 Q1 HB1
  have c0 := K2.out.cell 0 (.slice VA vn vc) rfl
  have c1 := K2.out.cell 1 (.slice LA ln lc) rfl
  have HRT := Lib.hid (right_any VA vn vc vs LA ln lc ls w2 (HVR.out.below HB2.out) (HLR.out.below HB2.out))
  unfold grpV at HRT
  go_wp2_with fail
  refine HRT.out.mono ?_
  rintro e w3 ⟨rfl, hb⟩
  have HB3 := Lib.hid (HB2.out.trans (hb.mono HB2.out.size))
  have K3 := Lib.hid (K2.out.below hb)
  have Q3 := Lib.hid (Q2.out.below hb)
  clear hb c0 c1 HRT K2 Q2 HB2
  have c0 := K3.out.cell 0 (.slice VA vn vc) rfl
  have c1 := K3.out.cell 1 (.slice LA ln lc) rfl
  cases hf : fewG vn ln [sn] with
  | false =>
    go_wp2
    go_ret
    exact ⟨rfl, HB3.out⟩
  | true =>
    cases hg : grpOk vs ls with
    | false =>
      go_wp2
      go_ret
      exact ⟨rfl, HB3.out⟩
    | true =>
      have HG := Lib.hid hg
      have hl1 := (ok_len hg).1
      rw [HVL.out] at hl1
      have HND := Lib.hid (node_nat hg)
      have HME := Lib.hid (least_yes (ps := ps) hg)
      clear hf hg
      have HM := Lib.hid (middle_any VA vn vc vs LA ln lc ls ps HPL.out w3 (HVR.out.below HB3.out) (HLR.out.below HB3.out))
      unfold arrC at HM
      rw [HAR.out] at HM
      unfold grpV at HM
      have l0 := blk_range Q3.out
      obtain ⟨mm, hmm⟩ : ∃ mm, midG vs ls ps = mm := ⟨_, rfl⟩
      rw [hmm] at HM HME
      clear hmm
      go_wp2_with (refine wpList_load_mid rfl 30 _ rfl _ _ rfl ar _ l0 hun rfl hin ?_)
      refine HM.out.mono ?_
      rintro e w4 ⟨rfl, hb⟩
      have HB4 := Lib.hid (HB3.out.trans (hb.mono HB3.out.size))
      have K4 := Lib.hid (K3.out.below hb)
      have Q4 := Lib.hid (Q3.out.below hb)
      clear hb c0 c1 l0 HM K3 Q3 HB3
      have HCE := Lib.hid (fun W (hW : Below w4.heap.size w4 W) => show W.cell? ⟨w.heap.size, 0, none⟩ = some (.slice VA vn vc) ∧ W.cell? ⟨w.heap.size, 1, none⟩ = some (.slice LA ln lc) ∧ ∀ m : Nat, m < 16 → W.cell? ⟨w.heap.size + 1, m, none⟩ = some (.int .i64 (ps.getD m 0)) from
        ⟨(K4.out.below hW).cell 0 _ rfl, (K4.out.below hW).cell 1 _ rfl, fun m hm => (Q4.out.below hW).cell m _ (by rw [← HAR.out]; exact arrC_at ps m (by rw [HPL.out]; exact hm))⟩)
      have HFT := Lib.hid (filter_take vs)
      have HFL := Lib.hid (filter_le vs)
      have HHS := Lib.hid (fun W (hW : Below w4.heap.size w4 W) v => has_any SA sn sc sl v W (HSR.out.below (HB4.out.trans (hW.mono HB4.out.size))))
      obtain ⟨p1, hp1⟩ : ∃ p1 : Int → Bool, (fun v => !hasI sl v) = p1 := ⟨_, rfl⟩
      obtain ⟨p2, hp2⟩ : ∃ p2 : Int → Bool, (fun v => decide (mm ≤ atOf ps v)) = p2 := ⟨_, rfl⟩
      obtain ⟨p3, hp3⟩ : ∃ p3 : Int → Bool, (fun v => decide (mm < atOf ps v)) = p3 := ⟨_, rfl⟩
      have HP1 := Lib.hid hp1
      rw [hp2, hp3] at HME
      have HPE := Lib.hid (show ∀ v, p1 v = !hasI sl v ∧ p2 v = decide (mm ≤ atOf ps v) ∧ p3 v = decide (mm < atOf ps v) from fun v => ⟨by rw [← hp1], by rw [← hp2], by rw [← hp3]⟩)
      clear hp1 hp2 hp3
      have c0 := (HCE.out w4 (Below.refl _ _)).1
      have c1 := (HCE.out w4 (Below.refl _ _)).2.1
      go_wp2_with fail
      go_loopw [10, 11, 12, 14] (fun v1 v2 v3 i wr => ∃ k : Nat, k ≤ vn ∧ i = .int .i64 k ∧ Tri w4 wr v1 ((vs.take k).filter p1) v2 ((vs.take k).filter p2) v3 ((vs.take k).filter p3)) (fun _ _ _ i _ => vn - (intOf i).toNat)
      case atStart => exact ⟨0, Nat.zero_le _, rfl, OwnI.nil _ _ (Below.refl _ _), OwnI.nil _ _ (Below.refl _ _), OwnI.nil _ _ (Below.refl _ _), fun r hr => by simp [Value.ownBlock] at hr, fun r hr => by simp [Value.ownBlock] at hr, fun r hr => by simp [Value.ownBlock] at hr⟩
      case round =>
        obtain ⟨k, hk, rfl, ht⟩ := hrel
        have HT := Lib.hid ht
        have HBR := Lib.hid ht.o1.1
        clear ht c0 c1
        obtain ⟨c0, c1, ca⟩ := HCE.out _ HBR.out
        by_cases hlt : k < vn
        · obtain ⟨b, off, rfl, hcell⟩ := (HVR.out.below (HB4.out.trans (HBR.out.mono HB4.out.size))).2.2 (by omega)
          obtain ⟨m, hm, hm1', hm2'⟩ := HND.out k (by rw [HVL.out]; exact hlt)
          have hc := hcell k hlt
          have HXC := Lib.hid (fun W (hW : Below w4.heap.size w4 W) => show W.cell? ⟨w.heap.size + 1, m, none⟩ = some (.int .i64 (ps.getD m 0)) from (HCE.out W hW).2.2 m (by omega))
          have g0 := HXC.out _ HBR.out
          have HE1 := Lib.hid (HFT.out p1 k (by rw [HVL.out]; exact hlt))
          have HE2 := Lib.hid (HFT.out p2 k (by rw [HVL.out]; exact hlt))
          have HE3 := Lib.hid (HFT.out p3 k (by rw [HVL.out]; exact hlt))
          have hat : atOf ps (vs.getD k 0) = ps.getD m 0 := by rw [hm]; unfold atOf; simp
          have hpe := HPE.out (vs.getD k 0)
          rw [hat] at hpe
          have h1 := HFL.out p1 k
          have h2 := HFL.out p2 k
          have h3 := HFL.out p3 k
          rw [HVL.out] at h1 h2 h3
          have HHV := Lib.hid (HHS.out _ HBR.out (vs.getD k 0))
          rw [hm] at hc HE1 HE2 HE3 hpe HHV
          clear hcell hat hm ca
          generalize ps.getD m 0 = y at *
          generalize (vs.take k).filter p1 = l1 at *
          generalize (vs.take k).filter p2 = l2 at *
          generalize (vs.take k).filter p3 = l3 at *
          obtain ⟨e1, e2, e3⟩ := hpe
          have HQ1 := Lib.hid e1
          have HQ2 := Lib.hid e2
          have HQ3 := Lib.hid e3
          clear e1 e2 e3
          have j1 : (k : Int) < (vn : Int) := by omega
          have j0 : (0 : Int) ≤ (k : Int) := by omega
          have j3 : (m : Int) < 16 := by omega
          have j5 : (0 : Int) ≤ (m : Int) := by omega
          go_wp2_with fail
          refine HHV.out.mono ?_
          rintro e w' ⟨rfl, rfl⟩
          clear HHV
          generalize hasI sl (m : Int) = bh at *
          cases bh with
          | true =>
            by_cases q2 : mm ≤ y
            · by_cases q3 : mm < y
              · have d2 : decide (mm ≤ y) = true := by simpa using q2
                have d3 : decide (mm < y) = true := by simpa using q3
                go_wp2_with (first
                  | (at_builtin; refine wpList_append_tri rfl _ _ rfl w4 _ _ _ _ _ _ rfl ((HT.out.rot).below (alloc_below _ (.cells #[.int .i64 (m : Int)] 3))) _ (m : Int) rfl ((Blk.new _ #[.int .i64 (m : Int)] 3).cell 0 _ rfl) (by omega) ?_; intro v2 w7 ht; have HT := Lib.hid (ht.rot.rot); clear c0 c1 g0; have c0 := (HCE.out _ HT.out.o1.1).1; have c1 := (HCE.out _ HT.out.o1.1).2.1; have g0 := HXC.out _ HT.out.o1.1; clear ht)
                  | (at_builtin; refine wpList_append_tri rfl _ _ rfl w4 _ _ _ _ _ _ rfl ((HT.out.rot.rot).below (alloc_below _ (.cells #[.int .i64 (m : Int)] 3))) _ (m : Int) rfl ((Blk.new _ #[.int .i64 (m : Int)] 3).cell 0 _ rfl) (by omega) ?_; intro v3 w8 ht; have HT := Lib.hid (ht.rot); clear c0 c1 g0; have c0 := (HCE.out _ HT.out.o1.1).1; have c1 := (HCE.out _ HT.out.o1.1).2.1; have g0 := HXC.out _ HT.out.o1.1; clear ht))
                go_roundw
                case rel => exact ⟨k + 1, by omega, by go_num, by rw [HE1.out, HE2.out, HE3.out, HQ1.out, HQ2.out, HQ3.out, d2, d3]; simpa using HT.out⟩
                case measure => simp [intOf]; omega
              · have d2 : decide (mm ≤ y) = true := by simpa using q2
                have d3 : decide (mm < y) = false := by simpa using q3
                go_wp2_with (first
                  | (at_builtin; refine wpList_append_tri rfl _ _ rfl w4 _ _ _ _ _ _ rfl ((HT.out.rot).below (alloc_below _ (.cells #[.int .i64 (m : Int)] 3))) _ (m : Int) rfl ((Blk.new _ #[.int .i64 (m : Int)] 3).cell 0 _ rfl) (by omega) ?_; intro v2 w7 ht; have HT := Lib.hid (ht.rot.rot); clear c0 c1 g0; have c0 := (HCE.out _ HT.out.o1.1).1; have c1 := (HCE.out _ HT.out.o1.1).2.1; have g0 := HXC.out _ HT.out.o1.1; clear ht))
                go_roundw
                case rel => exact ⟨k + 1, by omega, by go_num, by rw [HE1.out, HE2.out, HE3.out, HQ1.out, HQ2.out, HQ3.out, d2, d3]; simpa using HT.out⟩
                case measure => simp [intOf]; omega
            · have q3 : ¬ mm < y := by omega
              have d2 : decide (mm ≤ y) = false := by simpa using q2
              have d3 : decide (mm < y) = false := by simpa using q3
              go_wp2
              go_roundw
              case rel => exact ⟨k + 1, by omega, by go_num, by rw [HE1.out, HE2.out, HE3.out, HQ1.out, HQ2.out, HQ3.out, d2, d3]; simpa using HT.out⟩
              case measure => simp [intOf]; omega
          | false =>
            by_cases q2 : mm ≤ y
            · by_cases q3 : mm < y
              · have d2 : decide (mm ≤ y) = true := by simpa using q2
                have d3 : decide (mm < y) = true := by simpa using q3
                go_wp2_with (first
                  | (at_builtin; refine wpList_append_tri rfl _ _ rfl w4 _ _ _ _ _ _ rfl ((HT.out).below (alloc_below _ (.cells #[.int .i64 (m : Int)] 3))) _ (m : Int) rfl ((Blk.new _ #[.int .i64 (m : Int)] 3).cell 0 _ rfl) (by omega) ?_; intro v1 w6 ht; have HT := Lib.hid (ht); clear c0 c1 g0; have c0 := (HCE.out _ HT.out.o1.1).1; have c1 := (HCE.out _ HT.out.o1.1).2.1; have g0 := HXC.out _ HT.out.o1.1; clear ht)
                  | (at_builtin; refine wpList_append_tri rfl _ _ rfl w4 _ _ _ _ _ _ rfl ((HT.out.rot).below (alloc_below _ (.cells #[.int .i64 (m : Int)] 3))) _ (m : Int) rfl ((Blk.new _ #[.int .i64 (m : Int)] 3).cell 0 _ rfl) (by omega) ?_; intro v2 w7 ht; have HT := Lib.hid (ht.rot.rot); clear c0 c1 g0; have c0 := (HCE.out _ HT.out.o1.1).1; have c1 := (HCE.out _ HT.out.o1.1).2.1; have g0 := HXC.out _ HT.out.o1.1; clear ht)
                  | (at_builtin; refine wpList_append_tri rfl _ _ rfl w4 _ _ _ _ _ _ rfl ((HT.out.rot.rot).below (alloc_below _ (.cells #[.int .i64 (m : Int)] 3))) _ (m : Int) rfl ((Blk.new _ #[.int .i64 (m : Int)] 3).cell 0 _ rfl) (by omega) ?_; intro v3 w8 ht; have HT := Lib.hid (ht.rot); clear c0 c1 g0; have c0 := (HCE.out _ HT.out.o1.1).1; have c1 := (HCE.out _ HT.out.o1.1).2.1; have g0 := HXC.out _ HT.out.o1.1; clear ht))
                go_roundw
                case rel => exact ⟨k + 1, by omega, by go_num, by rw [HE1.out, HE2.out, HE3.out, HQ1.out, HQ2.out, HQ3.out, d2, d3]; simpa using HT.out⟩
                case measure => simp [intOf]; omega
              · have d2 : decide (mm ≤ y) = true := by simpa using q2
                have d3 : decide (mm < y) = false := by simpa using q3
                go_wp2_with (first
                  | (at_builtin; refine wpList_append_tri rfl _ _ rfl w4 _ _ _ _ _ _ rfl ((HT.out).below (alloc_below _ (.cells #[.int .i64 (m : Int)] 3))) _ (m : Int) rfl ((Blk.new _ #[.int .i64 (m : Int)] 3).cell 0 _ rfl) (by omega) ?_; intro v1 w6 ht; have HT := Lib.hid (ht); clear c0 c1 g0; have c0 := (HCE.out _ HT.out.o1.1).1; have c1 := (HCE.out _ HT.out.o1.1).2.1; have g0 := HXC.out _ HT.out.o1.1; clear ht)
                  | (at_builtin; refine wpList_append_tri rfl _ _ rfl w4 _ _ _ _ _ _ rfl ((HT.out.rot).below (alloc_below _ (.cells #[.int .i64 (m : Int)] 3))) _ (m : Int) rfl ((Blk.new _ #[.int .i64 (m : Int)] 3).cell 0 _ rfl) (by omega) ?_; intro v2 w7 ht; have HT := Lib.hid (ht.rot.rot); clear c0 c1 g0; have c0 := (HCE.out _ HT.out.o1.1).1; have c1 := (HCE.out _ HT.out.o1.1).2.1; have g0 := HXC.out _ HT.out.o1.1; clear ht))
                go_roundw
                case rel => exact ⟨k + 1, by omega, by go_num, by rw [HE1.out, HE2.out, HE3.out, HQ1.out, HQ2.out, HQ3.out, d2, d3]; simpa using HT.out⟩
                case measure => simp [intOf]; omega
            · have q3 : ¬ mm < y := by omega
              have d2 : decide (mm ≤ y) = false := by simpa using q2
              have d3 : decide (mm < y) = false := by simpa using q3
              go_wp2_with (first
                | (at_builtin; refine wpList_append_tri rfl _ _ rfl w4 _ _ _ _ _ _ rfl ((HT.out).below (alloc_below _ (.cells #[.int .i64 (m : Int)] 3))) _ (m : Int) rfl ((Blk.new _ #[.int .i64 (m : Int)] 3).cell 0 _ rfl) (by omega) ?_; intro v1 w6 ht; have HT := Lib.hid (ht); clear c0 c1 g0; have c0 := (HCE.out _ HT.out.o1.1).1; have c1 := (HCE.out _ HT.out.o1.1).2.1; have g0 := HXC.out _ HT.out.o1.1; clear ht))
              go_roundw
              case rel => exact ⟨k + 1, by omega, by go_num, by rw [HE1.out, HE2.out, HE3.out, HQ1.out, HQ2.out, HQ3.out, d2, d3]; simpa using HT.out⟩
              case measure => simp [intOf]; omega
        · obtain rfl : k = vn := by omega
          have HTK := Lib.hid (show vs.take k = vs by rw [← HVL.out, List.take_length])
          rw [HTK.out] at HT
          have HW1 := Lib.hid (And.intro HT.out.o1.1 (And.intro HT.out.o2.1 HT.out.o3.1))
          have hn1 : (vs.filter p1).length ≤ 1000000 := Nat.le_trans (List.length_filter_le _ _) (by rw [HVL.out]; omega)
          have hn2 : (vs.filter p2).length ≤ 1000000 := Nat.le_trans (List.length_filter_le _ _) (by rw [HVL.out]; omega)
          have hn3 : (vs.filter p3).length ≤ 1000000 := Nat.le_trans (List.length_filter_le _ _) (by rw [HVL.out]; omega)
          obtain ⟨A1, b1, hv1, r1, _⟩ := HT.out.o1.form hn1
          obtain ⟨A2, b2, hv2, r2, _⟩ := HT.out.o2.form hn2
          obtain ⟨A3, b3, hv3, r3, _⟩ := HT.out.o3.form hn3
          have R1 := Lib.hid r1
          have R2 := Lib.hid r2
          have R3 := Lib.hid r3
          subst hv1 hv2 hv3
          have HBW := Lib.hid (HB4.out.trans (HBR.out.mono HB4.out.size))
          have HWL := Lib.hid (fun W (hW : Below wr.heap.size wr W) => wins_any VA k vc vs LA ln lc ls SA sn sc sl W (HVR.out.below (HBW.out.trans (hW.mono HBW.out.size))) (HLR.out.below (HBW.out.trans (hW.mono HBW.out.size))) (HSR.out.below (HBW.out.trans (hW.mono HBW.out.size))))
          have HLL := Lib.hid (fun W (hW : Below wr.heap.size wr W) => lost_any VA k vc vs LA ln lc ls SA sn sc sl W (HVR.out.below (HBW.out.trans (hW.mono HBW.out.size))) (HLR.out.below (HBW.out.trans (hW.mono HBW.out.size))) (HSR.out.below (HBW.out.trans (hW.mono HBW.out.size))))
          have HWO := Lib.hid (fun W (hW : Below wr.heap.size wr W) => wins_any VA k vc vs LA ln lc ls A1 _ b1 _ W (HVR.out.below (HBW.out.trans (hW.mono HBW.out.size))) (HLR.out.below (HBW.out.trans (hW.mono HBW.out.size))) (R1.out.below hW))
          have HWE := Lib.hid (fun W (hW : Below wr.heap.size wr W) => wins_any VA k vc vs LA ln lc ls A2 _ b2 _ W (HVR.out.below (HBW.out.trans (hW.mono HBW.out.size))) (HLR.out.below (HBW.out.trans (hW.mono HBW.out.size))) (R2.out.below hW))
          have HWM := Lib.hid (fun W (hW : Below wr.heap.size wr W) => wins_any VA k vc vs LA ln lc ls A3 _ b3 _ W (HVR.out.below (HBW.out.trans (hW.mono HBW.out.size))) (HLR.out.below (HBW.out.trans (hW.mono HBW.out.size))) (R3.out.below hW))
          have HON := Lib.hid (show winsG vs ls sl = true → winsG vs ls (vs.filter p1) = false from fun h => by rw [← HP1.out]; exact others_no h)
          have HLO := Lib.hid (fun h => wins_lost (vs := vs) (ls := ls) (l := sl) h)
          rw [HME.out.1] at HWE
          rw [HME.out.2] at HWM
          unfold grpV at HWL HLL HWO HWE HWM
          have HCW := Lib.hid (fun W (hW : Below wr.heap.size wr W) => HCE.out W (HBR.out.trans (hW.mono HBR.out.size)))
          have HBN := Lib.hid (Below.refl wr.heap.size wr)
          clear r1 r2 r3 ca HT R1 R2 R3 HW1 hn1 hn2 hn3
          generalize (vs.filter p1).length = k1 at *
          generalize (vs.filter p2).length = k2 at *
          generalize (vs.filter p3).length = k3 at *
          generalize winsG vs ls (vs.filter p1) = wo at *
          generalize lostG vs ls sl = lo at *
          generalize winsG vs ls sl = wi at *
          cases wi with
          | true =>
            have e1 := HON.out rfl
            have e2 := HLO.out rfl
            subst e1 e2
            go_wp2_with fail
            refine (HWL.out _ HBN.out).mono ?_
            rintro e z ⟨rfl, hb⟩
            have HBN := Lib.hid (HBN.out.trans (hb.mono HBN.out.size))
            clear hb c0 c1
            have c0 := (HCW.out _ HBN.out).1
            have c1 := (HCW.out _ HBN.out).2.1
            go_wp2_with fail
            refine (HWO.out _ HBN.out).mono ?_
            rintro e z ⟨rfl, hb⟩
            have HBN := Lib.hid (HBN.out.trans (hb.mono HBN.out.size))
            clear hb c0 c1
            have c0 := (HCW.out _ HBN.out).1
            have c1 := (HCW.out _ HBN.out).2.1
            go_wp2_with fail
            refine (HWL.out _ HBN.out).mono ?_
            rintro e z ⟨rfl, hb⟩
            have HBN := Lib.hid (HBN.out.trans (hb.mono HBN.out.size))
            clear hb c0 c1
            have c0 := (HCW.out _ HBN.out).1
            have c1 := (HCW.out _ HBN.out).2.1
            go_wp2_with fail
            refine (HLL.out _ HBN.out).mono ?_
            rintro e z ⟨rfl, hb⟩
            have HBN := Lib.hid (HBN.out.trans (hb.mono HBN.out.size))
            clear hb c0 c1
            have c0 := (HCW.out _ HBN.out).1
            have c1 := (HCW.out _ HBN.out).2.1
            go_wp2_with fail
            refine (HWE.out _ HBN.out).mono ?_
            rintro e z ⟨rfl, hb⟩
            have HBN := Lib.hid (HBN.out.trans (hb.mono HBN.out.size))
            clear hb c0 c1
            have c0 := (HCW.out _ HBN.out).1
            have c1 := (HCW.out _ HBN.out).2.1
            go_wp2_with fail
            refine (HWM.out _ HBN.out).mono ?_
            rintro e z ⟨rfl, hb⟩
            have HBN := Lib.hid (HBN.out.trans (hb.mono HBN.out.size))
            clear hb c0 c1
            have c0 := (HCW.out _ HBN.out).1
            have c1 := (HCW.out _ HBN.out).2.1
            go_wp2
            go_ret
            exact ⟨rfl, HBW.out.trans (HBN.out.mono HBW.out.size)⟩
          | false =>
            go_wp2_with fail
            refine (HWL.out _ HBN.out).mono ?_
            rintro e z ⟨rfl, hb⟩
            have HBN := Lib.hid (HBN.out.trans (hb.mono HBN.out.size))
            clear hb c0 c1
            have c0 := (HCW.out _ HBN.out).1
            have c1 := (HCW.out _ HBN.out).2.1
            go_wp2_with fail
            refine (HWL.out _ HBN.out).mono ?_
            rintro e z ⟨rfl, hb⟩
            have HBN := Lib.hid (HBN.out.trans (hb.mono HBN.out.size))
            clear hb c0 c1
            have c0 := (HCW.out _ HBN.out).1
            have c1 := (HCW.out _ HBN.out).2.1
            go_wp2_with fail
            refine (HWE.out _ HBN.out).mono ?_
            rintro e z ⟨rfl, hb⟩
            have HBN := Lib.hid (HBN.out.trans (hb.mono HBN.out.size))
            clear hb c0 c1
            have c0 := (HCW.out _ HBN.out).1
            have c1 := (HCW.out _ HBN.out).2.1
            go_wp2_with fail
            refine (HWM.out _ HBN.out).mono ?_
            rintro e z ⟨rfl, hb⟩
            have HBN := Lib.hid (HBN.out.trans (hb.mono HBN.out.size))
            clear hb c0 c1
            have c0 := (HCW.out _ HBN.out).1
            have c1 := (HCW.out _ HBN.out).2.1
            go_wp2
            go_ret
            exact ⟨rfl, HBW.out.trans (HBN.out.mono HBW.out.size)⟩
end Go.Proofs.Ytcnligkndficoaa.Qu
