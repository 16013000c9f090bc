/-
  Layer 9, that the law QuorumRises answers true. Conditions: the lists can be read.
-/
import Derived.Test.YtcnligkndficoaaQuLr
import Derived.Deep.RegionHeld3
import Derived.Deep.MidRow
import Derived.Deep.RegionWith
namespace Go.Proofs.Ytcnligkndficoaa.Qu
open Go.RowKit Go.Proofs.Ytcnligkndficoaa.Fld
set_option linter.unusedVariables false

set_option maxRecDepth 100000 in
set_option maxHeartbeats 6400000 in
theorem rises_walk (VA : Option Addr) (vn vc : Nat) (vs : List Int) (LA : Option Addr) (ln lc : Nat) (ls : List Int) (ps : List Int) (hp : ps.length = 16) (qs : List Int) (hq : qs.length = 16) (w : World) (hv : RdI w VA vn vs) (hl : RdI w LA ln ls) :
    Calls Try.prog 9 #[grpV VA vn vc LA ln lc, .agg (arrC ps), .agg (arrC qs)] w fun e w' => e = .returned (.bool true) ∧ Below w.heap.size w w' := by
  have hb0 := alloc_below w (.cells #[.slice VA vn vc, .slice LA ln lc] 24)
  have hb1 : Below w.heap.size w ((w.alloc (.cells #[.slice VA vn vc, .slice LA ln lc] 24)).alloc (.cells (arrC ps) 30)) := hb0.trans ((alloc_below _ _).mono hb0.size)
  have hb2 : Below w.heap.size w (((w.alloc (.cells #[.slice VA vn vc, .slice LA ln lc] 24)).alloc (.cells (arrC ps) 30)).alloc (.cells (arrC qs) 30)) := hb1.trans ((alloc_below _ _).mono hb1.size)
  have HB := Lib.hid hb2
  have HK := Lib.hid (((Blk.new w #[.slice VA vn vc, .slice LA ln lc] 24).past (.cells (arrC ps) 30)).past (.cells (arrC qs) 30))
  have hbp := (Blk.new (w.alloc (.cells #[.slice VA vn vc, .slice LA ln lc] 24)) (arrC ps) 30).past (.cells (arrC qs) 30)
  have hbq := Blk.new ((w.alloc (.cells #[.slice VA vn vc, .slice LA ln lc] 24)).alloc (.cells (arrC ps) 30)) (arrC qs) 30
  rw [show (w.alloc (.cells #[.slice VA vn vc, .slice LA ln lc] 24)).heap.size = w.heap.size + 1 by simp] at hbp
  rw [show ((w.alloc (.cells #[.slice VA vn vc, .slice LA ln lc] 24)).alloc (.cells (arrC ps) 30)).heap.size = w.heap.size + 2 by simp] at hbq
  have HP := Lib.hid hbp
  have HQ := Lib.hid hbq
  have HAW := Lib.hid (awake_any (((w.alloc (.cells #[.slice VA vn vc, .slice LA ln lc] 24)).alloc (.cells (arrC ps) 30)).alloc (.cells (arrC qs) 30)))
  have HVR := Lib.hid hv
  have HLR := Lib.hid hl
  have HPL := Lib.hid hp
  have HQL := Lib.hid hq
  have hm1 := hv.2.1
  have hm2 := hl.2.1
  unfold maxLen at hm1 hm2
  have hin := arr_info ps hp
  have hun := Try.underlying30
  clear hv hl hb0 hb1 hb2 hbp hbq
  generalize hap : arrC ps = ap at *
  generalize haq : arrC qs = aq at *
  have HAP := Lib.hid hap
  have HAQ := Lib.hid haq
  clear hap haq
  unfold grpV
  go_enter Try.func9, Try.ntmps9
  go_wp2_with fail
  refine HAW.out.mono ?_
  rintro e w1 ⟨rfl, hb⟩
  have HB1 := Lib.hid (HB.out.trans (hb.mono HB.out.size))
  have K1 := Lib.hid (HK.out.below hb)
  have P1 := Lib.hid (HP.out.below hb)
  have Q1 := Lib.hid (HQ.out.below hb)
  clear hb HAW HK HP HQ HB
  have c0 := K1.out.cell 0 (.slice VA vn vc) rfl
  have c1 := K1.out.cell 1 (.slice LA ln lc) rfl
  have HFW := Lib.hid (few_any VA vn vc vs LA ln lc ls none 0 0 [] w1 (lens_none w1) (by omega) (by omega))
  unfold grpV at HFW
  go_wp2_with fail
  refine HFW.out.mono ?_
  rintro e w2 ⟨rfl, hb⟩
  have HB2 := Lib.hid (HB1.out.trans (hb.mono HB1.out.size))
  have K2 := Lib.hid (K1.out.below hb)
  have P2 := Lib.hid (P1.out.below hb)
  have Q2 := Lib.hid (Q1.out.below hb)
  clear hb c0 c1 HFW K1 P1 Q1 HB1
  have c0 := K2.out.cell 0 (.slice VA vn vc) rfl
  have c1 := K2.out.cell 1 (.slice LA ln lc) rfl
  have HRT := Lib.hid (right_any VA vn vc vs LA ln lc ls w2 (HVR.out.below HB2.out) (HLR.out.below HB2.out))
  unfold grpV at HRT
  go_wp2_with fail
  refine HRT.out.mono ?_
  rintro e w3 ⟨rfl, hb⟩
  have HB3 := Lib.hid (HB2.out.trans (hb.mono HB2.out.size))
  have K3 := Lib.hid (K2.out.below hb)
  have P3 := Lib.hid (P2.out.below hb)
  have Q3 := Lib.hid (Q2.out.below hb)
  clear hb c0 c1 HRT K2 P2 Q2 HB2
  have c0 := K3.out.cell 0 (.slice VA vn vc) rfl
  have c1 := K3.out.cell 1 (.slice LA ln lc) rfl
  cases hf : fewG vn ln [] with
  | false =>
    go_wp2
    go_ret
    exact ⟨rfl, HB3.out⟩
  | true =>
    cases hg : grpOk vs ls with
    | false =>
      go_wp2
      go_ret
      exact ⟨rfl, HB3.out⟩
    | true =>
      have HG := Lib.hid hg
      clear hf hg
      have hz : (w3.alloc (.cells #[.int .i64 0, .int .i64 0, .int .i64 0, .int .i64 0, .int .i64 0, .int .i64 0, .int .i64 0, .int .i64 0, .int .i64 0, .int .i64 0, .int .i64 0, .int .i64 0, .int .i64 0, .int .i64 0, .int .i64 0, .int .i64 0] 30)).alloc (.cells #[.int .i64 0, .int .i64 0, .int .i64 0, .int .i64 0, .int .i64 0, .int .i64 0, .int .i64 0, .int .i64 0, .int .i64 0, .int .i64 0, .int .i64 0, .int .i64 0, .int .i64 0, .int .i64 0, .int .i64 0, .int .i64 0] 30) = (w3.alloc (.cells (arrC (fil [])) 30)).alloc (.cells (arrC (fil [])) 30) := rfl
      have hz1 : w3.alloc (.cells #[.int .i64 0, .int .i64 0, .int .i64 0, .int .i64 0, .int .i64 0, .int .i64 0, .int .i64 0, .int .i64 0, .int .i64 0, .int .i64 0, .int .i64 0, .int .i64 0, .int .i64 0, .int .i64 0, .int .i64 0, .int .i64 0] 30) = w3.alloc (.cells (arrC (fil [])) 30) := rfl
      have hbh : Below w3.heap.size w3 ((w3.alloc (.cells (arrC (fil [])) 30)).alloc (.cells (arrC (fil [])) 30)) := (alloc_below _ _).trans ((alloc_below _ _).mono (by simp))
      have H0 := Lib.hid ((Blk.new w3 (arrC (fil [])) 30).past (.cells (arrC (fil [])) 30))
      have S0 := Lib.hid (show Blk ((w3.alloc (.cells (arrC (fil [])) 30)).alloc (.cells (arrC (fil [])) 30)) (w3.heap.size + 1) (arrC (fil [])) 30 by
        have := Blk.new (w3.alloc (.cells (arrC (fil [])) 30)) (arrC (fil [])) 30
        rwa [show (w3.alloc (.cells (arrC (fil [])) 30)).heap.size = w3.heap.size + 1 by simp] at this)
      have HBH := Lib.hid hbh
      obtain ⟨a0, ha0⟩ : ∃ a0, ps.getD 0 0 = a0 := ⟨_, rfl⟩
      have HA0 := Lib.hid ha0
      clear hbh c0 c1 ha0
      go_wp2_with fail
      have HLT := Lib.hid (show w.heap.size + 2 < w3.heap.size from Q3.out.lt)
      go_loopw [12] (fun i wr => ∃ k : Nat, k ≤ 16 ∧ i = .int .i64 k ∧ Blk wr w3.heap.size (arrC (fil ((maxs ps qs).take k))) 30 ∧ Blk wr (w3.heap.size + 1) (arrC (fil (List.replicate k a0))) 30 ∧ Below w3.heap.size w3 wr) (fun i _ => 16 - (intOf i).toNat)
      case atStart => exact ⟨0, Nat.zero_le _, rfl, H0.out, S0.out, HBH.out⟩
      case round =>
        obtain ⟨k, hk, rfl, hbh, hbs, hb⟩ := hrel
        have HB := Lib.hid hb
        have BH := Lib.hid hbh
        have BS := Lib.hid hbs
        have P4 := Lib.hid (P3.out.below hb)
        have Q4 := Lib.hid (Q3.out.below hb)
        have K4 := Lib.hid (K3.out.below hb)
        have hlt0 := HLT.out
        clear hb hbh hbs
        have g0 := P4.out.cell 0 (.int .i64 a0) (by rw [← HAP.out, ← HA0.out]; exact arrC_at ps 0 (by rw [HPL.out]; omega))
        by_cases hlt : k < 16
        · have g1 := P4.out.cell k (.int .i64 (ps.getD k 0)) (by rw [← HAP.out]; exact arrC_at ps k (by rw [HPL.out]; omega))
          have g2 := Q4.out.cell k (.int .i64 (qs.getD k 0)) (by rw [← HAQ.out]; exact arrC_at qs k (by rw [HQL.out]; omega))
          have ml := maxs_len ps qs HPL.out HQL.out
          have hyk : ((maxs ps qs).take k).length = k := by rw [List.length_take, ml]; omega
          have HT1 := Lib.hid (show (maxs ps qs).take (k + 1) = (maxs ps qs).take k ++ [max (ps.getD k 0) (qs.getD k 0)] by rw [take_succ _ k (by rw [ml]; exact hlt), maxs_at ps qs HPL.out HQL.out k hlt])
          have HT2 := Lib.hid (show List.replicate (k + 1) a0 = List.replicate k a0 ++ [a0] from List.replicate_succ')
          have HF1 := Lib.hid (show (arrC (fil ((maxs ps qs).take k))).setIfInBounds k (.int .i64 (max (ps.getD k 0) (qs.getD k 0))) = arrC (fil ((maxs ps qs).take (k + 1))) by
            have := fil_set ((maxs ps qs).take k) (max (ps.getD k 0) (qs.getD k 0)) (by omega)
            rw [hyk] at this
            rw [this, HT1.out])
          have HF2 := Lib.hid (show (arrC (fil (List.replicate k a0))).setIfInBounds k (.int .i64 a0) = arrC (fil (List.replicate (k + 1) a0)) by
            have := fil_set (List.replicate k a0) a0 (by simp; omega)
            rw [List.length_replicate] at this
            rw [this, HT2.out])
          have hs1 : k < (arrC (fil ((maxs ps qs).take k))).size := by rw [arrC_size, fil_len _ (by omega)]; exact hlt
          have hs2 : k < (arrC (fil (List.replicate k a0))).size := by rw [arrC_size, fil_len _ (by simp; omega)]; exact hlt
          obtain ⟨z1, hz1⟩ : ∃ z : Int, (arrC (fil ((maxs ps qs).take k)))[k]? = some (.int .i64 z) := ⟨_, arrC_at _ k (by rw [fil_len _ (by omega)]; omega)⟩
          obtain ⟨z2, hz2⟩ : ∃ z : Int, (arrC (fil (List.replicate k a0)))[k]? = some (.int .i64 z) := ⟨_, arrC_at _ k (by rw [fil_len _ (by simp; omega)]; omega)⟩
          have e1 := BH.out.cell k _ hz1
          have e2 := BS.out.cell k _ hz2
          have f1 := BH.out.free k
          have f2 := BS.out.free k
          clear hz1 hz2 ml hyk
          generalize ps.getD k 0 = x1 at *
          generalize qs.getD k 0 = x2 at *
          have j1 : (k : Int) < 16 := by omega
          have j0 : (0 : Int) ≤ (k : Int) := by omega
          have n1 : ¬ (w3.heap.size = w.heap.size + 1) := by omega
          have n2 : ¬ (w.heap.size + 1 = w3.heap.size) := by omega
          have n3 : ¬ (w3.heap.size = w.heap.size + 2) := by omega
          have n4 : ¬ (w.heap.size + 2 = w3.heap.size) := by omega
          go_wp2_with fail
          go_region_held3 (fun w' => w'.cell? ⟨w.heap.size + 1, k, none⟩ = some (.int .i64 x1) ∧ w'.cell? ⟨w.heap.size + 2, k, none⟩ = some (.int .i64 x2)) (first | exact ⟨by assumption, by assumption⟩ | exact ⟨keep1 (by assumption) (by simp; omega), keep1 (by assumption) (by simp; omega)⟩ | go_keep) (fail)
          all_goals
            go_wp2
            go_roundw
            case rel => exact ⟨k + 1, by omega, by go_num, by rw [← HF1.out]; exact (BH.out.set k _ hs1).far _ (by simp) _, by rw [← HF2.out]; exact (BS.out.far _ (by simp) _).set k _ hs2, below_set (below_set (HB.out.drew) _ (Nat.le_refl _) _) _ (by simp) _⟩
            case measure => simp [intOf]; omega
        · obtain rfl : k = 16 := by omega
          have HBW := Lib.hid (HB3.out.trans (HB.out.mono HB3.out.size))
          have eh : fil ((maxs ps qs).take 16) = maxs ps qs := by
            have ml := maxs_len ps qs HPL.out HQL.out
            rw [show (maxs ps qs).take 16 = maxs ps qs by rw [← ml, List.take_length], fil_all _ ml]
          have es : fil (List.replicate 16 a0) = List.replicate 16 a0 := fil_all _ (by simp)
          rw [eh] at BH
          rw [es] at BS
          clear eh es g0
          have HM1 := Lib.hid (fun W (hW : Below w.heap.size w W) => middle_any VA vn vc vs LA ln lc ls (maxs ps qs) (maxs_len ps qs HPL.out HQL.out) W (HVR.out.below hW) (HLR.out.below hW))
          have HM2 := Lib.hid (fun W (hW : Below w.heap.size w W) => middle_any VA vn vc vs LA ln lc ls ps HPL.out W (HVR.out.below hW) (HLR.out.below hW))
          have HM3 := Lib.hid (fun W (hW : Below w.heap.size w W) => middle_any VA vn vc vs LA ln lc ls (List.replicate 16 a0) (by simp) W (HVR.out.below hW) (HLR.out.below hW))
          have hle := rises_math (qs := qs) HG.out HPL.out HQL.out
          rw [same_math HG.out a0] at HM3
          unfold grpV at HM1 HM2 HM3
          have hin1 := arr_info (maxs ps qs) (maxs_len ps qs HPL.out HQL.out)
          have hin3 := arr_info (List.replicate 16 a0) (by simp)
          have HCC := Lib.hid (fun W (hW : Below wr.heap.size wr W) => show W.cell? ⟨w.heap.size, 0, none⟩ = some (.slice VA vn vc) ∧ W.cell? ⟨w.heap.size, 1, none⟩ = some (.slice LA ln lc) ∧ W.rangeAt w3.heap.size 0 (vI (maxs ps qs)) ∧ W.rangeAt (w.heap.size + 1) 0 (vI ps) ∧ W.rangeAt (w3.heap.size + 1) 0 (vI (List.replicate 16 a0)) ∧ W.cell? ⟨w.heap.size + 1, 0, none⟩ = some (.int .i64 a0) from
            ⟨(K4.out.below hW).cell 0 _ rfl, (K4.out.below hW).cell 1 _ rfl, blk_range (BH.out.below hW), blk_range (cs := vI ps) (by have := P4.out.below hW; rw [← HAP.out] at this; exact this), blk_range (BS.out.below hW), (P4.out.below hW).cell 0 (.int .i64 a0) (by rw [← HAP.out, ← HA0.out]; exact arrC_at ps 0 (by rw [HPL.out]; omega))⟩)
          unfold arrC at HM1 HM2 HM3
          generalize midG vs ls (maxs ps qs) = mh at *
          generalize midG vs ls ps = mp at *
          generalize vI (maxs ps qs) = vh at *
          generalize vI (List.replicate 16 a0) = vz at *
          generalize vI ps = vp at *
          have q1 : decide (mp ≤ mh) = true := by simpa using hle
          have q2 : (a0 == a0) = true := by simp
          have HAL := Lib.hid (Below.refl wr.heap.size wr)
          have HBT := Lib.hid (fun W (hW : Below wr.heap.size wr W) => HBW.out.trans (hW.mono HBW.out.size))
          obtain ⟨c0, c1, l1, l2, l3, g0⟩ := HCC.out _ HAL.out
          clear H0 S0 HBH
          go_wp2_with fail
          refine wp_region_held_drew (S := fun w' => w'.cell? ⟨w.heap.size, 0, none⟩ = some (.slice VA vn vc) ∧ w'.cell? ⟨w.heap.size, 1, none⟩ = some (.slice LA ln lc) ∧ w'.rangeAt w3.heap.size 0 vh ∧ w'.rangeAt (w.heap.size + 1) 0 vp ∧ w'.rangeAt (w3.heap.size + 1) 0 vz ∧ w'.cell? ⟨w.heap.size + 1, 0, none⟩ = some (.int .i64 a0)) (by kernel_rfl) ?_ (fun hHeld => ?_)
          · exact ⟨c0, c1, l1, l2, l3, g0⟩
          refine wpAnyH_take (i := 0) (v := .agg #[.slice VA vn vc, .slice LA ln lc]) rfl (by kernel_rfl) (by kernel_rfl) (by kernel_rfl) (fun _ _ _ h => h) (Or.inl ⟨by kernel_rfl, fun w hSw => by (try dsimp only at hSw); go_simp⟩) (by assumption) ?_
          try simp only [Act.put]
          refine wpAnyH_take (i := 1) (v := .agg (vh).toArray) rfl (by kernel_rfl) (by kernel_rfl) (by kernel_rfl) (fun _ _ _ h => h) (yieldsIf_load_mid (by kernel_rfl) _ _ rfl _ _ rfl _ _ (fun w hSw => hSw.2.2.1) hun rfl hin1) (by assumption) ?_
          try simp only [Act.put]
          refine wpAnyH_take (i := 3) (v := .agg #[.slice VA vn vc, .slice LA ln lc]) rfl (by kernel_rfl) (by kernel_rfl) (by kernel_rfl) (fun _ _ _ h => h) (Or.inl ⟨by kernel_rfl, fun w hSw => by (try dsimp only at hSw); go_simp⟩) (by assumption) ?_
          try simp only [Act.put]
          refine wpAnyH_take (i := 4) (v := .agg (vp).toArray) rfl (by kernel_rfl) (by kernel_rfl) (by kernel_rfl) (fun _ _ _ h => h) (yieldsIf_load_mid (by kernel_rfl) _ _ rfl _ _ rfl _ _ (fun w hSw => hSw.2.2.2.1) hun rfl hin) (by assumption) ?_
          try simp only [Act.put]
          refine wpAnyH_ready (rs := [2]) (by kernel_rfl) (by simp) ?_
          refine AllReadyH.cons rfl (fun K hK => ?_) AllReadyH.nil
          go_simp
          go_at_call 20
          refine (HM1.out _ (HBT.out _ (by first | exact HAL.out | exact HAL.out.drew))).mono ?_
          rintro e z ⟨rfl, hb1⟩
          clear c0 c1 l1 l2 l3 g0
          have HAL := Lib.hid ((show Below wr.heap.size wr _ from by first | exact HAL.out | exact HAL.out.drew).trans (hb1.mono (by exact HAL.out.size)))
          obtain ⟨c0, c1, l1, l2, l3, g0⟩ := HCC.out _ HAL.out
          clear hb1
          try go_wp2_with fail
          refine hK.out _ _ ⟨c0, c1, l1, l2, l3, g0⟩ (fun hHeld => ?_)
          clear hK K
          try simp only [Act.put]
          refine wpAnyH_ready (rs := [5]) (by kernel_rfl) (by simp) ?_
          refine AllReadyH.cons rfl (fun K hK => ?_) AllReadyH.nil
          go_simp
          go_at_call 20
          refine (HM2.out _ (HBT.out _ (by first | exact HAL.out | exact HAL.out.drew))).mono ?_
          rintro e z ⟨rfl, hb1⟩
          clear c0 c1 l1 l2 l3 g0
          have HAL := Lib.hid ((show Below wr.heap.size wr _ from by first | exact HAL.out | exact HAL.out.drew).trans (hb1.mono (by exact HAL.out.size)))
          obtain ⟨c0, c1, l1, l2, l3, g0⟩ := HCC.out _ HAL.out
          clear hb1
          try go_wp2_with fail
          refine hK.out _ _ ⟨c0, c1, l1, l2, l3, g0⟩ (fun hHeld => ?_)
          clear hK K
          try simp only [Act.put]
          refine wpAnyH_take (i := 6) (v := .bool true) rfl (by kernel_rfl) (by kernel_rfl) (by kernel_rfl) (fun _ _ _ h => h) (Or.inl ⟨by kernel_rfl, fun w hSw => by (try dsimp only at hSw); go_simp⟩) (by assumption) ?_
          refine wpAnyH_take (i := 7) (v := .bool true) rfl (by kernel_rfl) (by kernel_rfl) (by kernel_rfl) (fun _ _ _ h => h) (Or.inl ⟨by kernel_rfl, fun w hSw => by (try dsimp only at hSw); go_simp⟩) (by assumption) ?_
          refine wpAnyH_take (i := 8) (v := .agg #[.slice VA vn vc, .slice LA ln lc]) rfl (by kernel_rfl) (by kernel_rfl) (by kernel_rfl) (fun _ _ _ h => h) (Or.inl ⟨by kernel_rfl, fun w hSw => by (try dsimp only at hSw); go_simp⟩) (by assumption) ?_
          try simp only [Act.put]
          refine wpAnyH_take (i := 9) (v := .agg (vz).toArray) rfl (by kernel_rfl) (by kernel_rfl) (by kernel_rfl) (fun _ _ _ h => h) (yieldsIf_load_mid (by kernel_rfl) _ _ rfl _ _ rfl _ _ (fun w hSw => hSw.2.2.2.2.1) hun rfl hin3) (by assumption) ?_
          try simp only [Act.put]
          refine wpAnyH_take (i := 11) (v := .pointer (some ⟨w.heap.size + 1, 0, none⟩)) rfl (by kernel_rfl) (by kernel_rfl) (by kernel_rfl) (fun _ _ _ h => h) (Or.inl ⟨by kernel_rfl, fun w hSw => by (try dsimp only at hSw); go_simp⟩) (by assumption) ?_
          refine wpAnyH_take (i := 12) (v := .int .i64 a0) rfl (by kernel_rfl) (by kernel_rfl) (by kernel_rfl) (fun _ _ _ h => h) (Or.inl ⟨by kernel_rfl, fun w hSw => by (try dsimp only at hSw); go_simp⟩) (by assumption) ?_
          refine wpAnyH_ready (rs := [10]) (by kernel_rfl) (by simp) ?_
          refine AllReadyH.cons rfl (fun K hK => ?_) AllReadyH.nil
          go_simp
          go_at_call 20
          refine (HM3.out _ (HBT.out _ (by first | exact HAL.out | exact HAL.out.drew))).mono ?_
          rintro e z ⟨rfl, hb1⟩
          clear c0 c1 l1 l2 l3 g0
          have HAL := Lib.hid ((show Below wr.heap.size wr _ from by first | exact HAL.out | exact HAL.out.drew).trans (hb1.mono (by exact HAL.out.size)))
          obtain ⟨c0, c1, l1, l2, l3, g0⟩ := HCC.out _ HAL.out
          clear hb1
          try go_wp2_with fail
          refine hK.out _ _ ⟨c0, c1, l1, l2, l3, g0⟩ (fun hHeld => ?_)
          clear hK K
          try simp only [Act.put]
          refine wpAnyH_take (i := 13) (v := .bool true) rfl (by kernel_rfl) (by kernel_rfl) (by kernel_rfl) (fun _ _ _ h => h) (Or.inl ⟨by kernel_rfl, fun w hSw => by (try dsimp only at hSw); go_simp⟩) (by assumption) ?_
          refine wpAnyH_take (i := 14) (v := .bool true) rfl (by kernel_rfl) (by kernel_rfl) (by kernel_rfl) (fun _ _ _ h => h) (Or.inl ⟨by kernel_rfl, fun w hSw => by (try dsimp only at hSw); go_simp⟩) (by assumption) ?_
          refine wpAnyH_take (i := 15) (v := .bool true) rfl (by kernel_rfl) (by kernel_rfl) (by kernel_rfl) (fun _ _ _ h => h) (Or.inl ⟨by kernel_rfl, fun w hSw => by (try dsimp only at hSw); go_simp⟩) (by assumption) ?_
          refine wpAnyH_done (by kernel_rfl) ?_ _
          go_simp
          go_wp2
          go_ret
          exact ⟨rfl, HBT.out _ (by first | exact HAL.out | exact HAL.out.drew)⟩
end Go.Proofs.Ytcnligkndficoaa.Qu
