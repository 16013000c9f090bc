/-
  Layer 9, that the law QuorumCounts answers true. Conditions: the lists can be read.
-/
import Derived.Test.YtcnligkndficoaaQuLn
import Derived.Test.YtcnligkndficoaaQuV2
import Derived.Test.YtcnligkndficoaaQuW3
import Derived.Deep.RegionHeld3
import Derived.Deep.RegionWith
namespace Go.Proofs.Ytcnligkndficoaa.Qu
open Go.RowKit Go.Proofs.Ytcnligkndficoaa.Fld
set_option linter.unusedVariables false

set_option maxRecDepth 100000 in
set_option maxHeartbeats 6400000 in
theorem counts_walk (VA : Option Addr) (vn vc : Nat) (vs : List Int) (LA : Option Addr) (ln lc : Nat) (ls : List Int) (SA : Option Addr) (sn sc : Nat) (sl : List Int) (w : World) (hv : RdI w VA vn vs) (hl : RdI w LA ln ls) (hs : RdI w SA sn sl) :
    Calls Try.prog 3 #[grpV VA vn vc LA ln lc, .slice SA sn sc] w fun e w' => e = .returned (.bool true) ∧ Below w.heap.size w w' := by
  have hb := alloc_below w (.cells #[.slice VA vn vc, .slice LA ln lc] 24)
  have HB := Lib.hid hb
  have HK := Lib.hid (Blk.new w #[.slice VA vn vc, .slice LA ln lc] 24)
  have HAW := Lib.hid (awake_any (w.alloc (.cells #[.slice VA vn vc, .slice LA ln lc] 24)))
  have HVR := Lib.hid hv
  have HLR := Lib.hid hl
  have HSR := Lib.hid hs
  have hm1 := hv.2.1
  have hm2 := hl.2.1
  unfold maxLen at hm1 hm2
  clear hv hl hs hb
  unfold grpV
  go_enter Try.func3, Try.ntmps3
  go_wp2_with fail
  refine HAW.out.mono ?_
  rintro e w1 ⟨rfl, hb⟩
  have HB1 := Lib.hid (HB.out.trans (hb.mono HB.out.size))
  have K1 := Lib.hid (HK.out.below hb)
  clear hb HAW
  have c0 := K1.out.cell 0 (.slice VA vn vc) rfl
  have c1 := K1.out.cell 1 (.slice LA ln lc) rfl
  have HFW := Lib.hid (few_any VA vn vc vs LA ln lc ls (some ⟨w1.heap.size, 0, none⟩) 1 1 [sn] _ (lens_one w1 SA sn sc 22) (by omega) (by omega))
  have HBF := Lib.hid (alloc_below w1 (.cells #[.slice SA sn sc] 22))
  unfold grpV at HFW
  go_wp2_with fail
  refine HFW.out.mono ?_
  rintro e w2 ⟨rfl, hb⟩
  have HBW := Lib.hid (HBF.out.trans (hb.mono HBF.out.size))
  have HB2 := Lib.hid (HB1.out.trans (HBW.out.mono HB1.out.size))
  have K2 := Lib.hid (K1.out.below HBW.out)
  clear hb c0 c1 HFW HBF
  have c0 := K2.out.cell 0 (.slice VA vn vc) rfl
  have c1 := K2.out.cell 1 (.slice LA ln lc) rfl
  cases hf : fewG vn ln [sn] with
  | false =>
    go_wp2
    go_ret
    exact ⟨rfl, HB2.out⟩
  | true =>
    clear hf
    have HAL := Lib.hid (Below.refl w2.heap.size w2)
    have HCC := Lib.hid (fun W (hW : Below w2.heap.size w2 W) => And.intro ((K2.out.below hW).cell 0 (.slice VA vn vc) rfl) ((K2.out.below hW).cell 1 (.slice LA ln lc) rfl))
    have HBT := Lib.hid (fun W (hW : Below w2.heap.size w2 W) => HB2.out.trans (hW.mono HB2.out.size))
    have H1 := Lib.hid (fun W (hW : Below w.heap.size w W) => right_any VA vn vc vs LA ln lc ls W (HVR.out.below hW) (HLR.out.below hW))
    have H2 := Lib.hid (fun W (hW : Below w.heap.size w W) => rightGroup_any VA vn vc vs LA ln lc ls W (HVR.out.below hW) (HLR.out.below hW))
    have H3 := Lib.hid (fun W (hW : Below w.heap.size w W) => need_any VA vn vc vs LA ln lc ls W (HVR.out.below hW) (HLR.out.below hW))
    have H4 := Lib.hid (fun W (hW : Below w.heap.size w W) => refneed_any VA vn vc vs LA ln lc ls W (HVR.out.below hW) (HLR.out.below hW))
    have H5 := Lib.hid (fun W (hW : Below w.heap.size w W) => wins_any VA vn vc vs LA ln lc ls SA sn sc sl W (HVR.out.below hW) (HLR.out.below hW) (HSR.out.below hW))
    have H6 := Lib.hid (fun W (hW : Below w.heap.size w W) => refwins_any VA vn vc vs LA ln lc ls SA sn sc sl W (HVR.out.below hW) (HLR.out.below hW) (HSR.out.below hW))
    have H7 := Lib.hid (fun W (hW : Below w.heap.size w W) => lost_any VA vn vc vs LA ln lc ls SA sn sc sl W (HVR.out.below hW) (HLR.out.below hW) (HSR.out.below hW))
    have H8 := Lib.hid (fun W (hW : Below w.heap.size w W) => reflost_any VA vn vc vs LA ln lc ls SA sn sc sl W (HVR.out.below hW) (HLR.out.below hW) (HSR.out.below hW))
    unfold grpV at H1 H2 H3 H4 H5 H6 H7 H8
    generalize (if grpOk vs ls = true then ((vn / 2 + 1 : Nat) : Int) else 0) = N at *
    generalize winsG vs ls sl = bw at *
    generalize lostG vs ls sl = bl at *
    generalize grpOk vs ls = br at *
    have q1 : (br == br) = true := by simp
    have q2 : (N == N) = true := by simp
    have q3 : (bw == bw) = true := by simp
    have q4 : (bl == bl) = true := by simp
    go_wp2_with fail
    go_region_held3 (fun w' => w'.cell? ⟨w.heap.size, 0, none⟩ = some (.slice VA vn vc) ∧ w'.cell? ⟨w.heap.size, 1, none⟩ = some (.slice LA ln lc)) (first | exact ⟨by assumption, by assumption⟩ | go_keep) (first
      | (go_at_call 12; refine (H1.out _ (HBT.out _ (by first | exact HAL.out | exact HAL.out.drew))).mono ?_; rintro e z ⟨rfl, hb1⟩; clear c0 c1; have HAL := Lib.hid ((show Below w2.heap.size w2 _ from by first | exact HAL.out | exact HAL.out.drew).trans (hb1.mono (by exact HAL.out.size))); obtain ⟨c0, c1⟩ := HCC.out _ HAL.out; clear hb1)
      | (go_at_call 13; refine (H2.out _ (HBT.out _ (by first | exact HAL.out | exact HAL.out.drew))).mono ?_; rintro e z ⟨rfl, hb1⟩; clear c0 c1; have HAL := Lib.hid ((show Below w2.heap.size w2 _ from by first | exact HAL.out | exact HAL.out.drew).trans (hb1.mono (by exact HAL.out.size))); obtain ⟨c0, c1⟩ := HCC.out _ HAL.out; clear hb1)
      | (go_at_call 14; refine (H3.out _ (HBT.out _ (by first | exact HAL.out | exact HAL.out.drew))).mono ?_; rintro e z ⟨rfl, hb1⟩; clear c0 c1; have HAL := Lib.hid ((show Below w2.heap.size w2 _ from by first | exact HAL.out | exact HAL.out.drew).trans (hb1.mono (by exact HAL.out.size))); obtain ⟨c0, c1⟩ := HCC.out _ HAL.out; clear hb1)
      | (go_at_call 15; refine (H4.out _ (HBT.out _ (by first | exact HAL.out | exact HAL.out.drew))).mono ?_; rintro e z ⟨rfl, hb1⟩; clear c0 c1; have HAL := Lib.hid ((show Below w2.heap.size w2 _ from by first | exact HAL.out | exact HAL.out.drew).trans (hb1.mono (by exact HAL.out.size))); obtain ⟨c0, c1⟩ := HCC.out _ HAL.out; clear hb1)
      | (go_at_call 16; refine (H5.out _ (HBT.out _ (by first | exact HAL.out | exact HAL.out.drew))).mono ?_; rintro e z ⟨rfl, hb1⟩; clear c0 c1; have HAL := Lib.hid ((show Below w2.heap.size w2 _ from by first | exact HAL.out | exact HAL.out.drew).trans (hb1.mono (by exact HAL.out.size))); obtain ⟨c0, c1⟩ := HCC.out _ HAL.out; clear hb1)
      | (go_at_call 17; refine (H6.out _ (HBT.out _ (by first | exact HAL.out | exact HAL.out.drew))).mono ?_; rintro e z ⟨rfl, hb1⟩; clear c0 c1; have HAL := Lib.hid ((show Below w2.heap.size w2 _ from by first | exact HAL.out | exact HAL.out.drew).trans (hb1.mono (by exact HAL.out.size))); obtain ⟨c0, c1⟩ := HCC.out _ HAL.out; clear hb1)
      | (go_at_call 18; refine (H7.out _ (HBT.out _ (by first | exact HAL.out | exact HAL.out.drew))).mono ?_; rintro e z ⟨rfl, hb1⟩; clear c0 c1; have HAL := Lib.hid ((show Below w2.heap.size w2 _ from by first | exact HAL.out | exact HAL.out.drew).trans (hb1.mono (by exact HAL.out.size))); obtain ⟨c0, c1⟩ := HCC.out _ HAL.out; clear hb1)
      | (go_at_call 19; refine (H8.out _ (HBT.out _ (by first | exact HAL.out | exact HAL.out.drew))).mono ?_; rintro e z ⟨rfl, hb1⟩; clear c0 c1; have HAL := Lib.hid ((show Below w2.heap.size w2 _ from by first | exact HAL.out | exact HAL.out.drew).trans (hb1.mono (by exact HAL.out.size))); obtain ⟨c0, c1⟩ := HCC.out _ HAL.out; clear hb1))
    all_goals
      go_wp2
      go_ret
      exact ⟨rfl, HBT.out _ (by first | exact HAL.out | exact HAL.out.drew)⟩
end Go.Proofs.Ytcnligkndficoaa.Qu
