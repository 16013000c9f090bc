/-
  Layer 9, that the law QuorumMiddles answers true. Conditions: the lists can be read.
-/
import Derived.Test.YtcnligkndficoaaQuLn
import Derived.Test.YtcnligkndficoaaQuM
import Derived.Test.YtcnligkndficoaaQuN
import Derived.Deep.RegionHeld3
import Derived.Deep.MidRow
import Derived.Deep.RegionWith
namespace Go.Proofs.Ytcnligkndficoaa.Qu
open Go.RowKit Go.Proofs.Ytcnligkndficoaa.Fld
set_option linter.unusedVariables false

theorem blk_range {W : World} {g : Nat} {cs : List Value} {ty : TypeId} (h : Blk W g cs.toArray ty) : W.rangeAt g 0 cs := by
  intro j v hv
  rw [Nat.zero_add]
  exact h.cell j v (by rw [List.getElem?_toArray]; exact hv)
theorem arr_info (ps : List Int) (hp : ps.length = 16) : (Try.prog.info? 30).map (·.size) = some (vI ps).length := by
  rw [vI_len, hp]
  kernel_rfl
set_option maxRecDepth 100000 in
set_option maxHeartbeats 6400000 in
theorem middles_walk (VA : Option Addr) (vn vc : Nat) (vs : List Int) (LA : Option Addr) (ln lc : Nat) (ls : List Int) (ps : List Int) (hp : ps.length = 16) (w : World) (hv : RdI w VA vn vs) (hl : RdI w LA ln ls) :
    Calls Try.prog 4 #[grpV VA vn vc LA ln lc, .agg (arrC ps)] w fun e w' => e = .returned (.bool true) ∧ Below w.heap.size w w' := by
  have hb0 := alloc_below w (.cells #[.slice VA vn vc, .slice LA ln lc] 24)
  have hb1 : Below w.heap.size w ((w.alloc (.cells #[.slice VA vn vc, .slice LA ln lc] 24)).alloc (.cells (arrC ps) 30)) := hb0.trans ((alloc_below _ _).mono hb0.size)
  have HB := Lib.hid hb1
  have HK := Lib.hid ((Blk.new w #[.slice VA vn vc, .slice LA ln lc] 24).past (.cells (arrC ps) 30))
  have hq := Blk.new (w.alloc (.cells #[.slice VA vn vc, .slice LA ln lc] 24)) (arrC ps) 30
  rw [show (w.alloc (.cells #[.slice VA vn vc, .slice LA ln lc] 24)).heap.size = w.heap.size + 1 by simp] at hq
  have HQ := Lib.hid hq
  have HAW := Lib.hid (awake_any ((w.alloc (.cells #[.slice VA vn vc, .slice LA ln lc] 24)).alloc (.cells (arrC ps) 30)))
  have HVR := Lib.hid hv
  have HLR := Lib.hid hl
  have hm1 := hv.2.1
  have hm2 := hl.2.1
  unfold maxLen at hm1 hm2
  have hin := arr_info ps hp
  have hun := Try.underlying30
  have HM1 := Lib.hid (fun W (hW : Below w.heap.size w W) => middle_any VA vn vc vs LA ln lc ls ps hp W (hv.below hW) (hl.below hW))
  have HM2 := Lib.hid (fun W (hW : Below w.heap.size w W) => refmiddle_any VA vn vc vs LA ln lc ls ps hp W (hv.below hW) (hl.below hW))
  unfold grpV at HM1 HM2 ⊢
  clear hv hl hb0 hb1 hq hp
  generalize midG vs ls ps = mm at *
  unfold arrC at HB HK HQ HAW HM1 HM2 ⊢
  generalize vI ps = ar at *
  go_enter Try.func4, Try.ntmps4
  go_wp2_with fail
  refine HAW.out.mono ?_
  rintro e w1 ⟨rfl, hb⟩
  have HB1 := Lib.hid (HB.out.trans (hb.mono HB.out.size))
  have K1 := Lib.hid (HK.out.below hb)
  have Q1 := Lib.hid (HQ.out.below hb)
  clear hb HAW HK HQ HB
  have c0 := K1.out.cell 0 (.slice VA vn vc) rfl
  have c1 := K1.out.cell 1 (.slice LA ln lc) rfl
  have HFW := Lib.hid (few_any VA vn vc vs LA ln lc ls none 0 0 [] w1 (lens_none w1) (by omega) (by omega))
  unfold grpV at HFW
  go_wp2_with fail
  refine HFW.out.mono ?_
  rintro e w2 ⟨rfl, hb⟩
  have HB2 := Lib.hid (HB1.out.trans (hb.mono HB1.out.size))
  have K2 := Lib.hid (K1.out.below hb)
  have Q2 := Lib.hid (Q1.out.below hb)
  clear hb c0 c1 HFW K1 Q1 HB1
  have c0 := K2.out.cell 0 (.slice VA vn vc) rfl
  have c1 := K2.out.cell 1 (.slice LA ln lc) rfl
  have l0 := blk_range Q2.out
  cases hf : fewG vn ln [] with
  | false =>
    go_wp2
    go_ret
    exact ⟨rfl, HB2.out⟩
  | true =>
    clear hf
    have HAL := Lib.hid (Below.refl w2.heap.size w2)
    have HCC := Lib.hid (fun W (hW : Below w2.heap.size w2 W) => And.intro ((K2.out.below hW).cell 0 (.slice VA vn vc) rfl) (And.intro ((K2.out.below hW).cell 1 (.slice LA ln lc) rfl) (blk_range (Q2.out.below hW))))
    have HBT := Lib.hid (fun W (hW : Below w2.heap.size w2 W) => HB2.out.trans (hW.mono HB2.out.size))
    have q1 : (mm == mm) = true := by simp
    have HQZ := Lib.hid Q2.out
    go_wp2_with fail
    refine wp_region_held_drew (S := fun w' => w'.cell? ⟨w.heap.size, 0, none⟩ = some (.slice VA vn vc) ∧ w'.cell? ⟨w.heap.size, 1, none⟩ = some (.slice LA ln lc) ∧ w'.rangeAt (w.heap.size + 1) 0 ar) (by kernel_rfl) ?_ (fun hHeld => ?_)
    · exact ⟨c0, c1, l0⟩
    refine wpAnyH_take (i := 0) (v := .agg #[.slice VA vn vc, .slice LA ln lc]) rfl (by kernel_rfl) (by kernel_rfl) (by kernel_rfl) (fun _ _ _ h => h) (Or.inl ⟨by rfl, fun w hSw => by (try dsimp only at hSw); go_simp⟩) (by assumption) ?_
    try simp only [Act.put]
    refine wpAnyH_take (i := 1) (v := .agg ar.toArray) rfl (by kernel_rfl) (by kernel_rfl) (by kernel_rfl) (fun _ _ _ h => h) (yieldsIf_load_mid (by rfl) _ _ rfl _ _ rfl _ _ (fun w hSw => hSw.2.2) hun rfl hin) (by assumption) ?_
    try simp only [Act.put]
    refine wpAnyH_take (i := 3) (v := .agg #[.slice VA vn vc, .slice LA ln lc]) rfl (by kernel_rfl) (by kernel_rfl) (by kernel_rfl) (fun _ _ _ h => h) (Or.inl ⟨by rfl, fun w hSw => by (try dsimp only at hSw); go_simp⟩) (by assumption) ?_
    try simp only [Act.put]
    refine wpAnyH_take (i := 4) (v := .agg ar.toArray) rfl (by kernel_rfl) (by kernel_rfl) (by kernel_rfl) (fun _ _ _ h => h) (yieldsIf_load_mid (by rfl) _ _ rfl _ _ rfl _ _ (fun w hSw => hSw.2.2) hun rfl hin) (by assumption) ?_
    try simp only [Act.put]
    refine wpAnyH_ready (rs := [2]) (by kernel_rfl) (by simp) ?_
    refine AllReadyH.cons rfl (fun K hK => ?_) AllReadyH.nil
    go_simp
    go_at_call 20
    refine (HM1.out _ (HBT.out _ (by first | exact HAL.out | exact HAL.out.drew))).mono ?_
    rintro e z ⟨rfl, hb1⟩
    clear c0 c1 l0
    have HAL := Lib.hid ((show Below w2.heap.size w2 _ from by first | exact HAL.out | exact HAL.out.drew).trans (hb1.mono (by exact HAL.out.size)))
    obtain ⟨c0, c1, l0⟩ := HCC.out _ HAL.out
    clear hb1
    try go_wp2_with fail
    refine hK.out _ _ ⟨c0, c1, l0⟩ (fun hHeld => ?_)
    clear hK K
    try simp only [Act.put]
    refine wpAnyH_ready (rs := [5]) (by kernel_rfl) (by simp) ?_
    refine AllReadyH.cons rfl (fun K hK => ?_) AllReadyH.nil
    go_simp
    go_at_call 21
    refine (HM2.out _ (HBT.out _ (by first | exact HAL.out | exact HAL.out.drew))).mono ?_
    rintro e z ⟨rfl, hb1⟩
    clear c0 c1 l0
    have HAL := Lib.hid ((show Below w2.heap.size w2 _ from by first | exact HAL.out | exact HAL.out.drew).trans (hb1.mono (by exact HAL.out.size)))
    obtain ⟨c0, c1, l0⟩ := HCC.out _ HAL.out
    clear hb1
    try go_wp2_with fail
    refine hK.out _ _ ⟨c0, c1, l0⟩ (fun hHeld => ?_)
    clear hK K
    try simp only [Act.put]
    refine wpAnyH_take (i := 6) (v := .bool true) rfl (by kernel_rfl) (by kernel_rfl) (by kernel_rfl) (fun _ _ _ h => h) (Or.inl ⟨by rfl, fun w hSw => by go_simp⟩) (by assumption) ?_
    refine wpAnyH_take (i := 7) (v := .bool true) rfl (by kernel_rfl) (by kernel_rfl) (by kernel_rfl) (fun _ _ _ h => h) (Or.inl ⟨by rfl, fun w hSw => by go_simp⟩) (by assumption) ?_
    refine wpAnyH_done (by kernel_rfl) ?_ _
    go_simp
    go_wp2
    go_ret
    exact ⟨rfl, HBT.out _ (by first | exact HAL.out | exact HAL.out.drew)⟩
end Go.Proofs.Ytcnligkndficoaa.Qu
