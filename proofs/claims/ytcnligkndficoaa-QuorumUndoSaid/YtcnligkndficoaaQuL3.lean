/-
  Layer 9, that the law QuorumUndo answers true. Conditions: the lists can be read.
-/
import Derived.Test.YtcnligkndficoaaQuLn
import Derived.Test.YtcnligkndficoaaQuLm
import Derived.Test.YtcnligkndficoaaQuL2
import Derived.Deep.RegionHeld3
import Derived.Deep.RegionWith
namespace Go.Proofs.Ytcnligkndficoaa.Qu
open Go.RowKit Go.Proofs.Ytcnligkndficoaa.Fld
set_option linter.unusedVariables false

set_option maxRecDepth 100000 in
set_option maxHeartbeats 6400000 in
theorem undo_walk (VA : Option Addr) (vn vc : Nat) (vs : List Int) (LA : Option Addr) (ln lc : Nat) (ls : List Int) (x : Int) (w : World) (hv : RdI w VA vn vs) (hl : RdI w LA ln ls) :
    Calls Try.prog 8 #[grpV VA vn vc LA ln lc, .int .i64 x] w fun e w' => e = .returned (.bool true) ∧ Below w.heap.size w w' := by
  have hb := alloc_below w (.cells #[.slice VA vn vc, .slice LA ln lc] 24)
  have HB := Lib.hid hb
  have HK := Lib.hid (Blk.new w #[.slice VA vn vc, .slice LA ln lc] 24)
  have HAW := Lib.hid (awake_any (w.alloc (.cells #[.slice VA vn vc, .slice LA ln lc] 24)))
  have HVR := Lib.hid hv
  have HLR := Lib.hid hl
  have hm1 := hv.2.1
  have hm2 := hl.2.1
  have HVN := Lib.hid (And.intro hv.1 hl.1)
  unfold maxLen at hm1 hm2
  clear hv hl hb
  unfold grpV
  go_enter Try.func8, Try.ntmps8
  go_wp2_with fail
  refine HAW.out.mono ?_
  rintro e w1 ⟨rfl, hb⟩
  have HB1 := Lib.hid (HB.out.trans (hb.mono HB.out.size))
  have K1 := Lib.hid (HK.out.below hb)
  clear hb HAW
  have c0 := K1.out.cell 0 (.slice VA vn vc) rfl
  have c1 := K1.out.cell 1 (.slice LA ln lc) rfl
  have HFW := Lib.hid (few_any VA vn vc vs LA ln lc ls none 0 0 [] w1 (lens_none w1) (by omega) (by omega))
  unfold grpV at HFW
  go_wp2_with fail
  refine HFW.out.mono ?_
  rintro e w2 ⟨rfl, hb⟩
  have HB2 := Lib.hid (HB1.out.trans (hb.mono HB1.out.size))
  have K2 := Lib.hid (K1.out.below hb)
  clear hb c0 c1 HFW
  have c0 := K2.out.cell 0 (.slice VA vn vc) rfl
  have c1 := K2.out.cell 1 (.slice LA ln lc) rfl
  cases hf : fewG vn ln [] with
  | false =>
    go_wp2
    go_ret
    exact ⟨rfl, HB2.out⟩
  | true =>
    clear hf
    have HC1 := Lib.hid (change_any VA vn vc vs LA ln lc ls 1 x w2 (HVR.out.below HB2.out) (HLR.out.below HB2.out))
    unfold grpV at HC1
    obtain ⟨r, hr⟩ : ∃ r, chG vs ls 1 x = r := ⟨_, rfl⟩
    obtain ⟨v1, l1, er⟩ := r
    rw [hr] at HC1
    have hcode := chG_code hr
    have HR := Lib.hid hr
    clear hr
    go_wp2_with fail
    refine HC1.out.mono ?_
    rintro e w3 ⟨A1, d1, A2, d2, rfl, h1, h2, hb⟩
    simp only at h1 h2
    have HX := Lib.hid (And.intro h1 h2)
    have HB3 := Lib.hid (HB2.out.trans (hb.mono HB2.out.size))
    have K3 := Lib.hid (K2.out.below hb)
    clear hb h1 h2 HC1 c0 c1
    have HP3 := Lib.hid (alloc_below w3 (.cells #[.slice A1 v1.length d1, .slice A2 l1.length d2] 24))
    have HB4 := Lib.hid (HB3.out.trans (HP3.out.mono HB3.out.size))
    have K4 := Lib.hid (K3.out.below HP3.out)
    have M4 := Lib.hid (Blk.new w3 #[.slice A1 v1.length d1, .slice A2 l1.length d2] 24)
    have HX4 := Lib.hid (And.intro (HX.out.1.below HP3.out) (HX.out.2.below HP3.out))
    obtain ⟨n1, hn1⟩ : ∃ n, v1.length = n := ⟨_, rfl⟩
    obtain ⟨n2, hn2⟩ : ∃ n, l1.length = n := ⟨_, rfl⟩
    rw [hn1, hn2] at M4 HX4 HP3 HB4 K4
    simp only [hn1, hn2]
    clear hn1 hn2
    have c0 := K4.out.cell 0 (.slice VA vn vc) rfl
    have c1 := K4.out.cell 1 (.slice LA ln lc) rfl
    by_cases h0 : er = 0
    · subst h0
      obtain ⟨rfl, u1, u2, u3⟩ := undo_math HR.out
      obtain ⟨v2, hv2⟩ : ∃ v2, insN v1 x = v2 := ⟨_, rfl⟩
      rw [hv2] at u2 u3
      clear hv2 hcode
      have k0 := M4.out.cell 0 (.slice A1 n1 d1) rfl
      have k1 := M4.out.cell 1 (.slice A2 n2 d2) rfl
      have HC := Lib.hid (change_any A1 n1 d1 v1 A2 n2 d2 l1 3 x _ HX4.out.1 HX4.out.2)
      rw [u1] at HC
      unfold grpV at HC
      go_wp2_with fail
      refine HC.out.mono ?_
      rintro e w5 ⟨B1, b1, B2, b2, rfl, h1, h2, hb⟩
      simp only [HVN.out.1, HVN.out.2] at h1 h2
      simp only [HVN.out.1, HVN.out.2]
      have HP5 := Lib.hid (alloc_below w5 (.cells #[.slice B1 vn b1, .slice B2 ln b2] 24))
      have HY := Lib.hid (And.intro (h1.below HP5.out) (h2.below HP5.out))
      have HX6 := Lib.hid (And.intro ((HX4.out.1.below hb).below HP5.out) ((HX4.out.2.below hb).below HP5.out))
      have HB6 := Lib.hid ((HB4.out.trans (hb.mono HB4.out.size)).trans (HP5.out.mono (HB4.out.trans (hb.mono HB4.out.size)).size))
      have K6 := Lib.hid ((K4.out.below hb).below HP5.out)
      have M6 := Lib.hid ((M4.out.below hb).below HP5.out)
      have L6 := Lib.hid (Blk.new w5 #[.slice B1 vn b1, .slice B2 ln b2] 24)
      clear hb h1 h2 HC c0 c1 k0 k1 HP5 HX4 M4 K4
      have k0 := M6.out.cell 0 (.slice A1 n1 d1) rfl
      have k1 := M6.out.cell 1 (.slice A2 n2 d2) rfl
      have HC := Lib.hid (change_any A1 n1 d1 v1 A2 n2 d2 l1 2 x _ HX6.out.1 HX6.out.2)
      rw [u2] at HC
      unfold grpV at HC
      go_wp2_with fail
      refine HC.out.mono ?_
      rintro e w7 ⟨D1, e1, D2, e2, rfl, h1, h2, hb⟩
      obtain ⟨n3, hn3⟩ : ∃ n, v2.length = n := ⟨_, rfl⟩
      simp only [HVN.out.2, hn3] at h1 h2
      simp only [HVN.out.2, hn3]
      clear hn3
      have HP7 := Lib.hid (alloc_below w7 (.cells #[.slice D1 n3 e1, .slice D2 ln e2] 24))
      have HZ := Lib.hid (And.intro (h1.below HP7.out) (h2.below HP7.out))
      have HY8 := Lib.hid (And.intro ((HY.out.1.below hb).below HP7.out) ((HY.out.2.below hb).below HP7.out))
      have HB8 := Lib.hid ((HB6.out.trans (hb.mono HB6.out.size)).trans (HP7.out.mono (HB6.out.trans (hb.mono HB6.out.size)).size))
      have K8 := Lib.hid ((K6.out.below hb).below HP7.out)
      have L8 := Lib.hid ((L6.out.below hb).below HP7.out)
      have N8 := Lib.hid (Blk.new w7 #[.slice D1 n3 e1, .slice D2 ln e2] 24)
      clear hb h1 h2 HC k0 k1 HP7 HX6 M6 K6 HY L6
      have k0 := N8.out.cell 0 (.slice D1 n3 e1) rfl
      have k1 := N8.out.cell 1 (.slice D2 ln e2) rfl
      have HC := Lib.hid (change_any D1 n3 e1 v2 D2 ln e2 ls 3 x _ HZ.out.1 HZ.out.2)
      rw [u3] at HC
      unfold grpV at HC
      go_wp2_with fail
      refine HC.out.mono ?_
      rintro e w9 ⟨E1, g1, E2, g2, rfl, h1, h2, hb⟩
      simp only [HVN.out.1, HVN.out.2] at h1 h2
      simp only [HVN.out.1, HVN.out.2]
      have HP9 := Lib.hid (alloc_below w9 (.cells #[.slice E1 vn g1, .slice E2 ln g2] 24))
      have HU := Lib.hid (And.intro (h1.below HP9.out) (h2.below HP9.out))
      have HYA := Lib.hid (And.intro ((HY8.out.1.below hb).below HP9.out) ((HY8.out.2.below hb).below HP9.out))
      have HBA := Lib.hid ((HB8.out.trans (hb.mono HB8.out.size)).trans (HP9.out.mono (HB8.out.trans (hb.mono HB8.out.size)).size))
      have KA := Lib.hid ((K8.out.below hb).below HP9.out)
      have LA1 := Lib.hid ((L8.out.below hb).below HP9.out)
      have QA := Lib.hid (Blk.new w9 #[.slice E1 vn g1, .slice E2 ln g2] 24)
      clear hb h1 h2 HC k0 k1 HP9 HY8 L8 K8 N8
      have c0 := KA.out.cell 0 (.slice VA vn vc) rfl
      have c1 := KA.out.cell 1 (.slice LA ln lc) rfl
      have k0 := LA1.out.cell 0 (.slice B1 vn b1) rfl
      have k1 := LA1.out.cell 1 (.slice B2 ln b2) rfl
      have HSG := Lib.hid (sameGroup_any B1 vn b1 v1 B2 ln b2 ls VA vn vc v1 LA ln lc ls _ HYA.out.1 HYA.out.2 (HVR.out.below HBA.out) (HLR.out.below HBA.out))
      rw [eqI_self, eqI_self] at HSG
      unfold grpV at HSG
      go_wp2_with fail
      refine HSG.out.mono ?_
      rintro e wb ⟨rfl, hb⟩
      have HBB := Lib.hid (HBA.out.trans (hb.mono HBA.out.size))
      have KB := Lib.hid (KA.out.below hb)
      have QB := Lib.hid (QA.out.below hb)
      have HUB := Lib.hid (And.intro (HU.out.1.below hb) (HU.out.2.below hb))
      clear hb HSG c0 c1 k0 k1
      have c0 := KB.out.cell 0 (.slice VA vn vc) rfl
      have c1 := KB.out.cell 1 (.slice LA ln lc) rfl
      have k0 := QB.out.cell 0 (.slice E1 vn g1) rfl
      have k1 := QB.out.cell 1 (.slice E2 ln g2) rfl
      have HSG := Lib.hid (sameGroup_any E1 vn g1 v1 E2 ln g2 ls VA vn vc v1 LA ln lc ls wb HUB.out.1 HUB.out.2 (HVR.out.below HBB.out) (HLR.out.below HBB.out))
      rw [eqI_self, eqI_self] at HSG
      unfold grpV at HSG
      go_wp2_with fail
      refine HSG.out.mono ?_
      rintro e wc ⟨rfl, hb⟩
      have HBC := Lib.hid (HBB.out.trans (hb.mono HBB.out.size))
      clear hb HSG c0 c1 k0 k1
      go_wp2
      go_ret
      exact ⟨rfl, HBC.out⟩
    · have hcase : er = 1 ∨ er = 7 := by omega
      clear h0 hcode
      rcases hcase with rfl | rfl
      all_goals
        go_wp2
        go_ret
        exact ⟨rfl, HB4.out⟩
end Go.Proofs.Ytcnligkndficoaa.Qu
