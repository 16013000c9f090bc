/-
  Layer 9, that the law QuorumChanges answers true. Conditions: the lists can be read.
-/
import Derived.Test.YtcnligkndficoaaQuLn
import Derived.Test.YtcnligkndficoaaQuG
import Derived.Test.YtcnligkndficoaaQuI
import Derived.Deep.RegionHeld3
import Derived.Deep.RegionWith
namespace Go.Proofs.Ytcnligkndficoaa.Qu
open Go.RowKit Go.Proofs.Ytcnligkndficoaa.Fld
set_option linter.unusedVariables false

theorem eqI_self (l : List Int) : eqI l l = true := by simp [eqI]
set_option maxRecDepth 100000 in
set_option maxHeartbeats 6400000 in
theorem changes_walk (VA : Option Addr) (vn vc : Nat) (vs : List Int) (LA : Option Addr) (ln lc : Nat) (ls : List Int) (kind x : Int) (w : World) (hv : RdI w VA vn vs) (hl : RdI w LA ln ls) :
    Calls Try.prog 5 #[grpV VA vn vc LA ln lc, .int .i64 kind, .int .i64 x] w fun e w' => e = .returned (.bool true) ∧ Below w.heap.size w w' := by
  have hb := alloc_below w (.cells #[.slice VA vn vc, .slice LA ln lc] 24)
  have HB := Lib.hid hb
  have HK := Lib.hid (Blk.new w #[.slice VA vn vc, .slice LA ln lc] 24)
  have HAW := Lib.hid (awake_any (w.alloc (.cells #[.slice VA vn vc, .slice LA ln lc] 24)))
  have HVR := Lib.hid hv
  have HLR := Lib.hid hl
  have hm1 := hv.2.1
  have hm2 := hl.2.1
  unfold maxLen at hm1 hm2
  clear hv hl hb
  unfold grpV
  go_enter Try.func5, Try.ntmps5
  go_wp2_with fail
  refine HAW.out.mono ?_
  rintro e w1 ⟨rfl, hb⟩
  have HB1 := Lib.hid (HB.out.trans (hb.mono HB.out.size))
  have K1 := Lib.hid (HK.out.below hb)
  clear hb HAW
  have c0 := K1.out.cell 0 (.slice VA vn vc) rfl
  have c1 := K1.out.cell 1 (.slice LA ln lc) rfl
  have HFW := Lib.hid (few_any VA vn vc vs LA ln lc ls none 0 0 [] w1 (lens_none w1) (by omega) (by omega))
  unfold grpV at HFW
  go_wp2_with fail
  refine HFW.out.mono ?_
  rintro e w2 ⟨rfl, hb⟩
  have HB2 := Lib.hid (HB1.out.trans (hb.mono HB1.out.size))
  have K2 := Lib.hid (K1.out.below hb)
  clear hb c0 c1 HFW
  have c0 := K2.out.cell 0 (.slice VA vn vc) rfl
  have c1 := K2.out.cell 1 (.slice LA ln lc) rfl
  cases hf : fewG vn ln [] with
  | false =>
    go_wp2
    go_ret
    exact ⟨rfl, HB2.out⟩
  | true =>
    clear hf
    have HC1 := Lib.hid (change_any VA vn vc vs LA ln lc ls kind x w2 (HVR.out.below HB2.out) (HLR.out.below HB2.out))
    unfold grpV at HC1
    obtain ⟨r, hr⟩ : ∃ r, chG vs ls kind x = r := ⟨_, rfl⟩
    obtain ⟨r1, r2, er⟩ := r
    rw [hr] at HC1
    have HR := Lib.hid hr
    clear hr
    go_wp2_with fail
    refine HC1.out.mono ?_
    rintro e w3 ⟨A1, d1, A2, d2, rfl, h1, h2, hb⟩
    simp only at h1 h2
    have HX := Lib.hid (And.intro h1 h2)
    have HB3 := Lib.hid (HB2.out.trans (hb.mono HB2.out.size))
    have K3 := Lib.hid (K2.out.below hb)
    clear hb h1 h2 HC1 c0 c1
    have HP3 := Lib.hid (alloc_below w3 (.cells #[.slice A1 r1.length d1, .slice A2 r2.length d2] 24))
    have HB4 := Lib.hid (HB3.out.trans (HP3.out.mono HB3.out.size))
    have K4 := Lib.hid (K3.out.below HP3.out)
    have M4 := Lib.hid (Blk.new w3 #[.slice A1 r1.length d1, .slice A2 r2.length d2] 24)
    have HC2 := Lib.hid (refchange_any VA vn vc vs LA ln lc ls kind x (w3.alloc (.cells #[.slice A1 r1.length d1, .slice A2 r2.length d2] 24)) (HVR.out.below HB4.out) (HLR.out.below HB4.out))
    rw [HR.out] at HC2
    unfold grpV at HC2
    have HX4 := Lib.hid (And.intro (HX.out.1.below HP3.out) (HX.out.2.below HP3.out))
    obtain ⟨n1, hn1⟩ : ∃ n, r1.length = n := ⟨_, rfl⟩
    obtain ⟨n2, hn2⟩ : ∃ n, r2.length = n := ⟨_, rfl⟩
    rw [hn1, hn2] at M4 HC2 HX4 HP3 HB4 K4
    simp only [hn1, hn2]
    have HNN := Lib.hid (And.intro hn1 hn2)
    clear hn1 hn2
    have c0 := K4.out.cell 0 (.slice VA vn vc) rfl
    have c1 := K4.out.cell 1 (.slice LA ln lc) rfl
    go_wp2_with fail
    refine HC2.out.mono ?_
    rintro e w5 ⟨B1, b1, B2, b2, rfl, h1, h2, hb⟩
    simp only at h1 h2
    rw [HNN.out.1] at h1
    rw [HNN.out.2] at h2
    have HY := Lib.hid (And.intro h1 h2)
    have HX5 := Lib.hid (And.intro (HX4.out.1.below hb) (HX4.out.2.below hb))
    have M5 := Lib.hid (M4.out.below hb)
    have HB5 := Lib.hid (HB4.out.trans (hb.mono HB4.out.size))
    clear hb h1 h2 HC2 c0 c1
    have HP5 := Lib.hid (alloc_below w5 (.cells #[.slice B1 n1 b1, .slice B2 n2 b2] 24))
    have HB6 := Lib.hid (HB5.out.trans (HP5.out.mono HB5.out.size))
    have M6 := Lib.hid (M5.out.below HP5.out)
    have L6 := Lib.hid (Blk.new w5 #[.slice B1 n1 b1, .slice B2 n2 b2] 24)
    have HSG := Lib.hid (sameGroup_any A1 n1 d1 r1 A2 n2 d2 r2 B1 n1 b1 r1 B2 n2 b2 r2 _ (HX5.out.1.below HP5.out) (HX5.out.2.below HP5.out) (HY.out.1.below HP5.out) (HY.out.2.below HP5.out))
    rw [eqI_self, eqI_self] at HSG
    unfold grpV at HSG
    simp only [HNN.out.1, HNN.out.2]
    have c0 := M6.out.cell 0 (.slice A1 n1 d1) rfl
    have c1 := M6.out.cell 1 (.slice A2 n2 d2) rfl
    have e0 := L6.out.cell 0 (.slice B1 n1 b1) rfl
    have e1 := L6.out.cell 1 (.slice B2 n2 b2) rfl
    go_wp2_with fail
    refine HSG.out.mono ?_
    rintro e w7 ⟨rfl, hb⟩
    have HB7 := Lib.hid (HB6.out.trans (hb.mono HB6.out.size))
    clear hb c0 c1 e0 e1
    have q1 : (er == er) = true := by simp
    go_wp2
    go_ret
    exact ⟨rfl, HB7.out⟩
end Go.Proofs.Ytcnligkndficoaa.Qu
