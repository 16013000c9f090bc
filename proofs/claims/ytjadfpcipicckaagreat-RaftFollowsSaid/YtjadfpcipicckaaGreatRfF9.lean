/-
  Layer 12, that the law RaftFollows answers true: who does not lead proposes, changes and reads nothing, and is left as it is. Conditions: what comes in can be read.
-/
import Derived.Test.YtjadfpcipicckaaGreatJRfY
import Derived.Test.YtjadfpcipicckaaGreatRfMu
import Derived.Test.YtjadfpcipicckaaGreatJRfR
import Derived.Test.YtjadfpcipicckaaGreatJRfZ
import Derived.Test.YtjadfpcipicckaaGreatRfOu
namespace Go.Proofs.YtjadfpcipicckaaGreat.Rf
open Go.RowKit Go.Shelf Go.Proofs.YtjadfpcipicckaaGreat.Fld
open Go.Proofs.YtjadfpcipicckaaGreat.Qu (RdI)
set_option linter.unusedVariables false

set_option maxRecDepth 100000 in
set_option maxHeartbeats 6400000 in
theorem follows_walk (id hT hV sI sT : Int) (VA : Option Addr) (vn vc : Nat) (vs : List Int) (LA : Option Addr) (ln lc : Nat) (ls : List Int) (DA : Option Addr) (dn dc : Nat) (ds : List Int) (EA : Option Addr) (en ec : Nat) (es : List Rg.EA) (pat win : Int) (BA : Option Addr) (bn bc : Nat) (x0 x1 : Int) (w : World)
    (hv : RdI w VA vn vs) (hl : RdI w LA ln ls) (hd : Fld.Rd w DA dn ds) (hz : DA = none → dc = 0) (he : Rg.RdE w EA en es) (hez : EA = none → ec = 0) (hbm : bn ≤ 9223372036854775807) :
    Calls Tryz.prog 3 #[.agg (whoC id hT hV sI sT VA vn vc LA ln lc DA dn dc EA en ec pat win), .slice BA bn bc, .agg #[.int .i64 x0, .int .i64 x1]] w fun e w' => e = .returned (.bool true) ∧ Below w.heap.size w w' := by
  have hb0 := Rg.alloc_below' w (.cells (whoC id hT hV sI sT VA vn vc LA ln lc DA dn dc EA en ec pat win) 33)
  have HK0 := Rg.Blk.new w (whoC id hT hV sI sT VA vn vc LA ln lc DA dn dc EA en ec pat win) 33
  obtain ⟨W0, hW0⟩ : ∃ W0, w.alloc (.cells (whoC id hT hV sI sT VA vn vc LA ln lc DA dn dc EA en ec pat win) 33) = W0 := ⟨_, rfl⟩
  rw [hW0] at hb0 HK0
  have hsz : W0.heap.size = w.heap.size + 1 := by rw [← hW0]; exact Array.size_push ..
  have hb1 := Rg.alloc_below' W0 (.cells #[.int .i64 x0, .int .i64 x1] 31)
  have HK1 := Rg.Blk.new W0 #[.int .i64 x0, .int .i64 x1] 31
  obtain ⟨W, hW⟩ : ∃ W, W0.alloc (.cells #[.int .i64 x0, .int .i64 x1] 31) = W := ⟨_, rfl⟩
  rw [hW] at hb1 HK1
  have HK := HK0.below hb1
  have hb := hb0.trans (hb1.mono hb0.size)
  rw [hsz] at HK1
  have HW := Lib.hid (show (w.alloc (.cells (whoC id hT hV sI sT VA vn vc LA ln lc DA dn dc EA en ec pat win) 33)).alloc (.cells #[.int .i64 x0, .int .i64 x1] 31) = W by rw [hW0]; exact hW)
  have HB := Lib.hid hb
  have HBW := Lib.hid (Below.refl W.heap.size W)
  have HX := Lib.hid (fun (w2 : World) (h2 : Below W.heap.size W w2) => And.intro (HK.below h2) (HK1.below h2))
  have HAW := Lib.hid (awake_any W)
  obtain rfl := hv.1
  obtain rfl := hl.1
  have HMU := Lib.hid (fun (w2 : World) => much_any id hT hV sI sT VA vs.length vc LA ls.length lc DA dn dc EA en ec pat win w2)
  have HNW := Lib.hid (fun (hm : en ≤ 1000000) (w2 : World) (h2 : Below W.heap.size W w2) => fnew_any id hT hV sI sT pat win VA vc vs LA lc ls DA dn dc ds hd.1 EA en ec es w2 (((hv.below hb).below h2)) (((hl.below hb).below h2)) (((hd.below hb).below h2)) hz (((he.below hb).below h2)) hez hm)
  generalize hvn : vs.length = vn at *
  generalize hln : ls.length = ln at *
  unfold whoC at *
  unfold snV at HNW
  clear hv hl hd hz he hez hb0 HK0 hW0 hsz hb1 HK1 hW HK hb hvn hln
  obtain ⟨g0, g1⟩ := HX.out W (Below.refl _ _)
  have a0 := g0.cell 0 (.int .i64 id) rfl
  have a1 := g0.cell 1 (.int .i64 hT) rfl
  have a2 := g0.cell 2 (.int .i64 hV) rfl
  have a3 := g0.cell 3 (.int .i64 sI) rfl
  have a4 := g0.cell 4 (.int .i64 sT) rfl
  have a5 := g0.cell 5 (.slice VA vn vc) rfl
  have a6 := g0.cell 6 (.slice LA ln lc) rfl
  have a7 := g0.cell 7 (.slice DA dn dc) rfl
  have a8 := g0.cell 8 (.slice EA en ec) rfl
  have a9 := g0.cell 9 (.int .i64 pat) rfl
  have a10 := g0.cell 10 (.int .i64 win) rfl
  clear g0 g1
  go_enter Tryz.func3, Tryz.ntmps3
  go_wp2_with (first | rw [HW.out] | fail)
  refine HAW.out.mono ?_
  rintro e w1 ⟨rfl, hb2⟩
  have HBW := Lib.hid (HBW.out.trans (hb2.mono HBW.out.size))
  clear hb2 HAW a0 a1 a2 a3 a4 a5 a6 a7 a8 a9 a10
  obtain ⟨g0, g1⟩ := HX.out _ HBW.out
  have a0 := g0.cell 0 (.int .i64 id) rfl
  have a1 := g0.cell 1 (.int .i64 hT) rfl
  have a2 := g0.cell 2 (.int .i64 hV) rfl
  have a3 := g0.cell 3 (.int .i64 sI) rfl
  have a4 := g0.cell 4 (.int .i64 sT) rfl
  have a5 := g0.cell 5 (.slice VA vn vc) rfl
  have a6 := g0.cell 6 (.slice LA ln lc) rfl
  have a7 := g0.cell 7 (.slice DA dn dc) rfl
  have a8 := g0.cell 8 (.slice EA en ec) rfl
  have a9 := g0.cell 9 (.int .i64 pat) rfl
  have a10 := g0.cell 10 (.int .i64 win) rfl
  have hun := Tryz.underlying33
  have hin : (Tryz.prog.info? 33).map (·.size) = some 11 := by kernel_rfl
  have l0 := rangeB (cs := [.int .i64 id, .int .i64 hT, .int .i64 hV, .int .i64 sI, .int .i64 sT, .slice VA vn vc, .slice LA ln lc, .slice DA dn dc, .slice EA en ec, .int .i64 pat, .int .i64 win]) g0
  clear g0 g1
  go_wp2_with (refine wpList_load_mid rfl 33 _ rfl w.heap.size 0 rfl _ _ l0 hun rfl hin ?_)
  refine (HMU.out _).mono ?_
  rintro e w2 ⟨rfl, hb2⟩
  have HBW := Lib.hid (HBW.out.trans (hb2.mono HBW.out.size))
  clear hb2 a0 a1 a2 a3 a4 a5 a6 a7 a8 a9 a10 l0 hun hin HMU
  obtain ⟨g0, g1⟩ := HX.out _ HBW.out
  have a0 := g0.cell 0 (.int .i64 id) rfl
  have a1 := g0.cell 1 (.int .i64 hT) rfl
  have a2 := g0.cell 2 (.int .i64 hV) rfl
  have a3 := g0.cell 3 (.int .i64 sI) rfl
  have a4 := g0.cell 4 (.int .i64 sT) rfl
  have a5 := g0.cell 5 (.slice VA vn vc) rfl
  have a6 := g0.cell 6 (.slice LA ln lc) rfl
  have a7 := g0.cell 7 (.slice DA dn dc) rfl
  have a8 := g0.cell 8 (.slice EA en ec) rfl
  have a9 := g0.cell 9 (.int .i64 pat) rfl
  have a10 := g0.cell 10 (.int .i64 win) rfl
  clear g0 g1
  have HB2 := Lib.hid (HB.out.trans (HBW.out.mono HB.out.size))
  have HMB := Lib.hid (show muchB en dn = false → en ≤ 1000000 by unfold muchB; simp; omega)
  cases hmu : muchB en dn with
  | true =>
    go_wp2
    go_ret
    exact ⟨rfl, HB2.out⟩
  | false =>
    have hen := HMB.out hmu
    by_cases hbn : 70000 < bn
    · have hbi : (70000 : Int) < (bn : Int) := by omega
      go_wp2
      go_ret
      exact ⟨rfl, HB2.out⟩
    have hbi : ¬ (70000 : Int) < (bn : Int) := by omega
    go_wp2_with fail
    refine (HNW.out hen _ HBW.out).mono ?_
    rintro e w3 ⟨hb3, hcase⟩
    have HW3 := Lib.hid hb3
    have HCA := Lib.hid hcase
    have HB3 := Lib.hid (HB2.out.trans (hb3.mono HB2.out.size))
    have HBW3 := Lib.hid (HBW.out.trans (hb3.mono HBW.out.size))
    clear hb3 hcase a0 a1 a2 a3 a4 a5 a6 a7 a8 a9 a10
    obtain ⟨g0, g1⟩ := HX.out _ HBW3.out
    have z0 := g1.cell 0 (.int .i64 x0) rfl
    have z1 := g1.cell 1 (.int .i64 x1) rfl
    clear g0 g1
    rcases HCA.out with ⟨c, hc, rfl⟩ | ⟨b, s, rfl, hF, hT, hV⟩
    · have hc2 : (c != 0) = true := by simpa using hc
      go_wp2
      go_ret
      exact ⟨by first | rfl | exact (congrArg (fun x => Ending.returned (Value.bool x)) (by simp [hc2])), HB3.out⟩
    · have HF := Lib.hid hF
      have HTV := Lib.hid (And.intro hT hV)
      have HLA := Lib.hid (fun W (hW : Below w3.heap.size w3 W) => flast (hF.below hW))
      have HPR := Lib.hid (fun W (hW : Below w3.heap.size w3 W) => fpropose BA bn bc (hF.below hW))
      have HCH := Lib.hid (fun W (hW : Below w3.heap.size w3 W) => fchange x0 x1 (hF.below hW))
      have HRE := Lib.hid (fun W (hW : Below w3.heap.size w3 W) => fread x0 (hF.below hW))
      have HOU := Lib.hid (fun W (hW : Below w3.heap.size w3 W) => fout (hF.below hW) hT hV)
      clear hF hT hV HCA HNW
      go_wp2_with fail
      refine (HLA.out _ (Below.refl _ _)).mono ?_
      rintro e w4 ⟨rfl, m4, rfl⟩
      have HD4 := Lib.hid (Qu.below_dr w3 m4)
      have z0 : (w3.drewN m4).cell? ⟨w.heap.size + 1, 0, none⟩ = _ := z0
      have z1 : (w3.drewN m4).cell? ⟨w.heap.size + 1, 1, none⟩ = _ := z1
      generalize w3.drewN m4 = w4 at *
      go_wp2_with fail
      refine (HPR.out _ HD4.out).mono ?_
      rintro e w5 ⟨rfl, rfl⟩
      go_wp2_with fail
      refine (HCH.out _ HD4.out).mono ?_
      rintro e w5 ⟨rfl, rfl⟩
      go_wp2_with fail
      refine (HRE.out _ HD4.out).mono ?_
      rintro e w5 ⟨rfl, rfl⟩
      go_wp2_with fail
      refine (HOU.out _ HD4.out).mono ?_
      rintro e w6 ⟨rfl, hF6, hf6⟩
      have hnb := HF.out.lo b.nb (fmem.2 (by simp))
      have HB6 := Lib.hid (Dk.Fr.to_below (HB3.out.trans (HD4.out.mono HB3.out.size)) hf6 (fun i hi => by
        obtain rfl : i = b.nb := by simpa using hi
        have := HB2.out.size
        omega))
      have hb7 := Rg.alloc_below' w6 (.cells #[.bool false, .int .i64 0, .int .i64 0, .bool false, .int .i64 0, .int .i64 0, .slice none 0 0, .slice none 0 0, .slice none 0 0, .int .i64 0, .slice none 0 0, .slice none 0 0] 48)
      have HK7 := Lib.hid (Rg.Blk.new w6 #[.bool false, .int .i64 0, .int .i64 0, .bool false, .int .i64 0, .int .i64 0, .slice none 0 0, .slice none 0 0, .slice none 0 0, .int .i64 0, .slice none 0 0, .slice none 0 0] 48)
      have HL7 := Lib.hid (flast (hF6.below hb7))
      have HB7 := Lib.hid (HB6.out.trans (hb7.mono HB6.out.size))
      have hlb : s.g.last = s.g.last := rfl
      clear hF6 hf6 hnb hb7 z0 z1
      go_wp2_with fail
      refine HL7.out.mono ?_
      rintro e w8 ⟨rfl, m8, rfl⟩
      have HK8 := Lib.hid (HK7.out.below (Qu.below_dr _ m8))
      have HB8 := Lib.hid (HB7.out.trans ((Qu.below_dr _ m8).mono HB7.out.size))
      generalize World.drewN _ m8 = w9 at *
      have y0 := HK8.out.cell 0 (.bool false) rfl
      have y9 := HK8.out.cell 9 (.int .i64 0) rfl
      have y10 := HK8.out.cell 10 (.slice none 0 0) rfl
      have y11 := HK8.out.cell 11 (.slice none 0 0) rfl
      have hq : (s.g.last == s.g.last) = true := by simp
      generalize s.g.last = last at *
      go_wp2
      go_ret
      exact ⟨by first | rfl | exact (congrArg (fun x => Ending.returned (Value.bool x)) (by simp)), HB8.out⟩
end Go.Proofs.YtjadfpcipicckaaGreat.Rf
