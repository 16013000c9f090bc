/-
  That the law KeepCodes answers true and leaves all memory that was there as it was. Conditions: the arguments can be read.
-/
import Derived.Test.YtejphnbhcabchaaGreatKeepOne
import Derived.Test.YtejphnbhcabchaaGreatKeepAw
namespace Go.Proofs.YtejphnbhcabchaaGreat.Kp
open Go.RowKit Go.Proofs.YtejphnbhcabchaaGreat.Dk Go.Proofs.YtejphnbhcabchaaGreat.Fld
set_option linter.unusedVariables false

theorem sameB_me (i t : Int) (vs ls ds : List Int) : sameB i t vs ls ds i t vs ls ds = true := by simp [sameB, eqI]
def encE (ok : Bool) : Int := if ok then 0 else 1
def encB (ok : Bool) (zs : List Int) : List Int := if ok then zs else []
def EncX (w : World) (ok : Bool) (zs : List Int) (e : Ending) (w' : World) : Prop := ∃ A n c, e = .returned (.tuple #[.slice A n c, .int .i64 (encE ok)]) ∧ Rd w' A n (encB ok zs) ∧ Below w.heap.size w w'
theorem EncX.of {w : World} {ok : Bool} {zs : List Int} {e : Ending} {w' : World} (h : Encd w ok zs e w') : EncX w ok zs e w' := by
  cases ok with
  | false =>
    obtain ⟨he, hb⟩ := h
    exact ⟨none, 0, 0, he, Rd.nil w', hb⟩
  | true =>
    obtain ⟨v, he, hO⟩ := h
    obtain ⟨A, c, hv, hs, _⟩ := hO.sl _ rfl
    subst hv
    exact ⟨A, _, c, he, hs.1, hO.1⟩
set_option maxRecDepth 100000 in
set_option maxHeartbeats 6400000 in
theorem codes_walk (i t : Int) (VA : Option Addr) (vn vc : Nat) (vs : List Int) (LA : Option Addr) (ln lc : Nat) (ls : List Int) (DA : Option Addr) (dn dc : Nat) (ds : List Int) (B : Option Addr) (bn bc : Nat) (bs : List Int) (w : World)
    (hv : RdI w VA vn vs) (hl : RdI w LA ln ls) (hd : Rd w DA dn ds) (hD : DA = none → dc = 0) (hb : Rd w B bn bs) (hB : B = none → bc = 0) (hbc : bn ≤ bc) :
    Calls Tryz.prog 4 #[snapV i t (.slice VA vn vc) (.slice LA ln lc) (.slice DA dn dc), .slice B bn bc] w fun e w' => e = .returned (.bool true) ∧ Below w.heap.size w w' := by
  have hm1 := hd.2.1
  have hm2 := hb.2.1
  unfold maxLen at hm1 hm2
  have HB := Lib.hid (alloc_below w (.cells #[.int .i64 i, .int .i64 t, .slice VA vn vc, .slice LA ln lc, .slice DA dn dc] 38))
  have K1 := Lib.hid (Blk.new w #[.int .i64 i, .int .i64 t, .slice VA vn vc, .slice LA ln lc, .slice DA dn dc] 38)
  have HV := Lib.hid hv
  have HL := Lib.hid hl
  have HD := Lib.hid hd
  have HDN := Lib.hid hD
  have HBS := Lib.hid hb
  have HBN := Lib.hid hB
  unfold snapV
  clear hv hl hd hD hb hB
  go_enter Tryz.func4, Tryz.ntmps4
  go_wp2_with fail
  generalize w.alloc (.cells #[.int .i64 i, .int .i64 t, .slice VA vn vc, .slice LA ln lc, .slice DA dn dc] 38) = wb at *
  refine (awake_any wb).mono ?_
  rintro e w1 ⟨rfl, hb1⟩
  have HB1 := Lib.hid (HB.out.trans (hb1.mono HB.out.size))
  have KB := Lib.hid (K1.out.below hb1)
  clear hb1 HB K1
  obtain ⟨c0, c1, c2, c3, c4⟩ := Blk.five KB.out
  by_cases h1 : 200000 < (bn : Int)
  · go_wp2
    go_ret
    exact ⟨rfl, HB1.out⟩
  by_cases h2 : 200000 < (dn : Int)
  · go_wp2
    go_ret
    exact ⟨rfl, HB1.out⟩
  have H1 := Lib.hid ((encode_any i t VA vn vc vs LA ln lc ls DA dn dc ds w1 (RdI.below HV.out HB1.out) (RdI.below HL.out HB1.out) (HD.out.below HB1.out) HDN.out).mono fun e w' h => EncX.of h)
  unfold snapV at H1
  generalize hok : snapOk i t vs ls dn = ok at *
  generalize hzs : snapC i.toNat t.toNat (toNats vs) (toNats ls) ds = zs at *
  have HZ := Lib.hid (And.intro hok hzs)
  clear hok hzs
  go_wp2_with fail
  refine H1.out.mono ?_
  clear H1
  rintro e w2 ⟨A2, n2, cc2, rfl, hr2, hb2⟩
  have HB2 := Lib.hid (HB1.out.trans (hb2.mono HB1.out.size))
  have KB2 := Lib.hid (KB.out.below hb2)
  have HR2 := Lib.hid hr2
  have H1 := Lib.hid ((refencode_any i t VA vn vc vs LA ln lc ls DA dn dc ds w2 (RdI.below HV.out HB2.out) (RdI.below HL.out HB2.out) (HD.out.below HB2.out) HDN.out).mono fun e w' h => EncX.of h)
  unfold snapV at H1
  rw [HZ.out.1, HZ.out.2] at H1
  clear hb2 hr2 c0 c1 c2 c3 c4
  obtain ⟨c0, c1, c2, c3, c4⟩ := Blk.five KB2.out
  go_wp2_with fail
  refine H1.out.mono ?_
  clear H1
  rintro e w3 ⟨A3, n3, cc3, rfl, hr3, hb3⟩
  have HB3 := Lib.hid (HB2.out.trans (hb3.mono HB2.out.size))
  have HR23 := Lib.hid (HR2.out.below hb3)
  have HR3 := Lib.hid hr3
  clear hb3 hr3 c0 c1 c2 c3 c4 HR2 KB KB2 HB1
  have H1 := Lib.hid (decode_any B bn bc bs w3 (HBS.out.below HB3.out) HBN.out (by omega))
  generalize hsp : decSp bs = S at *
  have HSP := Lib.hid hsp
  clear hsp
  obtain ⟨x, c⟩ := S
  go_wp2_with fail
  refine H1.out.mono ?_
  clear H1
  rintro e w4 ⟨VX, LX, DX, vx, lx, dx, rfl, hsx, hb4, _, _⟩
  unfold spV snapV
  simp only at hsx ⊢
  have hb5 := hb4.alloc hb4.size (.cells #[.int .i64 x.i, .int .i64 x.t, .slice VX x.vs.length vx, .slice LX x.ls.length lx, .slice DX x.ds.length dx] 38)
  have hc5 := alloc_below w4 (.cells #[.int .i64 x.i, .int .i64 x.t, .slice VX x.vs.length vx, .slice LX x.ls.length lx, .slice DX x.ds.length dx] 38)
  have HX := Lib.hid (hsx.below hc5)
  have KX := Lib.hid (Blk.new w4 #[.int .i64 x.i, .int .i64 x.t, .slice VX x.vs.length vx, .slice LX x.ls.length lx, .slice DX x.ds.length dx] 38)
  have HB5 := Lib.hid (HB3.out.trans (hb5.mono HB3.out.size))
  have HR25 := Lib.hid (HR23.out.below hb5)
  have HR35 := Lib.hid (HR3.out.below hb5)
  clear hsx hb4 hb5 hc5 HR23 HR3 HB3
  have H1 := Lib.hid (refdecode_any B bn bc bs _ (HBS.out.below HB5.out) hbc (by omega))
  rw [HSP.out] at H1
  go_wp2_with fail
  generalize w4.alloc (.cells #[.int .i64 x.i, .int .i64 x.t, .slice VX x.vs.length vx, .slice LX x.ls.length lx, .slice DX x.ds.length dx] 38) = w5 at *
  generalize w4.heap.size = X at *
  refine H1.out.mono ?_
  clear H1
  rintro e w6 ⟨VY, LY, DY, vy, ly, dy, rfl, hy1, hy2, hy3, hb6⟩
  unfold spV snapV
  simp only at hy1 hy2 hy3 ⊢
  have hb7 := hb6.alloc hb6.size (.cells #[.int .i64 x.i, .int .i64 x.t, .slice VY x.vs.length vy, .slice LY x.ls.length ly, .slice DY x.ds.length dy] 38)
  have hc7 := alloc_below w6 (.cells #[.int .i64 x.i, .int .i64 x.t, .slice VY x.vs.length vy, .slice LY x.ls.length ly, .slice DY x.ds.length dy] 38)
  have KY := Lib.hid (Blk.new w6 #[.int .i64 x.i, .int .i64 x.t, .slice VY x.vs.length vy, .slice LY x.ls.length ly, .slice DY x.ds.length dy] 38)
  have KX7 := Lib.hid (KX.out.below hb7)
  have HB7 := Lib.hid (HB5.out.trans (hb7.mono HB5.out.size))
  have HR27 := Lib.hid (HR25.out.below hb7)
  have HR37 := Lib.hid (HR35.out.below hb7)
  have HX7 := Lib.hid (HX.out.below hb7)
  have H1 := Lib.hid (sameSnap_any x.i x.t VX _ vx (ints x.vs) LX _ lx (ints x.ls) DX _ dx x.ds x.i x.t VY _ vy (ints x.vs) LY _ ly (ints x.ls) DY _ dy x.ds _ HX7.out.v HX7.out.l (RdI.below hy1 hc7) (RdI.below hy2 hc7) HX7.out.d (hy3.below hc7))
  rw [sameB_me] at H1
  unfold snapV at H1
  clear hb6 hb7 hc7 hy1 hy2 hy3 HR25 HR35 HX KX HB5
  obtain ⟨x0, x1, x2, x3, x4⟩ := Blk.five KX7.out
  obtain ⟨y0, y1, y2, y3, y4⟩ := Blk.five KY.out
  go_wp2_with fail
  generalize w6.alloc (.cells #[.int .i64 x.i, .int .i64 x.t, .slice VY x.vs.length vy, .slice LY x.ls.length ly, .slice DY x.ds.length dy] 38) = w7 at *
  generalize w6.heap.size = Y at *
  refine H1.out.mono ?_
  clear H1
  rintro e w8 ⟨rfl, hb8⟩
  have HB8 := Lib.hid (HB7.out.trans (hb8.mono HB7.out.size))
  have q1 := conv_str (HR27.out.below hb8) cc2
  have q2 := conv_str (HR37.out.below hb8) cc3
  clear hb8 x0 x1 x2 x3 x4 y0 y1 y2 y3 y4 HR27 HR37
  generalize str (encB ok zs) = s1 at *
  generalize encE ok = ee at *
  go_wp2
  go_ret
  exact ⟨rfl, HB8.out⟩
end Go.Proofs.YtejphnbhcabchaaGreat.Kp
