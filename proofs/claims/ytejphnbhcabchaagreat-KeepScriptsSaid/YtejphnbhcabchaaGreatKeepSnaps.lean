/-
  That the law KeepSnaps answers true and leaves all memory that was there as it was. Conditions: the arguments can be read.
-/
import Derived.Test.YtejphnbhcabchaaGreatKeepApart
namespace Go.Proofs.YtejphnbhcabchaaGreat.Kp
open Go.RowKit Go.Proofs.YtejphnbhcabchaaGreat.Dk Go.Proofs.YtejphnbhcabchaaGreat.Fld
set_option linter.unusedVariables false

/-- a file that is synced stays through a crash -/
theorem crash_whole {u : St} {x : Nm} {q : List Int} (ks : List Int) (hg : fget x u.fs = some (x, q, q.length)) (hG : Dk.Good (stCrash ks u)) : fget x (stCrash ks u).fs = some (x, q, q.length) := by
  obtain ⟨h1, _⟩ := get_some hg
  obtain ⟨j, hj, he⟩ := List.getElem_of_mem h1
  have hs : stays (ks.getD j 0) (x, q, q.length) = q.length := by unfold stays; simp only; omega
  have hm : crash1 (ks.getD j 0) (x, q, q.length) ∈ (stCrash ks u).fs := by
    show _ ∈ crashTo u.fs.length ks u.fs
    refine List.mem_iff_getElem.2 ⟨j, by rw [crashTo_len]; exact hj, ?_⟩
    unfold crashTo
    rw [List.getElem_mapIdx, if_pos hj, he]
  have h2 := get_mem hG.up hm
  unfold crash1 at h2
  rw [hs] at h2
  simp only [List.take_length] at h2
  exact h2
theorem nums_block {w : World} {A : Option Addr} {n : Nat} {ks : List Int} (h : RdI w A n ks) (hn : 0 < n) (a : Addr) (ha : A = some a) : a.block < w.heap.size := by
  obtain ⟨b, off, e, hc⟩ := h.2.2 hn
  rw [ha] at e
  injection e with e
  have := lt_of_cell (hc 0 hn)
  rw [e]
  exact this
set_option maxRecDepth 100000 in
set_option maxHeartbeats 6400000 in
theorem snaps_walk (i t : Int) (VA : Option Addr) (vn vc : Nat) (vs : List Int) (LA : Option Addr) (ln lc : Nat) (ls : List Int) (DA : Option Addr) (dn dc : Nat) (ds : List Int) (KA : Option Addr) (kn kc : Nat) (ks : List Int) (w : World)
    (hv : RdI w VA vn vs) (hl : RdI w LA ln ls) (hd : Rd w DA dn ds) (hD : DA = none → dc = 0) (hk : RdI w KA kn ks) :
    Calls Tryz.prog 6 #[snapV i t (.slice VA vn vc) (.slice LA ln lc) (.slice DA dn dc), .slice KA kn kc] w fun e w' => e = .returned (.bool true) ∧ Below w.heap.size w w' := by
  have hm1 := hv.2.1
  have hm2 := hl.2.1
  have hm3 := hd.2.1
  unfold maxLen at hm1 hm2 hm3
  have HB := Lib.hid (alloc_below w (.cells #[.int .i64 i, .int .i64 t, .slice VA vn vc, .slice LA ln lc, .slice DA dn dc] 38))
  have K1 := Lib.hid (Blk.new w #[.int .i64 i, .int .i64 t, .slice VA vn vc, .slice LA ln lc, .slice DA dn dc] 38)
  have HV := Lib.hid hv
  have HL := Lib.hid hl
  have HD := Lib.hid hd
  have HDN := Lib.hid hD
  have HK := Lib.hid hk
  unfold snapV
  clear hv hl hd hD hk
  go_enter Tryz.func6, Tryz.ntmps6
  go_wp2_with fail
  generalize w.alloc (.cells #[.int .i64 i, .int .i64 t, .slice VA vn vc, .slice LA ln lc, .slice DA dn dc] 38) = wb at *
  refine (awake_any wb).mono ?_
  rintro e w1 ⟨rfl, hb1⟩
  have HB1 := Lib.hid (HB.out.trans (hb1.mono HB.out.size))
  have KB := Lib.hid (K1.out.below hb1)
  clear hb1 HB K1
  obtain ⟨c0, c1, c2, c3, c4⟩ := Blk.five KB.out
  by_cases h1 : 100000 < (dn : Int)
  · go_wp2
    go_ret
    exact ⟨rfl, HB1.out⟩
  by_cases h2 : 100 < (vn : Int)
  · go_wp2
    go_ret
    exact ⟨rfl, HB1.out⟩
  by_cases h3 : 100 < (ln : Int)
  · go_wp2
    go_ret
    exact ⟨rfl, HB1.out⟩
  have HE := Lib.hid (encode_any i t VA vn vc vs LA ln lc ls DA dn dc ds w1 (RdI.below HV.out HB1.out) (RdI.below HL.out HB1.out) (HD.out.below HB1.out) HDN.out)
  unfold snapV at HE
  cases hok : snapOk i t vs ls dn with
  | false =>
    rw [hok] at HE
    go_wp2_with fail
    refine HE.out.mono ?_
    rintro e w2 ⟨rfl, hb2⟩
    have HB2 := Lib.hid (HB1.out.trans (hb2.mono HB1.out.size))
    clear hb2 HE c0 c1 c2 c3 c4
    go_wp2
    go_ret
    exact ⟨rfl, HB2.out⟩
  | true =>
    rw [hok] at HE
    obtain ⟨x, hxo, hxi, hxt, hxv, hxl, hxd⟩ : ∃ x : Sp, x.ok = true ∧ i = x.i ∧ t = x.t ∧ vs = ints x.vs ∧ ls = ints x.ls ∧ ds = x.ds := by
      obtain ⟨a, c, v, l, e1, e2, e3, e4, _⟩ := snap_nat hok
      refine ⟨⟨a, c, v, l, ds⟩, ?_, e1, e2, e3, e4, rfl⟩
      unfold Sp.ok
      simp only
      rw [HD.out.1, ← e1, ← e2, ← e3, ← e4]
      exact hok
    have HXE := Lib.hid (And.intro hxi (And.intro hxt (And.intro hxv (And.intro hxl hxd))))
    have hcode : snapC i.toNat t.toNat (toNats vs) (toNats ls) ds = x.code := by
      rw [hxi, hxt, hxv, hxl, hxd, toNats_ints, toNats_ints, Int.toNat_natCast, Int.toNat_natCast]
      rfl
    rw [hcode] at HE
    have HXO := Lib.hid hxo
    have hcl := code_len_le x hxo
    clear hcode hok hxi hxt hxv hxl hxd hxo
    go_wp2_with fail
    refine HE.out.mono ?_
    rintro e w2 ⟨v2, rfl, hO2⟩
    obtain ⟨A2, cc2, hv2, hs2, _⟩ := hO2.sl _ rfl
    subst hv2
    have HB2 := Lib.hid hO2.1
    have HDC := Lib.hid (decode_any A2 _ cc2 x.code w2 hs2.1 hs2.2.2.2.1 (by omega))
    rw [decSp_code x HXO.out] at HDC
    clear hO2 hs2 HE c0 c1 c2 c3 c4
    generalize x.code.length = cl at *
    go_wp2_with fail
    refine HDC.out.mono ?_
    clear HDC
    rintro e w3 ⟨VX, LX, DX, vx, lx, dx, rfl, hsp, hb3, _, _⟩
    unfold spV snapV
    simp only at hsp ⊢
    have hb4 := hb3.alloc hb3.size (.cells #[.int .i64 x.i, .int .i64 x.t, .slice VX x.vs.length vx, .slice LX x.ls.length lx, .slice DX x.ds.length dx] 38)
    have HSPX := Lib.hid (hsp_below hsp (alloc_below w3 (.cells #[.int .i64 x.i, .int .i64 x.t, .slice VX x.vs.length vx, .slice LX x.ls.length lx, .slice DX x.ds.length dx] 38)))
    have KX := Lib.hid (Blk.new w3 #[.int .i64 x.i, .int .i64 x.t, .slice VX x.vs.length vx, .slice LX x.ls.length lx, .slice DX x.ds.length dx] 38)
    have HB4 := Lib.hid (HB2.out.trans (hb4.mono HB2.out.size))
    clear hsp hb3 hb4 HB2
    go_wp2_with fail
    generalize w3.alloc (.cells #[.int .i64 x.i, .int .i64 x.t, .slice VX x.vs.length vx, .slice LX x.ls.length lx, .slice DX x.ds.length dx] 38) = w4 at *
    generalize w3.heap.size = X at *
    refine (new_sn 200000 w4 (by omega) (by omega)).mono ?_
    rintro e w5 ⟨b, g, rfl, hS⟩
    have HS := Lib.hid hS
    have HBW := Lib.hid (HB1.out.trans ((HB4.out.trans (hS.2.1.mono HB4.out.size)).mono HB1.out.size))
    have HSS := Lib.hid (saveSnap_calm g b [] (st0 200000) i t VA vn vc vs LA ln lc ls DA dn dc ds w5 hS.1 (RdI.below HV.out HBW.out) (RdI.below HL.out HBW.out) (HD.out.below HBW.out) HDN.out (st0_clm _) (by simp [st0, total]) (by simp [st0]))
    unfold snapV at HSS
    obtain ⟨s0, s1, s2, s3, s4⟩ := Blk.five (KB.out.below (HB4.out.trans (hS.2.1.mono HB4.out.size)))
    clear hS
    go_wp2_with fail
    refine HSS.out.mono ?_
    clear HSS
    rintro e w6 (⟨rfl, hL6, hno⟩ | ⟨y, t6, rfl, hL6, hyo, hW6, hT6, hN6, hyi, hyt, hyv, hyl, hyd⟩)
    · exfalso
      have h9 : snapOk i t vs ls dn = true := by
        rw [HXE.out.1, HXE.out.2.1, HXE.out.2.2.1, HXE.out.2.2.2.1, ← HD.out.1, HXE.out.2.2.2.2]
        exact HXO.out
      rw [h9] at hno
      cases hno
    · obtain ⟨m6, hS6⟩ := HS.out.left hL6
      have HS6 := Lib.hid hS6
      have hyx : y.code = x.code := by
        have e1 : y.i = x.i := by have := hyi.symm.trans HXE.out.1; omega
        have e2 : y.t = x.t := by have := hyt.symm.trans HXE.out.2.1; omega
        have e3 : y.vs = x.vs := by have := congrArg toNats (hyv.symm.trans HXE.out.2.2.1); rwa [toNats_ints, toNats_ints] at this
        have e4 : y.ls = x.ls := by have := congrArg toNats (hyl.symm.trans HXE.out.2.2.2.1); rwa [toNats_ints, toNats_ints] at this
        have e5 : y.ds = x.ds := hyd.symm.trans HXE.out.2.2.2.2
        unfold Sp.code
        rw [e1, e2, e3, e4, e5]
      rw [hyx] at hW6
      have HW6 := Lib.hid hW6
      have hN6' : t6.fs.length ≤ 3 := by simpa [st0] using hN6
      have hw4 : w.heap.size ≤ w4.heap.size := by have h5 := HB1.out.size; have h6 := HB4.out.size; omega
      have HBW6 := Lib.hid (HB1.out.trans ((HB4.out.trans (hS6.2.1.mono HB4.out.size)).mono HB1.out.size))
      have HCR := Lib.hid (crash_sn hS6 KA kn kc ks (by omega) (RdI.below HK.out HBW6.out) (fun h0 a ha hm => by
        have h5 := nums_block HK.out h0 a ha
        have h6 := hS6.2.2 _ hm
        omega))
      clear hL6 hS6 s0 s1 s2 s3 s4 hyo hW6 hT6 hN6 hyi hyt hyv hyl hyd hyx
      go_wp2_with fail
      refine HCR.out.mono ?_
      clear HCR
      rintro e w7 ⟨rfl, m7, hS7⟩
      have HS7 := Lib.hid hS7
      have HLS := Lib.hid (loadSnap_any g b m7 _ w7 hS7.1)
      rw [ldSnap_it (t := stCrash ks t6) rfl HXO.out (crash_whole ks HW6.out.it hS7.1.good)] at HLS
      clear hS7
      go_wp2_with fail
      refine HLS.out.mono ?_
      clear HLS
      rintro e w8 ⟨VY, LY, DY, vy, ly, dy, rfl, hsp, hb8, _, _⟩
      unfold spV snapV
      simp only at hsp ⊢
      have hb9 := hb8.alloc hb8.size (.cells #[.int .i64 x.i, .int .i64 x.t, .slice VY x.vs.length vy, .slice LY x.ls.length ly, .slice DY x.ds.length dy] 38)
      have HSPY := Lib.hid (hsp_below hsp (alloc_below w8 (.cells #[.int .i64 x.i, .int .i64 x.t, .slice VY x.vs.length vy, .slice LY x.ls.length ly, .slice DY x.ds.length dy] 38)))
      have KY := Lib.hid (Blk.new w8 #[.int .i64 x.i, .int .i64 x.t, .slice VY x.vs.length vy, .slice LY x.ls.length ly, .slice DY x.ds.length dy] 38)
      have HB49 := Lib.hid (HS7.out.2.1.trans (hb9.mono HS7.out.2.1.size))
      clear hsp hb8 hb9
      have HSPX9 := Lib.hid (hsp_below HSPX.out HB49.out)
      have KX9 := Lib.hid (KX.out.below HB49.out)
      have HB19 := Lib.hid (HB4.out.trans (HB49.out.mono HB4.out.size))
      have KB9 := Lib.hid (KB.out.below HB19.out)
      have HBW9 := Lib.hid (HB1.out.trans (HB19.out.mono HB1.out.size))
      obtain ⟨s0, s1, s2, s3, s4⟩ := Blk.five KB9.out
      obtain ⟨x0, x1, x2, x3, x4⟩ := Blk.five KX9.out
      have hself : sameB x.i x.t (ints x.vs) (ints x.ls) x.ds i t vs ls ds = true := by
        rw [HXE.out.1, HXE.out.2.1, HXE.out.2.2.1, HXE.out.2.2.2.1, HXE.out.2.2.2.2]
        exact sameB_self _ _ _ _ _
      have HSA := Lib.hid (sameSnap_any x.i x.t VX _ vx (ints x.vs) LX _ lx (ints x.ls) DX _ dx x.ds i t VA vn vc vs LA ln lc ls DA dn dc ds _ HSPX9.out.v HSPX9.out.l (RdI.below HV.out HBW9.out) (RdI.below HL.out HBW9.out) HSPX9.out.d (HD.out.below HBW9.out))
      rw [hself] at HSA
      unfold snapV at HSA
      have HSELF := Lib.hid hself
      clear hself
      go_wp2_with fail
      generalize w8.alloc (.cells #[.int .i64 x.i, .int .i64 x.t, .slice VY x.vs.length vy, .slice LY x.ls.length ly, .slice DY x.ds.length dy] 38) = w9 at *
      generalize w8.heap.size = Y at *
      refine HSA.out.mono ?_
      clear HSA
      rintro e w10 ⟨rfl, hb10⟩
      have HBX := Lib.hid (HBW9.out.trans (hb10.mono HBW9.out.size))
      have HSPY2 := Lib.hid (hsp_below HSPY.out hb10)
      clear s0 s1 s2 s3 s4 x0 x1 x2 x3 x4
      obtain ⟨s0, s1, s2, s3, s4⟩ := Blk.five (KB9.out.below hb10)
      obtain ⟨y0, y1, y2, y3, y4⟩ := Blk.five (KY.out.below hb10)
      clear hb10
      have HSB := Lib.hid (sameSnap_any x.i x.t VY _ vy (ints x.vs) LY _ ly (ints x.ls) DY _ dy x.ds i t VA vn vc vs LA ln lc ls DA dn dc ds w10 HSPY2.out.v HSPY2.out.l (RdI.below HV.out HBX.out) (RdI.below HL.out HBX.out) HSPY2.out.d (HD.out.below HBX.out))
      rw [HSELF.out] at HSB
      unfold snapV at HSB
      go_wp2_with fail
      refine HSB.out.mono ?_
      clear HSB
      rintro e w11 ⟨rfl, hb11⟩
      have HBY := Lib.hid (HBX.out.trans (hb11.mono HBX.out.size))
      clear hb11 s0 s1 s2 s3 s4 y0 y1 y2 y3 y4
      go_wp2
      go_ret
      exact ⟨rfl, HBY.out⟩
end Go.Proofs.YtejphnbhcabchaaGreat.Kp
