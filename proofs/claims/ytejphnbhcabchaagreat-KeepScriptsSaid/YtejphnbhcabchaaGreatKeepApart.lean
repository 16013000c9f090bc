/-
  That the law KeepApart answers true and leaves all memory that was there as it was. Conditions: the arguments can be read.
-/
import Derived.Test.YtejphnbhcabchaaGreatSnapJ
namespace Go.Proofs.YtejphnbhcabchaaGreat.Kp
open Go.RowKit Go.Proofs.YtejphnbhcabchaaGreat.Dk Go.Proofs.YtejphnbhcabchaaGreat.Fld
set_option linter.unusedVariables false

theorem hsp_below {w w' : World} {x : Sp} {VA LA DA : Option Addr} {vc lc dc : Nat} (h : SpAt w x VA LA DA vc lc dc) (hb : Below w.heap.size w w') : SpAt w' x VA LA DA vc lc dc := h.below hb
theorem sameB_self (i t : Int) (vs ls ds : List Int) : sameB i t vs ls ds i t vs ls ds = true := by simp [sameB, eqI]
theorem st0_clm (r : Nat) : Clm (st0 r) := ⟨rfl, rfl, rfl⟩
theorem blk_left {w w' : World} {g b : Nat} {m m' : List Ent} {t : St} (h : Im w g b m t) {B : Nat} {cs : Array Value} {ty : TypeId} (hk : Blk w B cs ty) (hB : B ∉ g :: b :: blks m) (hL : LeftM w g b m m' w') : Blk w' B cs ty := hk.of (hL.1.block B hk.lt hB)
set_option maxRecDepth 100000 in
set_option maxHeartbeats 6400000 in
theorem apart_walk (p q i t : Int) (VA : Option Addr) (vn vc : Nat) (vs : List Int) (LA : Option Addr) (ln lc : Nat) (ls : List Int) (DA : Option Addr) (dn dc : Nat) (ds : List Int) (p2 q2 : Int) (w : World)
    (hv : RdI w VA vn vs) (hl : RdI w LA ln ls) (hd : Rd w DA dn ds) (hD : DA = none → dc = 0) :
    Calls Tryz.prog 7 #[hardV p q, snapV i t (.slice VA vn vc) (.slice LA ln lc) (.slice DA dn dc), hardV p2 q2] w fun e w' => e = .returned (.bool true) ∧ Below w.heap.size w w' := by
  have hm1 := hv.2.1
  have hm2 := hl.2.1
  have hm3 := hd.2.1
  unfold maxLen at hm1 hm2 hm3
  have hb1 := alloc_below w (.cells #[.int .i64 p, .int .i64 q] 32)
  have hb2 := hb1.alloc hb1.size (.cells #[.int .i64 i, .int .i64 t, .slice VA vn vc, .slice LA ln lc, .slice DA dn dc] 38)
  have hb3 := hb2.alloc hb2.size (.cells #[.int .i64 p2, .int .i64 q2] 32)
  have k1 := ((Blk.new w #[.int .i64 p, .int .i64 q] 32).past (.cells #[.int .i64 i, .int .i64 t, .slice VA vn vc, .slice LA ln lc, .slice DA dn dc] 38)).past (.cells #[.int .i64 p2, .int .i64 q2] 32)
  have k2 : Blk (((w.alloc (.cells #[.int .i64 p, .int .i64 q] 32)).alloc (.cells #[.int .i64 i, .int .i64 t, .slice VA vn vc, .slice LA ln lc, .slice DA dn dc] 38)).alloc (.cells #[.int .i64 p2, .int .i64 q2] 32)) (w.heap.size + 1) #[.int .i64 i, .int .i64 t, .slice VA vn vc, .slice LA ln lc, .slice DA dn dc] 38 := by
    have := (Blk.new (w.alloc (.cells #[.int .i64 p, .int .i64 q] 32)) #[.int .i64 i, .int .i64 t, .slice VA vn vc, .slice LA ln lc, .slice DA dn dc] 38).past (.cells #[.int .i64 p2, .int .i64 q2] 32)
    simpa using this
  have k3 : Blk (((w.alloc (.cells #[.int .i64 p, .int .i64 q] 32)).alloc (.cells #[.int .i64 i, .int .i64 t, .slice VA vn vc, .slice LA ln lc, .slice DA dn dc] 38)).alloc (.cells #[.int .i64 p2, .int .i64 q2] 32)) (w.heap.size + 2) #[.int .i64 p2, .int .i64 q2] 32 := by
    have := Blk.new ((w.alloc (.cells #[.int .i64 p, .int .i64 q] 32)).alloc (.cells #[.int .i64 i, .int .i64 t, .slice VA vn vc, .slice LA ln lc, .slice DA dn dc] 38)) #[.int .i64 p2, .int .i64 q2] 32
    simpa using this
  have HB := Lib.hid hb3
  have K1 := Lib.hid k1
  have K2 := Lib.hid k2
  have K3 := Lib.hid k3
  have HV := Lib.hid hv
  have HL := Lib.hid hl
  have HD := Lib.hid hd
  have HDN := Lib.hid hD
  unfold hardV snapV
  clear hb1 hb2 hb3 k1 k2 k3 hv hl hd hD
  go_enter Tryz.func7, Tryz.ntmps7
  go_wp2_with fail
  generalize ((w.alloc (.cells #[.int .i64 p, .int .i64 q] 32)).alloc (.cells #[.int .i64 i, .int .i64 t, .slice VA vn vc, .slice LA ln lc, .slice DA dn dc] 38)).alloc (.cells #[.int .i64 p2, .int .i64 q2] 32) = wb at *
  refine (awake_any wb).mono ?_
  rintro e w1 ⟨rfl, hb1⟩
  have HB1 := Lib.hid (HB.out.trans (hb1.mono HB.out.size))
  have KA := Lib.hid (K1.out.below hb1)
  have KB := Lib.hid (K2.out.below hb1)
  have KC := Lib.hid (K3.out.below hb1)
  clear hb1 HB K1 K2 K3
  have c4 := KB.out.cell 4 _ rfl
  have c2 := KB.out.cell 2 _ rfl
  have c3 := KB.out.cell 3 _ rfl
  by_cases h1 : 60000 < (dn : Int)
  · go_wp2
    go_ret
    exact ⟨rfl, HB1.out⟩
  by_cases h2 : 100 < (vn : Int)
  · go_wp2
    go_ret
    exact ⟨rfl, HB1.out⟩
  by_cases h3 : 100 < (ln : Int)
  · go_wp2
    go_ret
    exact ⟨rfl, HB1.out⟩
  go_wp2_with fail
  refine (new_sn 300000 w1 (by omega) (by omega)).mono ?_
  rintro e w2 ⟨b, g, rfl, hS⟩
  have HS := Lib.hid hS
  have HSH := Lib.hid (saveHard_calm g b [] (st0 300000) p q w2 hS.1 (st0_clm _) (by simp [st0, total]) (by simp [st0]))
  unfold hardV at HSH
  have a0 := (KA.out.below hS.2.1).cell 0 _ rfl
  have a1 := (KA.out.below hS.2.1).cell 1 _ rfl
  clear hS c2 c3 c4
  go_wp2_with fail
  refine HSH.out.mono ?_
  clear HSH
  rintro e w3 (⟨rfl, hL3⟩ | ⟨t3, rfl, hL3, hok3, hW3, hT3, hN3⟩)
  · obtain ⟨m3, hS3⟩ := HS.out.left hL3
    have HS3 := Lib.hid hS3
    have HBW := Lib.hid (HB1.out.trans (hS3.2.1.mono HB1.out.size))
    have HSS := Lib.hid (saveSnap_calm g b m3 (st0 300000) i t VA vn vc vs LA ln lc ls DA dn dc ds w3 hS3.1 (RdI.below HV.out HBW.out) (RdI.below HL.out HBW.out) (HD.out.below HBW.out) HDN.out (st0_clm _) (by simp [st0, total]) (by simp [st0]))
    unfold snapV at HSS
    obtain ⟨s0, s1, s2, s3, s4⟩ := Blk.five (KB.out.below hS3.2.1)
    clear hL3 hS3 a0 a1
    go_wp2_with fail
    refine HSS.out.mono ?_
    clear HSS
    rintro e w4 (⟨rfl, hL4, _⟩ | ⟨x, t4, rfl, hL4, _⟩)
    all_goals
      obtain ⟨m4, hS4⟩ := HS3.out.left hL4
      have HBF := Lib.hid (HB1.out.trans (hS4.2.1.mono HB1.out.size))
      clear hL4 hS4 s0 s1 s2 s3 s4
      go_wp2
      go_ret
      exact ⟨rfl, HBF.out⟩
  · obtain ⟨m3, hS3⟩ := HS.out.left hL3
    have HS3 := Lib.hid hS3
    have HW3 := Lib.hid (And.intro hok3 hW3)
    have hr3 : t3.room = 300000 := hW3.room
    have hT3' : total t3.fs ≤ 26 := by simpa [st0, total] using hT3
    have hN3' : t3.fs.length ≤ 3 := by simpa [st0] using hN3
    have HBW := Lib.hid (HB1.out.trans (hS3.2.1.mono HB1.out.size))
    have HSS := Lib.hid (saveSnap_calm g b m3 t3 i t VA vn vc vs LA ln lc ls DA dn dc ds w3 hS3.1 (RdI.below HV.out HBW.out) (RdI.below HL.out HBW.out) (HD.out.below HBW.out) HDN.out hW3.clm (by omega) (by omega))
    unfold snapV at HSS
    obtain ⟨s0, s1, s2, s3, s4⟩ := Blk.five (KB.out.below hS3.2.1)
    clear hL3 hS3 a0 a1 hok3 hW3 hT3 hN3
    go_wp2_with fail
    refine HSS.out.mono ?_
    clear HSS
    rintro e w4 (⟨rfl, hL4, _⟩ | ⟨x, t4, rfl, hL4, hxo, hW4, hT4, hN4, hxi, hxt, hxv, hxl, hxd⟩)
    · obtain ⟨m4, hS4⟩ := HS3.out.left hL4
      have HBF := Lib.hid (HB1.out.trans (hS4.2.1.mono HB1.out.size))
      clear hL4 hS4 s0 s1 s2 s3 s4
      go_wp2
      go_ret
      exact ⟨rfl, HBF.out⟩
    · obtain ⟨m4, hS4⟩ := HS3.out.left hL4
      have HS4 := Lib.hid hS4
      have hr4 : t4.room = 300000 := hW4.room.trans hr3
      have HW4 := Lib.hid (And.intro hxo hW4)
      have HLH := Lib.hid (loadHard_any g b m4 t4 w4 hS4.1)
      have hld : ldHard t4 = ((p, q), 0) := by
        obtain ⟨m', n', hp, hq, hm', hn'⟩ := hard_nat HW3.out.1
        have h5 := HW3.out.2.it
        rw [hp, hq, Int.toNat_natCast, Int.toNat_natCast] at h5
        rw [hp, hq]
        exact ldHard_it hW4.clm.off hm' hn' (by rw [hW4.oth hardN names_ne.2.2.1 names_ne.2.2.2]; exact h5)
      rw [hld] at HLH
      clear hL4 hS4 s0 s1 s2 s3 s4 hld
      go_wp2_with fail
      refine HLH.out.mono ?_
      rintro e w5 ⟨rfl, hb5⟩
      have hb6 := hb5.alloc hb5.size (.cells #[.int .i64 p, .int .i64 q] 32)
      have KX := Lib.hid (Blk.new w5 #[.int .i64 p, .int .i64 q] 32)
      have HS6 := Lib.hid (HS4.out.below hb6)
      have HXN := Lib.hid (show w5.heap.size ∉ g :: b :: blks m4 from fun h => by
        have := (HS4.out.1.below hb5).lt _ h
        omega)
      clear hb5 hb6 HLH
      have HSK := Lib.hid (saveHard_calm g b m4 t4 p2 q2 _ HS6.out.1 hW4.clm (by omega) (by omega))
      unfold hardV at HSK
      have a0 := (KC.out.below HS6.out.2.1).cell 0 _ rfl
      have a1 := (KC.out.below HS6.out.2.1).cell 1 _ rfl
      have HXE := Lib.hid (And.intro hxi (And.intro hxt (And.intro hxv (And.intro hxl hxd))))
      clear hxi hxt hxv hxl hxd hxo hW4
      go_wp2_with fail
      generalize w5.alloc (.cells #[.int .i64 p, .int .i64 q] 32) = w6 at *
      generalize w5.heap.size = X at *
      refine HSK.out.mono ?_
      clear HSK
      have fin : ∀ w7 t7 (c : Int), Dk.Left w6 g b m4 t7 w7 → ldSnap t7 = (x, 0) → True := fun _ _ _ _ _ => trivial
      clear fin
      have main : ∀ e w7, ((e = Ending.returned (.int .i64 1) ∧ Dk.Left w6 g b m4 t4 w7) ∨ ∃ u : St, e = .returned (.int .i64 0) ∧ Dk.Left w6 g b m4 u w7 ∧ hardOk p2 q2 = true ∧ Wrote hardN (Rc.recd (hardC p2.toNat q2.toNat)) t4 u ∧ total u.fs ≤ total t4.fs + 26 ∧ u.fs.length ≤ t4.fs.length + 3) → ∃ (c : Int) (t7 : St) (m7 : List Ent), e = .returned (.int .i64 c) ∧ Sn w1 w7 g b m7 t7 ∧ Blk w7 X #[.int .i64 p, .int .i64 q] 32 ∧ ldSnap t7 = (x, 0) := by
        rintro e w7 (⟨he, hL7⟩ | ⟨t7, he, hL7, _, hW7, _⟩)
        · obtain ⟨m7, hI7, hF7⟩ := hL7
          refine ⟨1, t4, m7, he, ⟨hI7, hF7.1.to_below HS6.out.2.1 HS6.out.2.2, ?_⟩, blk_left HS6.out.1 KX.out HXN.out hF7, ldSnap_it HW4.out.2.clm.off HW4.out.1 HW4.out.2.it⟩
          intro j hj
          simp only [List.mem_cons] at hj
          rcases hj with rfl | rfl | hj
          · exact HS6.out.2.2 _ (by simp)
          · exact HS6.out.2.2 _ (by simp)
          · rcases hF7.2 j hj with h4 | h4
            · exact HS6.out.2.2 j (by simp [h4])
            · exact Nat.le_trans HS6.out.2.1.size h4
        · obtain ⟨m7, hI7, hF7⟩ := hL7
          refine ⟨0, t7, m7, he, ⟨hI7, hF7.1.to_below HS6.out.2.1 HS6.out.2.2, ?_⟩, blk_left HS6.out.1 KX.out HXN.out hF7, ldSnap_it hW7.clm.off HW4.out.1 (by rw [hW7.oth snapN names_ne.1 names_ne.2.1]; exact HW4.out.2.it)⟩
          intro j hj
          simp only [List.mem_cons] at hj
          rcases hj with rfl | rfl | hj
          · exact HS6.out.2.2 _ (by simp)
          · exact HS6.out.2.2 _ (by simp)
          · rcases hF7.2 j hj with h4 | h4
            · exact HS6.out.2.2 j (by simp [h4])
            · exact Nat.le_trans HS6.out.2.1.size h4
      have HMAIN := Lib.hid main
      clear main
      intro e w7 hh
      obtain ⟨c7, t7, m7, rfl, hS7, kx7, hls⟩ := HMAIN.out e w7 hh
      have HLS := Lib.hid (loadSnap_any g b m7 t7 w7 hS7.1)
      rw [hls] at HLS
      have HS7 := Lib.hid hS7
      have KX7 := Lib.hid kx7
      clear hh hS7 kx7 hls HMAIN a0 a1 KX
      go_wp2_with fail
      refine HLS.out.mono ?_
      clear HLS
      rintro e w8 ⟨VY, LY, DY, vy, ly, dy, rfl, hsp, hb8, _, _⟩
      unfold spV snapV
      have HSP := Lib.hid hsp
      have HS8 := Lib.hid (HS7.out.below hb8)
      have KX8 := Lib.hid (KX7.out.below hb8)
      clear hsp hb8
      simp only at HSP ⊢
      have hb9 := alloc_below w8 (.cells #[.int .i64 x.i, .int .i64 x.t, .slice VY x.vs.length vy, .slice LY x.ls.length ly, .slice DY x.ds.length dy] 38)
      have KY := Lib.hid (Blk.new w8 #[.int .i64 x.i, .int .i64 x.t, .slice VY x.vs.length vy, .slice LY x.ls.length ly, .slice DY x.ds.length dy] 38)
      have HS9 := Lib.hid (HS8.out.below hb9)
      have KX9 := Lib.hid (KX8.out.below hb9)
      have HSP9 := Lib.hid (hsp_below HSP.out hb9)
      clear hb9
      obtain ⟨y0, y1, y2, y3, y4⟩ := Blk.five KY.out
      have HBW9 := Lib.hid (HB1.out.trans (HS9.out.2.1.mono HB1.out.size))
      obtain ⟨s0, s1, s2, s3, s4⟩ := Blk.five (KB.out.below HS9.out.2.1)
      have HSA := Lib.hid (sameSnap_any x.i x.t VY _ vy (ints x.vs) LY _ ly (ints x.ls) DY _ dy x.ds i t VA vn vc vs LA ln lc ls DA dn dc ds _ HSP9.out.v HSP9.out.l (RdI.below HV.out HBW9.out) (RdI.below HL.out HBW9.out) HSP9.out.d (HD.out.below HBW9.out))
      rw [show sameB x.i x.t (ints x.vs) (ints x.ls) x.ds i t vs ls ds = true by rw [HXE.out.1, HXE.out.2.1, HXE.out.2.2.1, HXE.out.2.2.2.1, HXE.out.2.2.2.2]; exact sameB_self _ _ _ _ _] at HSA
      unfold snapV at HSA
      go_wp2_with fail
      generalize w8.alloc (.cells #[.int .i64 x.i, .int .i64 x.t, .slice VY x.vs.length vy, .slice LY x.ls.length ly, .slice DY x.ds.length dy] 38) = w9 at *
      refine HSA.out.mono ?_
      clear HSA
      rintro e w10 ⟨rfl, hb10⟩
      have HBX := Lib.hid (HBW9.out.trans (hb10.mono HBW9.out.size))
      have x0 := (KX9.out.below hb10).cell 0 _ rfl
      have x1 := (KX9.out.below hb10).cell 1 _ rfl
      have z0 := ((KA.out.below HS9.out.2.1).below hb10).cell 0 _ rfl
      have z1 := ((KA.out.below HS9.out.2.1).below hb10).cell 1 _ rfl
      clear hb10 y0 y1 y2 y3 y4 s0 s1 s2 s3 s4
      go_wp2
      go_ret
      exact ⟨rfl, HBX.out⟩
end Go.Proofs.YtejphnbhcabchaaGreat.Kp
