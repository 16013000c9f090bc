/-
  That the law KeepAtomic answers true and leaves all memory that was there as it was. Conditions: the arguments can be read, and n is an int.
-/
import Derived.Test.YtejphnbhcabchaaGreatKeepAt
import Derived.Test.YtejphnbhcabchaaGreatKeepOne
namespace Go.Proofs.YtejphnbhcabchaaGreat.Kp
open Go.RowKit Go.Proofs.YtejphnbhcabchaaGreat.Dk Go.Proofs.YtejphnbhcabchaaGreat.Fld
set_option linter.unusedVariables false

theorem Blk.stp {w : World} {B : Nat} {a b c d e f g h i j k l : Value} {ty : TypeId} (H : Blk w B #[a, b, c, d, e, f, g, h, i, j, k, l] ty) :
    w.cell? ⟨B, 3, none⟩ = some d ∧ w.cell? ⟨B, 4, none⟩ = some e ∧ w.cell? ⟨B, 5, none⟩ = some f ∧ w.cell? ⟨B, 6, none⟩ = some g ∧ w.cell? ⟨B, 7, none⟩ = some h ∧ w.cell? ⟨B, 8, none⟩ = some i ∧ w.cell? ⟨B, 9, none⟩ = some j ∧ w.cell? ⟨B, 10, none⟩ = some k :=
  ⟨H.cell 3 _ rfl, H.cell 4 _ rfl, H.cell 5 _ rfl, H.cell 6 _ rfl, H.cell 7 _ rfl, H.cell 8 _ rfl, H.cell 9 _ rfl, H.cell 10 _ rfl⟩
theorem snap_sp {i t : Int} {vs ls ds : List Int} {dn : Nat} (hok : snapOk i t vs ls dn = true) (hd : ds.length = dn) : ∃ x : Sp, x.ok = true ∧ i = x.i ∧ t = x.t ∧ vs = ints x.vs ∧ ls = ints x.ls ∧ ds = x.ds := by
  obtain ⟨a, c, v, l, e1, e2, e3, e4, _⟩ := snap_nat hok
  refine ⟨⟨a, c, v, l, ds⟩, ?_, e1, e2, e3, e4, rfl⟩
  unfold Sp.ok
  simp only
  rw [hd, ← e1, ← e2, ← e3, ← e4]
  exact hok
theorem saveSnap_sp (g b : Nat) (m : List Ent) (t : St) (x : Sp) (i t' : Int) (VA : Option Addr) (vn vc : Nat) (vs : List Int) (LA : Option Addr) (ln lc : Nat) (ls : List Int) (DA : Option Addr) (dn dc : Nat) (ds : List Int) (w : World) (h : Im w g b m t) (hv : RdI w VA vn vs) (hl : RdI w LA ln ls) (hd : Rd w DA dn ds) (hD : DA = none → dc = 0)
    (hi : i = x.i) (ht : t' = x.t) (hvs : vs = ints x.vs) (hls : ls = ints x.ls) (hds : ds = x.ds) (hm : t.fs.length ≤ 900000) :
    Calls Tryz.prog 13 #[.pointer (some ⟨g, 0, none⟩), snapV i t' (.slice VA vn vc) (.slice LA ln lc) (.slice DA dn dc)] w (Did w g b m (stSnap x t)) := by
  subst hi ht hvs hls hds
  have hvn : x.vs.length = vn := by rw [← ints_len]; exact hv.1
  have hln : x.ls.length = ln := by rw [← ints_len]; exact hl.1
  have hdn : x.ds.length = dn := hd.1
  subst hvn hln hdn
  exact saveSnap_any g b m t x VA LA DA vc lc dc w h ⟨hv, hl, hd, hD⟩ hm
theorem arm_on {t : St} (h : Clm t) (n : Int) (hn : 0 ≤ n) : On (stArm n t).2 ∧ (stArm n t).2.fs = t.fs ∧ (stArm n t).2.room = t.room := by
  unfold stArm
  rw [if_neg (by omega)]
  exact ⟨⟨h.1, h.2⟩, rfl, rfl⟩
set_option maxRecDepth 100000 in
set_option maxHeartbeats 12800000 in
theorem atomic_walk (a b : Stp) (n : Int) (w : World) (ha : a.Ok w) (hb : b.Ok w) (hn : n ≤ 9223372036854775807) :
    Calls Tryz.prog 5 #[stpV a, stpV b, .int .i64 n] w fun e w' => e = .returned (.bool true) ∧ Below w.heap.size w w' := by
  obtain ⟨d1, n1, s1, p, q, i, t, VA, vn, vc, vs, LA, ln, lc, ls, DA, dn, dc, ds, KA1, kn1, kc1, ks1, BA, bn, bc, bs1⟩ := a
  obtain ⟨d2, n2, s2, p2, q2, j, u, VB, vm, vd, us, LB, lm, ld, ks2, DB, dm, dd, es, KA, kn, kc, ks, BB, bm, bd, bs2⟩ := b
  have HVA := Lib.hid (show RdI w VA vn vs from ha.v)
  have HLA := Lib.hid (show RdI w LA ln ls from ha.l)
  have HDA := Lib.hid (show Rd w DA dn ds from ha.d)
  have HDAN := Lib.hid (show DA = none → dc = 0 from ha.dz)
  have HVB := Lib.hid (show RdI w VB vm us from hb.v)
  have HLB := Lib.hid (show RdI w LB lm ks2 from hb.l)
  have HDB := Lib.hid (show Rd w DB dm es from hb.d)
  have HDBN := Lib.hid (show DB = none → dd = 0 from hb.dz)
  have HK := Lib.hid (show RdI w KA kn ks from hb.k)
  have hm1 := HDA.out.2.1
  have hm2 := HDB.out.2.1
  unfold maxLen at hm1 hm2
  have HN := Lib.hid hn
  clear ha hb hn
  unfold stpV Stp.cells
  have hb1 := alloc_below w (.cells #[.int .i64 d1, .int .i64 n1, .string s1, .int .i64 p, .int .i64 q, .int .i64 i, .int .i64 t, .slice VA vn vc, .slice LA ln lc, .slice DA dn dc, .slice KA1 kn1 kc1, .slice BA bn bc] 40)
  have hb2 := hb1.alloc hb1.size (.cells #[.int .i64 d2, .int .i64 n2, .string s2, .int .i64 p2, .int .i64 q2, .int .i64 j, .int .i64 u, .slice VB vm vd, .slice LB lm ld, .slice DB dm dd, .slice KA kn kc, .slice BB bm bd] 40)
  have k1 := (Blk.new w #[.int .i64 d1, .int .i64 n1, .string s1, .int .i64 p, .int .i64 q, .int .i64 i, .int .i64 t, .slice VA vn vc, .slice LA ln lc, .slice DA dn dc, .slice KA1 kn1 kc1, .slice BA bn bc] 40).past (.cells #[.int .i64 d2, .int .i64 n2, .string s2, .int .i64 p2, .int .i64 q2, .int .i64 j, .int .i64 u, .slice VB vm vd, .slice LB lm ld, .slice DB dm dd, .slice KA kn kc, .slice BB bm bd] 40)
  have k2 : Blk ((w.alloc (.cells #[.int .i64 d1, .int .i64 n1, .string s1, .int .i64 p, .int .i64 q, .int .i64 i, .int .i64 t, .slice VA vn vc, .slice LA ln lc, .slice DA dn dc, .slice KA1 kn1 kc1, .slice BA bn bc] 40)).alloc (.cells #[.int .i64 d2, .int .i64 n2, .string s2, .int .i64 p2, .int .i64 q2, .int .i64 j, .int .i64 u, .slice VB vm vd, .slice LB lm ld, .slice DB dm dd, .slice KA kn kc, .slice BB bm bd] 40)) (w.heap.size + 1) #[.int .i64 d2, .int .i64 n2, .string s2, .int .i64 p2, .int .i64 q2, .int .i64 j, .int .i64 u, .slice VB vm vd, .slice LB lm ld, .slice DB dm dd, .slice KA kn kc, .slice BB bm bd] 40 := by
    have := Blk.new (w.alloc (.cells #[.int .i64 d1, .int .i64 n1, .string s1, .int .i64 p, .int .i64 q, .int .i64 i, .int .i64 t, .slice VA vn vc, .slice LA ln lc, .slice DA dn dc, .slice KA1 kn1 kc1, .slice BA bn bc] 40)) #[.int .i64 d2, .int .i64 n2, .string s2, .int .i64 p2, .int .i64 q2, .int .i64 j, .int .i64 u, .slice VB vm vd, .slice LB lm ld, .slice DB dm dd, .slice KA kn kc, .slice BB bm bd] 40
    simpa using this
  have HB := Lib.hid hb2
  have K1 := Lib.hid k1
  have K2 := Lib.hid k2
  clear hb1 hb2 k1 k2
  go_enter Tryz.func5, Tryz.ntmps5
  go_wp2_with fail
  generalize (w.alloc (.cells #[.int .i64 d1, .int .i64 n1, .string s1, .int .i64 p, .int .i64 q, .int .i64 i, .int .i64 t, .slice VA vn vc, .slice LA ln lc, .slice DA dn dc, .slice KA1 kn1 kc1, .slice BA bn bc] 40)).alloc (.cells #[.int .i64 d2, .int .i64 n2, .string s2, .int .i64 p2, .int .i64 q2, .int .i64 j, .int .i64 u, .slice VB vm vd, .slice LB lm ld, .slice DB dm dd, .slice KA kn kc, .slice BB bm bd] 40) = wb at *
  refine (awake_any wb).mono ?_
  rintro e w1 ⟨rfl, hb1⟩
  have HB1 := Lib.hid (HB.out.trans (hb1.mono HB.out.size))
  have KX1 := Lib.hid (K1.out.below hb1)
  have KX2 := Lib.hid (K2.out.below hb1)
  clear hb1 HB K1 K2
  go_wp2_with fail
  refine (new_sn 200000 w1 (by omega) (by omega)).mono ?_
  rintro e w2 ⟨b, g, rfl, hS⟩
  have S2 := Lib.hid hS
  clear hS
  obtain ⟨_, _, _, _, _, _, a9, _⟩ := Blk.stp (KX1.out.below S2.out.2.1)
  obtain ⟨_, _, _, _, _, _, b9, _⟩ := Blk.stp (KX2.out.below S2.out.2.1)
  by_cases hdn : 60000 < (dn : Int)
  · go_wp2
    go_ret
    exact ⟨rfl, (HB1.out.trans (S2.out.2.1.mono HB1.out.size))⟩
  by_cases hdm : 60000 < (dm : Int)
  · go_wp2
    go_ret
    exact ⟨rfl, (HB1.out.trans (S2.out.2.1.mono HB1.out.size))⟩
  obtain ⟨a3, a4, _, _, _, _, _, _⟩ := Blk.stp (KX1.out.below S2.out.2.1)
  have H1 := Lib.hid (rightHard_any p q w2)
  unfold hardV at H1
  cases hA : hardOk p q with
  | false =>
    rw [hA] at H1
    go_wp2_with fail
    refine H1.out.mono ?_
    rintro e w3 ⟨rfl, hb⟩
    have S3 := Lib.hid (S2.out.below hb)
    clear hb H1
    clear a9 b9
    clear a3 a4
    obtain ⟨_, _, a5, a6, a7, a8, a9, _⟩ := Blk.stp (KX1.out.below S3.out.2.1)
    have H1 := Lib.hid (rightSnap_any i t VA vn vc vs LA ln lc ls DA dn dc w3 (RdI.below HVA.out (HB1.out.trans (S3.out.2.1.mono HB1.out.size))) (RdI.below HLA.out (HB1.out.trans (S3.out.2.1.mono HB1.out.size))))
    unfold snapV at H1
    cases hX : snapOk i t vs ls dn with
    | false =>
      rw [hX] at H1
      go_wp2_with fail
      refine H1.out.mono ?_
      rintro e w13 ⟨rfl, hb⟩
      have S13 := Lib.hid (S3.out.below hb)
      clear hb H1
      clear a5 a6 a7 a8 a9
      go_wp2
      go_ret
      exact ⟨rfl, (HB1.out.trans (S13.out.2.1.mono HB1.out.size))⟩
    | true =>
      rw [hX] at H1
      go_wp2_with fail
      refine H1.out.mono ?_
      rintro e w13 ⟨rfl, hb⟩
      have S13 := Lib.hid (S3.out.below hb)
      clear hb H1
      clear a5 a6 a7 a8 a9
      obtain ⟨_, _, b5, b6, b7, b8, b9, _⟩ := Blk.stp (KX2.out.below S13.out.2.1)
      have H1 := Lib.hid (rightSnap_any j u VB vm vd us LB lm ld ks2 DB dm dd w13 (RdI.below HVB.out (HB1.out.trans (S13.out.2.1.mono HB1.out.size))) (RdI.below HLB.out (HB1.out.trans (S13.out.2.1.mono HB1.out.size))))
      unfold snapV at H1
      cases hY : snapOk j u us ks2 dm with
      | false =>
        rw [hY] at H1
        go_wp2_with fail
        refine H1.out.mono ?_
        rintro e w23 ⟨rfl, hb⟩
        have S23 := Lib.hid (S13.out.below hb)
        clear hb H1
        clear b5 b6 b7 b8 b9
        go_wp2
        go_ret
        exact ⟨rfl, (HB1.out.trans (S23.out.2.1.mono HB1.out.size))⟩
      | true =>
        rw [hY] at H1
        go_wp2_with fail
        refine H1.out.mono ?_
        rintro e w23 ⟨rfl, hb⟩
        have S23 := Lib.hid (S13.out.below hb)
        clear hb H1
        clear b5 b6 b7 b8 b9
        go_wp2
        go_ret
        exact ⟨rfl, (HB1.out.trans (S23.out.2.1.mono HB1.out.size))⟩
  | true =>
  rw [hA] at H1
  go_wp2_with fail
  refine H1.out.mono ?_
  rintro e w3 ⟨rfl, hb⟩
  have S3 := Lib.hid (S2.out.below hb)
  clear hb H1
  clear a9 b9
  clear a3 a4
  obtain ⟨b3, b4, _, _, _, _, _, _⟩ := Blk.stp (KX2.out.below S3.out.2.1)
  have H1 := Lib.hid (rightHard_any p2 q2 w3)
  unfold hardV at H1
  cases hB : hardOk p2 q2 with
  | false =>
    rw [hB] at H1
    go_wp2_with fail
    refine H1.out.mono ?_
    rintro e w4 ⟨rfl, hb⟩
    have S4 := Lib.hid (S3.out.below hb)
    clear hb H1
    clear b3 b4
    obtain ⟨_, _, a5, a6, a7, a8, a9, _⟩ := Blk.stp (KX1.out.below S4.out.2.1)
    have H1 := Lib.hid (rightSnap_any i t VA vn vc vs LA ln lc ls DA dn dc w4 (RdI.below HVA.out (HB1.out.trans (S4.out.2.1.mono HB1.out.size))) (RdI.below HLA.out (HB1.out.trans (S4.out.2.1.mono HB1.out.size))))
    unfold snapV at H1
    cases hX : snapOk i t vs ls dn with
    | false =>
      rw [hX] at H1
      go_wp2_with fail
      refine H1.out.mono ?_
      rintro e w14 ⟨rfl, hb⟩
      have S14 := Lib.hid (S4.out.below hb)
      clear hb H1
      clear a5 a6 a7 a8 a9
      go_wp2
      go_ret
      exact ⟨rfl, (HB1.out.trans (S14.out.2.1.mono HB1.out.size))⟩
    | true =>
      rw [hX] at H1
      go_wp2_with fail
      refine H1.out.mono ?_
      rintro e w14 ⟨rfl, hb⟩
      have S14 := Lib.hid (S4.out.below hb)
      clear hb H1
      clear a5 a6 a7 a8 a9
      obtain ⟨_, _, b5, b6, b7, b8, b9, _⟩ := Blk.stp (KX2.out.below S14.out.2.1)
      have H1 := Lib.hid (rightSnap_any j u VB vm vd us LB lm ld ks2 DB dm dd w14 (RdI.below HVB.out (HB1.out.trans (S14.out.2.1.mono HB1.out.size))) (RdI.below HLB.out (HB1.out.trans (S14.out.2.1.mono HB1.out.size))))
      unfold snapV at H1
      cases hY : snapOk j u us ks2 dm with
      | false =>
        rw [hY] at H1
        go_wp2_with fail
        refine H1.out.mono ?_
        rintro e w24 ⟨rfl, hb⟩
        have S24 := Lib.hid (S14.out.below hb)
        clear hb H1
        clear b5 b6 b7 b8 b9
        go_wp2
        go_ret
        exact ⟨rfl, (HB1.out.trans (S24.out.2.1.mono HB1.out.size))⟩
      | true =>
        rw [hY] at H1
        go_wp2_with fail
        refine H1.out.mono ?_
        rintro e w24 ⟨rfl, hb⟩
        have S24 := Lib.hid (S14.out.below hb)
        clear hb H1
        clear b5 b6 b7 b8 b9
        go_wp2
        go_ret
        exact ⟨rfl, (HB1.out.trans (S24.out.2.1.mono HB1.out.size))⟩
  | true =>
  rw [hB] at H1
  go_wp2_with fail
  refine H1.out.mono ?_
  rintro e w4 ⟨rfl, hb⟩
  have S4 := Lib.hid (S3.out.below hb)
  clear hb H1
  clear b3 b4
  obtain ⟨_, _, a5, a6, a7, a8, a9, _⟩ := Blk.stp (KX1.out.below S4.out.2.1)
  have H1 := Lib.hid (rightSnap_any i t VA vn vc vs LA ln lc ls DA dn dc w4 (RdI.below HVA.out (HB1.out.trans (S4.out.2.1.mono HB1.out.size))) (RdI.below HLA.out (HB1.out.trans (S4.out.2.1.mono HB1.out.size))))
  unfold snapV at H1
  cases hX : snapOk i t vs ls dn with
  | false =>
    rw [hX] at H1
    go_wp2_with fail
    refine H1.out.mono ?_
    rintro e w5 ⟨rfl, hb⟩
    have S5 := Lib.hid (S4.out.below hb)
    clear hb H1
    clear a5 a6 a7 a8 a9
    go_wp2
    go_ret
    exact ⟨rfl, (HB1.out.trans (S5.out.2.1.mono HB1.out.size))⟩
  | true =>
  rw [hX] at H1
  go_wp2_with fail
  refine H1.out.mono ?_
  rintro e w5 ⟨rfl, hb⟩
  have S5 := Lib.hid (S4.out.below hb)
  clear hb H1
  clear a5 a6 a7 a8 a9
  obtain ⟨_, _, b5, b6, b7, b8, b9, _⟩ := Blk.stp (KX2.out.below S5.out.2.1)
  have H1 := Lib.hid (rightSnap_any j u VB vm vd us LB lm ld ks2 DB dm dd w5 (RdI.below HVB.out (HB1.out.trans (S5.out.2.1.mono HB1.out.size))) (RdI.below HLB.out (HB1.out.trans (S5.out.2.1.mono HB1.out.size))))
  unfold snapV at H1
  cases hY : snapOk j u us ks2 dm with
  | false =>
    rw [hY] at H1
    go_wp2_with fail
    refine H1.out.mono ?_
    rintro e w6 ⟨rfl, hb⟩
    have S6 := Lib.hid (S5.out.below hb)
    clear hb H1
    clear b5 b6 b7 b8 b9
    go_wp2
    go_ret
    exact ⟨rfl, (HB1.out.trans (S6.out.2.1.mono HB1.out.size))⟩
  | true =>
  rw [hY] at H1
  go_wp2_with fail
  refine H1.out.mono ?_
  rintro e w6 ⟨rfl, hb⟩
  have S6 := Lib.hid (S5.out.below hb)
  clear hb H1
  clear b5 b6 b7 b8 b9
  by_cases hn0 : n < 0
  · go_wp2
    go_ret
    exact ⟨rfl, (HB1.out.trans (S6.out.2.1.mono HB1.out.size))⟩
  obtain ⟨x, hxo, hx1, hx2, hx3, hx4, hx5⟩ := snap_sp hX HDA.out.1
  obtain ⟨y, hyo, hy1, hy2, hy3, hy4, hy5⟩ := snap_sp hY HDB.out.1
  have HXO := Lib.hid hxo
  have HYO := Lib.hid hyo
  have HX := Lib.hid (And.intro hx1 (And.intro hx2 (And.intro hx3 (And.intro hx4 hx5))))
  have HY := Lib.hid (And.intro hy1 (And.intro hy2 (And.intro hy3 (And.intro hy4 hy5))))
  have HOA := Lib.hid hA
  have HOB := Lib.hid hB
  clear hxo hyo hx1 hx2 hx3 hx4 hx5 hy1 hy2 hy3 hy4 hy5 hA hB hX hY
  obtain ⟨t1, q1, W1, T1⟩ := hard_writes S6.out.1.good (st0_clm _) HOA.out (by simp [st0, total])
  have hT1 : total t1.fs ≤ 26 := by simpa [st0, total] using T1
  have hr1 : t1.room = 200000 := W1.room
  have hl1 : t1.fs.length ≤ 3 := by
    have h8 := write_le hardN (Rc.recd (hardC p.toNat q.toNat)) (st0 200000)
    have e2 : stHard p q (st0 200000) = stWrite hardN (Rc.recd (hardC p.toNat q.toNat)) (st0 200000) := by unfold stHard; rw [if_pos HOA.out]
    rw [← e2, q1] at h8
    simpa [st0] using h8
  have HW1 := Lib.hid W1
  have H1 := Lib.hid (saveHard_any g b [] (st0 200000) p q w6 S6.out.1 (by simp [st0]))
  rw [q1] at H1
  unfold hardV at H1
  obtain ⟨a3, a4, _, _, _, _, _, _⟩ := Blk.stp (KX1.out.below S6.out.2.1)
  clear q1 W1 T1
  go_wp2_with fail
  refine H1.out.mono ?_
  rintro e w7 ⟨rfl, hL⟩
  obtain ⟨m7, hS7⟩ := S6.out.left hL
  have S7 := Lib.hid (show Sn w1 w7 g b m7 t1 from hS7)
  clear hL hS7 H1 a3 a4
  obtain ⟨t2, q2', W2, T2⟩ := snap_writes S7.out.1.good HW1.out.clm HXO.out (by rw [← HX.out.2.2.2.2]; exact HDA.out.2.2.1) (by omega)
  have hT2 : total t2.fs ≤ 60534 := by omega
  have hr2 : t2.room = 200000 := W2.room.trans hr1
  have hl2 : t2.fs.length ≤ 6 := by
    have h8 := write_le snapN (Rc.recd x.code) t1
    have e2 : stSnap x t1 = stWrite snapN (Rc.recd x.code) t1 := by unfold stSnap; rw [if_pos HXO.out]
    rw [← e2, q2'] at h8
    simp only at h8
    omega
  have HF2 := Lib.hid (show isF hardN (Rc.recd (hardC p.toNat q.toNat)) t2 ∧ isF snapN (Rc.recd x.code) t2 ∧ Clm t2 from ⟨by unfold isF; rw [W2.oth hardN names_ne.2.2.1 names_ne.2.2.2]; exact HW1.out.it, W2.it, W2.clm⟩)
  have H1 := Lib.hid (saveSnap_sp g b m7 t1 x i t VA vn vc vs LA ln lc ls DA dn dc ds w7 S7.out.1 (RdI.below HVA.out (HB1.out.trans (S7.out.2.1.mono HB1.out.size))) (RdI.below HLA.out (HB1.out.trans (S7.out.2.1.mono HB1.out.size))) (HDA.out.below (HB1.out.trans (S7.out.2.1.mono HB1.out.size))) HDAN.out HX.out.1 HX.out.2.1 HX.out.2.2.1 HX.out.2.2.2.1 HX.out.2.2.2.2 (by omega))
  rw [q2'] at H1
  unfold snapV at H1
  obtain ⟨_, _, a5, a6, a7, a8, a9, _⟩ := Blk.stp (KX1.out.below S7.out.2.1)
  clear q2' W2 T2 HW1
  go_wp2_with fail
  refine H1.out.mono ?_
  rintro e w8 ⟨rfl, hL⟩
  obtain ⟨m8, hS8⟩ := S7.out.left hL
  have S8 := Lib.hid (show Sn w1 w8 g b m8 t2 from hS8)
  clear hL hS8 H1 a5 a6 a7 a8 a9
  go_wp2_with fail
  refine (arm_sn S8.out n HN.out).mono ?_
  rintro e w9 ⟨rfl, m9, hS9⟩
  have S9 := Lib.hid hS9
  clear hS9
  have HO3 := Lib.hid (arm_on HF2.out.2.2 n (by omega))
  generalize ht3 : (stArm n t2).2 = t3 at *
  have HF3 := Lib.hid (show isF hardN (Rc.recd (hardC p.toNat q.toNat)) t3 ∧ isF snapN (Rc.recd x.code) t3 from ⟨by unfold isF; rw [HO3.out.2.1]; exact HF2.out.1, by unfold isF; rw [HO3.out.2.1]; exact HF2.out.2.1⟩)
  have hr3 : t3.room = 200000 := HO3.out.2.2.trans hr2
  have hT3 : total t3.fs ≤ 60534 := by rw [HO3.out.2.1]; exact hT2
  have hl3 : t3.fs.length ≤ 6 := by rw [HO3.out.2.1]; exact hl2
  obtain ⟨e1, t4, q4, hr4, hT4, hl4, hs4, how4⟩ := at_first S9.out.1.good HO3.out.1 HOB.out HF3.out.1 HF3.out.2 (by omega)
  have HH4 := Lib.hid (And.intro hs4 how4)
  have H1 := Lib.hid (saveHard_any g b m9 t3 p2 q2 w9 S9.out.1 (by omega))
  rw [q4] at H1
  unfold hardV at H1
  obtain ⟨b3, b4, _, _, _, _, _, _⟩ := Blk.stp (KX2.out.below S9.out.2.1)
  clear q4 hs4 how4
  go_wp2_with fail
  refine H1.out.mono ?_
  rintro e w10 ⟨rfl, hL⟩
  obtain ⟨m10, hS10⟩ := S9.out.left hL
  have S10 := Lib.hid (show Sn w1 w10 g b m10 t4 from hS10)
  clear hL hS10 H1 b3 b4
  obtain ⟨e2, t5, q5, hl5, hF5⟩ := at_second S10.out.1.good HYO.out (by rw [← HY.out.2.2.2.2]; exact HDB.out.2.2.1) HH4.out.1 (by omega) HH4.out.2
  have HF5 := Lib.hid hF5
  have H1 := Lib.hid (saveSnap_sp g b m10 t4 y j u VB vm vd us LB lm ld ks2 DB dm dd es w10 S10.out.1 (RdI.below HVB.out (HB1.out.trans (S10.out.2.1.mono HB1.out.size))) (RdI.below HLB.out (HB1.out.trans (S10.out.2.1.mono HB1.out.size))) (HDB.out.below (HB1.out.trans (S10.out.2.1.mono HB1.out.size))) HDBN.out HY.out.1 HY.out.2.1 HY.out.2.2.1 HY.out.2.2.2.1 HY.out.2.2.2.2 (by omega))
  rw [q5] at H1
  unfold snapV at H1
  obtain ⟨_, _, b5, b6, b7, b8, b9, _⟩ := Blk.stp (KX2.out.below S10.out.2.1)
  clear q5 hF5 HH4
  go_wp2_with fail
  refine H1.out.mono ?_
  rintro e w11 ⟨rfl, hL⟩
  obtain ⟨m11, hS11⟩ := S10.out.left hL
  have S11 := Lib.hid (show Sn w1 w11 g b m11 t5 from hS11)
  clear hL hS11 H1 b5 b6 b7 b8 b9
  have hbw := (HB1.out.trans (S11.out.2.1.mono HB1.out.size))
  have H1 := Lib.hid (crash_sn S11.out KA kn kc ks (by omega) (RdI.below HK.out hbw) (fun h0 a ha hm => by
    have h5 := nums_block HK.out h0 a ha
    have h6 := S11.out.2.2 _ hm
    have h7 := HB1.out.size
    omega))
  clear hbw
  obtain ⟨_, _, _, _, _, _, _, b10⟩ := Blk.stp (KX2.out.below S11.out.2.1)
  go_wp2_with fail
  refine H1.out.mono ?_
  rintro e w12 ⟨rfl, m12, hS12⟩
  have S12 := Lib.hid hS12
  obtain ⟨hp, hq, z, ld1, ld2, hfin⟩ := at_end (ks := ks) hS12.1.good HOA.out HOB.out HXO.out HYO.out HF5.out
  have HFIN := Lib.hid hfin
  have HLD2 := Lib.hid ld2
  clear hS12 H1 b10 hfin ld2
  generalize stCrash ks t5 = t6 at *
  have H1 := Lib.hid (loadHard_any g b m12 t6 w12 S12.out.1)
  rw [ld1] at H1
  clear ld1
  go_wp2_with fail
  refine H1.out.mono ?_
  rintro e w13 ⟨rfl, hb⟩
  have hb' := hb.alloc hb.size (.cells #[.int .i64 hp, .int .i64 hq] 32)
  have KH := Lib.hid (Blk.new w13 #[.int .i64 hp, .int .i64 hq] 32)
  have S14 := Lib.hid (S12.out.below hb')
  clear hb hb' H1
  have H1 := Lib.hid (loadSnap_any g b m12 t6 _ S14.out.1)
  rw [HLD2.out] at H1
  go_wp2_with fail
  generalize w13.alloc (.cells #[.int .i64 hp, .int .i64 hq] 32) = w14 at *
  generalize w13.heap.size = X at *
  refine H1.out.mono ?_
  clear H1
  rintro e w15 ⟨VZ, LZ, DZ, vz, lz, dz, rfl, hsp, hb, _, _⟩
  unfold spV snapV
  simp only at hsp ⊢
  have hb' := hb.alloc hb.size (.cells #[.int .i64 z.i, .int .i64 z.t, .slice VZ z.vs.length vz, .slice LZ z.ls.length lz, .slice DZ z.ds.length dz] 38)
  have HSPZ := Lib.hid (hsp_below hsp (alloc_below w15 (.cells #[.int .i64 z.i, .int .i64 z.t, .slice VZ z.vs.length vz, .slice LZ z.ls.length lz, .slice DZ z.ds.length dz] 38)))
  have KZ := Lib.hid (Blk.new w15 #[.int .i64 z.i, .int .i64 z.t, .slice VZ z.vs.length vz, .slice LZ z.ls.length lz, .slice DZ z.ds.length dz] 38)
  have S16 := Lib.hid (S14.out.below hb')
  have KH16 := Lib.hid (KH.out.below hb')
  clear hsp hb hb' KH
  have hbw := (HB1.out.trans (S16.out.2.1.mono HB1.out.size))
  have H1 := Lib.hid (sameSnap_any z.i z.t VZ _ vz (ints z.vs) LZ _ lz (ints z.ls) DZ _ dz z.ds i t VA vn vc vs LA ln lc ls DA dn dc ds _ HSPZ.out.v HSPZ.out.l (RdI.below HVA.out hbw) (RdI.below HLA.out hbw) HSPZ.out.d (HDA.out.below hbw))
  unfold snapV at H1
  clear hbw
  obtain ⟨z0, z1, z2, z3, z4⟩ := Blk.five KZ.out
  obtain ⟨_, _, a5, a6, a7, a8, a9, _⟩ := Blk.stp (KX1.out.below S16.out.2.1)
  go_wp2_with fail
  generalize w15.alloc (.cells #[.int .i64 z.i, .int .i64 z.t, .slice VZ z.vs.length vz, .slice LZ z.ls.length lz, .slice DZ z.ds.length dz] 38) = w16 at *
  generalize w15.heap.size = Y at *
  refine H1.out.mono ?_
  clear H1
  rintro e w17 ⟨rfl, hb⟩
  have S17 := Lib.hid (S16.out.below hb)
  have HSPZ17 := Lib.hid (hsp_below HSPZ.out hb)
  have KH17 := Lib.hid (KH16.out.below hb)
  have KZ17 := Lib.hid (KZ.out.below hb)
  clear hb z0 z1 z2 z3 z4 a5 a6 a7 a8 a9 KZ HSPZ
  have hbw := (HB1.out.trans (S17.out.2.1.mono HB1.out.size))
  have H1 := Lib.hid (sameSnap_any z.i z.t VZ _ vz (ints z.vs) LZ _ lz (ints z.ls) DZ _ dz z.ds j u VB vm vd us LB lm ld ks2 DB dm dd es w17 HSPZ17.out.v HSPZ17.out.l (RdI.below HVB.out hbw) (RdI.below HLB.out hbw) HSPZ17.out.d (HDB.out.below hbw))
  unfold snapV at H1
  clear hbw
  obtain ⟨z0, z1, z2, z3, z4⟩ := Blk.five KZ17.out
  obtain ⟨_, _, b5, b6, b7, b8, b9, _⟩ := Blk.stp (KX2.out.below S17.out.2.1)
  go_wp2_with fail
  refine H1.out.mono ?_
  clear H1
  rintro e w18 ⟨rfl, hb⟩
  have S18 := Lib.hid (S17.out.below hb)
  have h0 := (KH17.out.below hb).cell 0 _ rfl
  have h1 := (KH17.out.below hb).cell 1 _ rfl
  clear hb z0 z1 z2 z3 z4 b5 b6 b7 b8 b9 KZ17 HSPZ17
  obtain ⟨a3, a4, _, _, _, _, _, _⟩ := Blk.stp (KX1.out.below S18.out.2.1)
  obtain ⟨b3, b4, _, _, _, _, _, _⟩ := Blk.stp (KX2.out.below S18.out.2.1)
  obtain ⟨BO, hBO⟩ : ∃ BO, sameB z.i z.t (ints z.vs) (ints z.ls) z.ds i t vs ls ds = BO := ⟨_, rfl⟩
  obtain ⟨BF, hBF⟩ : ∃ BF, sameB z.i z.t (ints z.vs) (ints z.ls) z.ds j u us ks2 es = BF := ⟨_, rfl⟩
  have hOLD : z = x → BO = true := by
    rintro rfl
    rw [← hBO, HX.out.1, HX.out.2.1, HX.out.2.2.1, HX.out.2.2.2.1, HX.out.2.2.2.2]
    exact sameB_self _ _ _ _ _
  have hNEW : z = y → BF = true := by
    rintro rfl
    rw [← hBF, HY.out.1, HY.out.2.1, HY.out.2.2.1, HY.out.2.2.2.1, HY.out.2.2.2.2]
    exact sameB_self _ _ _ _ _
  rw [hBO, hBF]
  clear hBO hBF
  have HBE := Lib.hid (HB1.out.trans (S18.out.2.1.mono HB1.out.size))
  have hfin := HFIN.out
  clear HFIN
  rcases hfin with ⟨rfl, rfl, rfl, rfl, hz⟩ | ⟨rfl, rfl, rfl, rfl, hz⟩ | ⟨rfl, rfl, rfl, rfl, hz⟩
  · obtain rfl := hOLD hz
    clear hOLD hNEW hz
    cases BF
    all_goals
      go_wp2
      go_ret
      exact ⟨rfl, HBE.out⟩
  · obtain rfl := hOLD hz
    clear hOLD hNEW hz
    by_cases c1 : hp = p
    · by_cases c2 : hq = q
      all_goals
        cases BF
        all_goals
          go_wp2
          go_ret
          exact ⟨rfl, HBE.out⟩
    · cases BF
      all_goals
        go_wp2
        go_ret
        exact ⟨rfl, HBE.out⟩
  · obtain rfl := hNEW hz
    clear hOLD hNEW hz
    by_cases c1 : hp = p
    · by_cases c2 : hq = q
      all_goals
        cases BO
        all_goals
          go_wp2
          go_ret
          exact ⟨rfl, HBE.out⟩
    · cases BO
      all_goals
        go_wp2
        go_ret
        exact ⟨rfl, HBE.out⟩
end Go.Proofs.YtejphnbhcabchaaGreat.Kp
