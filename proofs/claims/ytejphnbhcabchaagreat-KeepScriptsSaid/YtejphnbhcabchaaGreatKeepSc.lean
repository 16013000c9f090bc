/-
  That the law KeepScripts answers true and leaves all memory that was there as it was. Conditions: the steps can be read, and the room is an int.
-/
import Derived.Test.YtejphnbhcabchaaGreatKeepRl
import Derived.Test.YtejphnbhcabchaaGreatKeepOne
import Derived.Test.YtejphnbhcabchaaGreatKeepAtW
import Derived.BigQuiet
import Derived.Deep.CutRange
import Derived.Deep.CutBlock
namespace Go.Proofs.YtejphnbhcabchaaGreat.Kp
open Go.RowKit Go.Proofs.YtejphnbhcabchaaGreat.Dk Go.Proofs.YtejphnbhcabchaaGreat.Fld
set_option linter.unusedVariables false

theorem pair_rl2 {w0 w w' : World} {g b : Nat} {m : List Ent} {t : St} {r : Nat} {lv : Value} {mr : List Ent} {tr tr' : St} (h : Pair w0 w g b m t r lv mr tr) (hL : RL2 w r lv mr tr' w') : ∃ lv' mr', Pair w0 w' g b m t r lv' mr' tr' := by
  obtain ⟨lv', mr', h1, h2, h3⟩ := hL
  refine ⟨lv', mr', ⟨⟨h.sn.1.frame h2 (fun i hi hm => h.apart i hm hi), h2.to_below h.sn.2.1 (fun i hi => h.new i hi), h.sn.2.2⟩, h1, ?_, ?_⟩⟩
  · intro i hi
    rcases h3 i hi with h4 | h4
    · exact h.new i h4
    · exact Nat.le_trans h.sn.2.1.size h4
  · intro i hi hr
    rcases h3 i hr with h4 | h4
    · exact h.apart i hi h4
    · have := h.sn.1.lt i hi; omega
theorem saveSnap_raw (g b : Nat) (m : List Ent) (st : St) (i t : Int) (VA : Option Addr) (vn vc : Nat) (vs : List Int) (LA : Option Addr) (ln lc : Nat) (ls : List Int) (DA : Option Addr) (dn dc : Nat) (ds : List Int) (w : World) (h : Im w g b m st) (hv : RdI w VA vn vs) (hl : RdI w LA ln ls) (hd : Rd w DA dn ds) (hD : DA = none → dc = 0) (hm : st.fs.length ≤ 900000) :
    Calls Tryz.prog 13 #[.pointer (some ⟨g, 0, none⟩), snapV i t (.slice VA vn vc) (.slice LA ln lc) (.slice DA dn dc)] w (Did w g b m (stSnapR i t vs ls ds dn st)) := by
  cases hok : snapOk i t vs ls dn with
  | false =>
    rw [show stSnapR i t vs ls ds dn st = (1, st) by unfold stSnapR; rw [hok]; rfl]
    exact saveSnap_bad g b m st i t VA vn vc vs LA ln lc ls DA dn dc ds w h hv hl hd hD hok
  | true =>
    obtain ⟨x, hxo, e1, e2, e3, e4, e5⟩ := snap_sp hok hd.1
    have e : stSnapR i t vs ls ds dn st = stSnap x st := by
      unfold stSnapR stSnap
      rw [if_pos hok, if_pos hxo, e1, e2, e3, e4, e5, toNats_ints, toNats_ints, Int.toNat_natCast, Int.toNat_natCast]
      rfl
    rw [e]
    exact saveSnap_sp g b m st x i t VA vn vc vs LA ln lc ls DA dn dc ds w h hv hl hd hD e1 e2 e3 e4 e5 hm
theorem hard_le (p q : Int) (t : St) : (stHard p q t).2.fs.length ≤ t.fs.length + 3 := by
  unfold stHard
  split
  · exact write_le _ _ _
  · simp
theorem snap_le (i t : Int) (vs ls ds : List Int) (dn : Nat) (st : St) : (stSnapR i t vs ls ds dn st).2.fs.length ≤ st.fs.length + 3 := by
  unfold stSnapR
  split
  · exact write_le _ _ _
  · simp
theorem fail_dd (g b : Nat) (m : List Ent) (t : St) (n : Int) (w : World) (h : Im w g b m t) (hn : n ≤ 9223372036854775807) :
    Calls Tryz.prog 15 #[.pointer (some ⟨g, 0, none⟩), .int .i64 n] w (Did w g b m (stFail n t)) := by
  refine (fail_any g b t n w h.dsk).mono fun _ _ ⟨he, hd, hf⟩ => ⟨he, m, h.scheds hd hf ?_ ?_ ?_ ?_, hf.mono (by simp), fun _ hi => .inl hi⟩
  · unfold stFail; split <;> rfl
  · unfold stFail; split <;> rfl
  · intro k
    unfold stFail
    split
    · exact h.fl k
    · intro hk
      cases hk
      omega
  · intro k
    unfold stFail
    split
    · exact h.al k
    · exact h.al k
theorem arm_dd (g b : Nat) (m : List Ent) (t : St) (n : Int) (w : World) (h : Im w g b m t) (hn : n ≤ 9223372036854775807) :
    Calls Tryz.prog 17 #[.pointer (some ⟨g, 0, none⟩), .int .i64 n] w (Did w g b m (stArm n t)) := by
  refine (arm_any g b t n w h.dsk).mono fun _ _ ⟨he, hd, hf⟩ => ⟨he, m, h.scheds hd hf ?_ ?_ ?_ ?_, hf.mono (by simp), fun _ hi => .inl hi⟩
  · unfold stArm; split <;> rfl
  · unfold stArm; split <;> rfl
  · intro k
    unfold stArm
    split
    · exact h.fl k
    · exact h.fl k
  · intro k
    unfold stArm
    split
    · exact h.al k
    · intro hk
      cases hk
      omega
theorem fail_fs (n : Int) (t : St) : (stFail n t).2.fs = t.fs := by unfold stFail; split <;> rfl
theorem arm_fs (n : Int) (t : St) : (stArm n t).2.fs = t.fs := by unfold stArm; split <;> rfl
theorem crash_fs (ks : List Int) (t : St) : (stCrash ks t).fs.length = t.fs.length := by
  show (crashTo t.fs.length ks t.fs).length = _
  exact crashTo_len _ _ _
theorem size_q (g b : Nat) (t : St) (w : World) (n : Nat) (h : DskT w g b t) : Calls Tryz.prog 29 #[.pointer (some ⟨g, 0, none⟩)] (w.drewN n) fun e w'' => e = .returned (.int .i64 (total t.fs : Nat)) ∧ ∃ k, w'' = w.drewN k :=
  (size_any g b t (w.drewN n) (Dsk.of_block h rfl)).mono fun _ _ ⟨he, hw⟩ => ⟨he, n, hw.symm⟩
theorem off_q (g b : Nat) (t : St) (w : World) (n : Nat) (h : DskT w g b t) : Calls Tryz.prog 28 #[.pointer (some ⟨g, 0, none⟩)] (w.drewN n) fun e w'' => e = .returned (.bool t.off) ∧ ∃ k, w'' = w.drewN k :=
  (off_any g b t (w.drewN n) (Dsk.of_block h rfl)).mono fun _ _ ⟨he, hw⟩ => ⟨he, n, hw.symm⟩
set_option maxRecDepth 100000 in
theorem save_nil (w : World) : Calls Tryz.prog 37 #[.pointer none, .string ⟨#[104, 97, 114, 100]⟩, hardV 0 0, .func (.func 38) #[] #[]] w fun e w' => e = .returned (.int .i64 1) ∧ Below w.heap.size w w' := by
  have HB := Lib.hid (alloc_below w (.cells #[.int .i64 0, .int .i64 0] 32))
  unfold hardV
  go_enter Tryz.func37, Tryz.ntmps37
  go_wp2
  go_ret
  exact ⟨rfl, HB.out⟩
set_option maxRecDepth 100000 in
theorem saveHard_nil (w : World) : Calls Tryz.prog 11 #[.pointer none, hardV 0 0] w fun e w' => e = .returned (.int .i64 1) ∧ Below w.heap.size w w' := by
  have HS := Lib.hid (save_nil (w.alloc (.cells #[.int .i64 0, .int .i64 0] 32)))
  have HB := Lib.hid (alloc_below w (.cells #[.int .i64 0, .int .i64 0] 32))
  unfold hardV at HS ⊢
  go_enter Tryz.func11, Tryz.ntmps11
  go_wp2_with fail
  refine HS.out.mono ?_
  rintro e w1 ⟨rfl, hb1⟩
  have HB1 := Lib.hid (HB.out.trans (hb1.mono HB.out.size))
  clear hb1
  go_wp2
  go_ret
  exact ⟨rfl, HB1.out⟩
theorem blk_did {w0 w w' : World} {g b : Nat} {m : List Ent} {t t' : St} {r : Nat} {lv : Value} {mr : List Ent} {tr : St} (h : Pair w0 w g b m t r lv mr tr) (hL : Dk.Left w g b m t' w') {X : Nat} {cs : Array Value} {ty : TypeId} (hk : Blk w X cs ty) (hX : X < w.heap.size ∧ X ∉ g :: b :: blks m ∧ X ∉ rfoot r lv mr) : Blk w' X cs ty := by
  obtain ⟨m', _, hF, _⟩ := hL
  exact hk.of (hF.block X hk.lt hX.2.1)
def KsR (w1 : World) (g b r : Nat) (i : Value) (wr : World) : Prop := ∃ (k : Nat) (t : St) (m : List Ent) (lv : Value) (mr : List Ent), k ≤ 60 ∧ i = .int .i64 (k : Int) ∧ Pair w1 wr g b m t r lv mr t ∧ t.fs.length ≤ 4 * k
set_option maxRecDepth 100000 in
set_option maxHeartbeats 12800000 in
theorem kscripts_walk (room : Int) (A : Option Addr) (n cap : Nat) (l : List Stp) (w : World) (hr0 : -9223372036854775808 ≤ room) (hr1 : room ≤ 9223372036854775807) (h : RdSt w A n l) :
    Calls Tryz.prog 3 #[.int .i64 room, .slice A n cap] w fun e w' => e = .returned (.bool true) ∧ Below w.heap.size w w' := by
  have HI := Lib.hid h
  have hn := h.2.1
  have HL := Lib.hid h.1
  unfold maxLen at hn
  clear h
  by_cases hbad : room < 1 ∨ 16777216 < room
  · go_enter Tryz.func3, Tryz.ntmps3
    go_wp2_with fail
    refine (awake_any _).mono ?_
    rintro e w1 ⟨rfl, hb1⟩
    have HB1 := Lib.hid hb1
    clear hb1
    go_wp2_with fail
    refine (new_bad room _ hbad).mono ?_
    rintro e w2 ⟨rfl, rfl⟩
    go_wp2_with fail
    refine (rnew_bad room _ hbad).mono ?_
    rintro e w2 ⟨rfl, rfl⟩
    go_wp2
    go_ret
    exact ⟨rfl, HB1.out⟩
  obtain ⟨R, rfl⟩ : ∃ R : Nat, room = (R : Int) := ⟨room.toNat, by omega⟩
  go_enter Tryz.func3, Tryz.ntmps3
  go_wp2_with fail
  refine (awake_any _).mono ?_
  rintro e w1 ⟨rfl, hb1⟩
  have HB1 := Lib.hid hb1
  clear hb1
  go_wp2_with fail
  refine (new_sn R _ (by omega) (by omega)).mono ?_
  rintro e w2 ⟨b, g, rfl, hsn⟩
  have HSN := Lib.hid hsn
  clear hsn
  go_wp2_with fail
  refine (rnew_rf R _ (by omega) (by omega)).mono ?_
  rintro e w3 ⟨r, rfl, hr, hR, hb2⟩
  have HP := Lib.hid (Pair.start HSN.out hr hR hb2)
  clear hr hR hb2
  go_wp2_with fail
  go_loopw [10] (fun i wr => KsR w1 g b r i wr) (fun i _ => 60 - (intOf i).toNat)
  case atStart => exact ⟨0, st0 R, [], .slice none 0 0, [], by omega, rfl, HP.out, by simp [st0]⟩
  case round =>
    obtain ⟨k, t, m, lv, mr, hk, rfl, hP, hlen⟩ := hrel
    have HPR := Lib.hid hP
    clear hP
    by_cases hlt : k < n ∧ k < 60
    · obtain ⟨hkn, hk3⟩ := hlt
      have hkl : k < l.length := by rw [HL.out]; exact hkn
      have HBR := Lib.hid (HB1.out.trans (HPR.out.sn.2.1.mono HB1.out.size))
      obtain ⟨lb, lo, rfl, hcell⟩ := HI.out.at12 HBR.out k hkl
      have HOK := Lib.hid (HI.out.2.2.2 l[k] (List.getElem_mem hkl))
      generalize l[k] = a at *
      obtain ⟨d, n1, nm, p, q, i, t1, VA, vn, vc, vs, LA, ln, lc, ls, DA, dn, dc, ds, KA, kn, kc, ks, BA, bn, bc, bs⟩ := a
      have c0 := hcell 0 _ (by omega) rfl
      have c1 := hcell 1 _ (by omega) rfl
      have c2 := hcell 2 _ (by omega) rfl
      have c3 := hcell 3 _ (by omega) rfl
      have c4 := hcell 4 _ (by omega) rfl
      have c5 := hcell 5 _ (by omega) rfl
      have c6 := hcell 6 _ (by omega) rfl
      have c7 := hcell 7 _ (by omega) rfl
      have c8 := hcell 8 _ (by omega) rfl
      have c9 := hcell 9 _ (by omega) rfl
      have c10 := hcell 10 _ (by omega) rfl
      have c11 := hcell 11 _ (by omega) rfl
      rw [Nat.add_zero] at c0
      clear hcell
      have HV := Lib.hid (show RdI w VA vn vs from HOK.out.v)
      have HLL := Lib.hid (show RdI w LA ln ls from HOK.out.l)
      have HDD := Lib.hid (show Rd w DA dn ds from HOK.out.d)
      have HDN := Lib.hid (show DA = none → dc = 0 from HOK.out.dz)
      have HKK := Lib.hid (show RdI w KA kn ks from HOK.out.k)
      have HBB := Lib.hid (show Rd w BA bn bs from HOK.out.b)
      have HBN := Lib.hid (show BA = none → bc = 0 from HOK.out.bz)
      have HN1 := Lib.hid (show n1 ≤ 9223372036854775807 from HOK.out.n)
      have HNM := Lib.hid (show nm.size ≤ maxLen from HOK.out.nm)
      have hm1 := HDD.out.2.1
      have hm2 := HBB.out.2.1
      unfold maxLen at hm1 hm2
      clear HOK
      have i1 : (k : Int) < (n : Int) := by omega
      have i2 : (k : Int) < 60 := by omega
      by_cases h1 : 100000 < (bn : Int)
      · go_wp2
        go_ret
        exact ⟨rfl, HBR.out.alloc HBR.out.size _⟩
      by_cases h2 : 100000 < (dn : Int)
      · go_wp2
        go_ret
        exact ⟨rfl, HBR.out.alloc HBR.out.size _⟩
      have hba := alloc_below wr (.cells #[.int .i64 d, .int .i64 n1, .string nm, .int .i64 p, .int .i64 q, .int .i64 i, .int .i64 t1, .slice VA vn vc, .slice LA ln lc, .slice DA dn dc, .slice KA kn kc, .slice BA bn bc] 40)
      have HP2 := Lib.hid (HPR.out.below hba)
      have KB := Lib.hid (Blk.new wr #[.int .i64 d, .int .i64 n1, .string nm, .int .i64 p, .int .i64 q, .int .i64 i, .int .i64 t1, .slice VA vn vc, .slice LA ln lc, .slice DA dn dc, .slice KA kn kc, .slice BA bn bc] 40)
      have HBA := Lib.hid (HBR.out.trans (hba.mono HBR.out.size))
      clear hba
      go_upto_block 2 with fail
      clear c0 c1 c2 c3 c4 c5 c6 c7 c8 c9 c10 c11
      generalize wr.alloc (.cells #[.int .i64 d, .int .i64 n1, .string nm, .int .i64 p, .int .i64 q, .int .i64 i, .int .i64 t1, .slice VA vn vc, .slice LA ln lc, .slice DA dn dc, .slice KA kn kc, .slice BA bn bc] 40) = w4 at *
      generalize hX : wr.heap.size = X at *
      have HXW := Lib.hid hX
      clear hX
      go_cut [] from 53 to 205 (fun wx => ∃ (u : St) (m' : List Ent) (lv' : Value) (mr' : List Ent), Pair w1 wx g b m' u r lv' mr' u ∧ u.fs.length ≤ t.fs.length + 3)
      case first =>
        have HXL := Lib.hid (show X < w4.heap.size ∧ X ∉ g :: b :: blks m ∧ X ∉ rfoot r lv mr from ⟨KB.out.lt, fun hm => by have := HPR.out.sn.1.lt _ hm; have := HXW.out; omega, fun hm => by have := HPR.out.rf.foot_lt _ hm; have := HXW.out; omega⟩)
        have hlm : t.fs.length ≤ 240 := by omega
        by_cases d0 : d = 0
        · subst d0
          have y0 := KB.out.cell 0 _ rfl
          have z3 := KB.out.cell 3 _ rfl
          have z4 := KB.out.cell 4 _ rfl
          have H1 := Lib.hid (saveHard_any g b m t p q w4 HP2.out.sn.1 (by omega))
          try unfold hardV at H1
          go_wp2_with fail
          refine H1.out.mono ?_
          clear H1
          rintro e w5 ⟨rfl, hL⟩
          obtain ⟨m5, hP5⟩ := HP2.out.left hL
          have HP5 := Lib.hid hP5
          have KB5 := Lib.hid (blk_did HP2.out hL KB.out HXL.out)
          clear hL hP5 y0 z3 z4
          have z3 := KB5.out.cell 3 _ rfl
          have z4 := KB5.out.cell 4 _ rfl
          have H1 := Lib.hid (rsaveHard_any r lv mr t p q w5 HP5.out.rf (by omega))
          try unfold hardV at H1
          go_wp2_with fail
          refine H1.out.mono ?_
          clear H1
          rintro e w6 ⟨rfl, hL⟩
          obtain ⟨lv6, mr6, hP6⟩ := pair_rl2 HP5.out hL
          have HP6 := Lib.hid (show Pair w1 w6 g b m5 ((stHard p q t).2) r lv6 mr6 ((stHard p q t).2) from hP6)
          have HLN := Lib.hid (hard_le p q t)
          clear hL hP6 z3 z4
          generalize (stHard p q t) = RES at *
          have j1 : (RES.1 != RES.1) = false := by simp
          go_wp2_with fail
          go_meet
          exact ⟨RES.2, m5, lv6, mr6, HP6.out, HLN.out⟩
        have e0 : (d == 0) = false := by simp [d0]
        by_cases d1 : d = 1
        · subst d1
          have y0 := KB.out.cell 0 _ rfl
          have z5 := KB.out.cell 5 _ rfl
          have z6 := KB.out.cell 6 _ rfl
          have z7 := KB.out.cell 7 _ rfl
          have z8 := KB.out.cell 8 _ rfl
          have z9 := KB.out.cell 9 _ rfl
          have H1 := Lib.hid (saveSnap_raw g b m t i t1 VA vn vc vs LA ln lc ls DA dn dc ds w4 HP2.out.sn.1 (RdI.below HV.out HBA.out) (RdI.below HLL.out HBA.out) (HDD.out.below HBA.out) HDN.out (by omega))
          try unfold snapV at H1
          go_wp2_with fail
          refine H1.out.mono ?_
          clear H1
          rintro e w5 ⟨rfl, hL⟩
          obtain ⟨m5, hP5⟩ := HP2.out.left hL
          have HP5 := Lib.hid hP5
          have KB5 := Lib.hid (blk_did HP2.out hL KB.out HXL.out)
          clear hL hP5 y0 z5 z6 z7 z8 z9
          have z5 := KB5.out.cell 5 _ rfl
          have z6 := KB5.out.cell 6 _ rfl
          have z7 := KB5.out.cell 7 _ rfl
          have z8 := KB5.out.cell 8 _ rfl
          have z9 := KB5.out.cell 9 _ rfl
          have H1 := Lib.hid (rsaveSnap_any r lv mr t i t1 VA vn vc vs LA ln lc ls DA dn dc ds w5 HP5.out.rf (by omega) (RdI.below HV.out (HB1.out.trans (HP5.out.sn.2.1.mono HB1.out.size))) (RdI.below HLL.out (HB1.out.trans (HP5.out.sn.2.1.mono HB1.out.size))) (HDD.out.below (HB1.out.trans (HP5.out.sn.2.1.mono HB1.out.size))) HDN.out)
          try unfold snapV at H1
          go_wp2_with fail
          refine H1.out.mono ?_
          clear H1
          rintro e w6 ⟨rfl, hL⟩
          obtain ⟨lv6, mr6, hP6⟩ := pair_rl2 HP5.out hL
          have HP6 := Lib.hid (show Pair w1 w6 g b m5 ((stSnapR i t1 vs ls ds dn t).2) r lv6 mr6 ((stSnapR i t1 vs ls ds dn t).2) from hP6)
          have HLN := Lib.hid (snap_le i t1 vs ls ds dn t)
          clear hL hP6 z5 z6 z7 z8 z9
          generalize (stSnapR i t1 vs ls ds dn t) = RES at *
          have j1 : (RES.1 != RES.1) = false := by simp
          go_wp2_with fail
          go_meet
          exact ⟨RES.2, m5, lv6, mr6, HP6.out, HLN.out⟩
        have e1 : (d == 1) = false := by simp [d1]
        by_cases d4 : d = 4
        · subst d4
          have y0 := KB.out.cell 0 _ rfl
          have z1 := KB.out.cell 1 _ rfl
          have H1 := Lib.hid (fail_dd g b m t n1 w4 HP2.out.sn.1 HN1.out)
          skip
          go_wp2_with fail
          refine H1.out.mono ?_
          clear H1
          rintro e w5 ⟨rfl, hL⟩
          obtain ⟨m5, hP5⟩ := HP2.out.left hL
          have HP5 := Lib.hid hP5
          have KB5 := Lib.hid (blk_did HP2.out hL KB.out HXL.out)
          clear hL hP5 y0 z1
          have z1 := KB5.out.cell 1 _ rfl
          have H1 := Lib.hid ((rfail_any r lv mr t n1 w5 HP5.out.rf HN1.out).mono fun _ _ hh => hh.two)
          skip
          go_wp2_with fail
          refine H1.out.mono ?_
          clear H1
          rintro e w6 ⟨rfl, hL⟩
          obtain ⟨lv6, mr6, hP6⟩ := pair_rl2 HP5.out hL
          have HP6 := Lib.hid (show Pair w1 w6 g b m5 ((stFail n1 t).2) r lv6 mr6 ((stFail n1 t).2) from hP6)
          have HLN := Lib.hid (show (stFail n1 t).2.fs.length ≤ t.fs.length + 3 by rw [fail_fs]; omega)
          clear hL hP6 z1
          go_wp2_with fail
          go_meet
          exact ⟨(stFail n1 t).2, m5, lv6, mr6, HP6.out, HLN.out⟩
        have e4 : (d == 4) = false := by simp [d4]
        by_cases d5 : d = 5
        · subst d5
          have y0 := KB.out.cell 0 _ rfl
          have z1 := KB.out.cell 1 _ rfl
          have H1 := Lib.hid (arm_dd g b m t n1 w4 HP2.out.sn.1 HN1.out)
          skip
          go_wp2_with fail
          refine H1.out.mono ?_
          clear H1
          rintro e w5 ⟨rfl, hL⟩
          obtain ⟨m5, hP5⟩ := HP2.out.left hL
          have HP5 := Lib.hid hP5
          have KB5 := Lib.hid (blk_did HP2.out hL KB.out HXL.out)
          clear hL hP5 y0 z1
          have z1 := KB5.out.cell 1 _ rfl
          have H1 := Lib.hid ((rarm_any r lv mr t n1 w5 HP5.out.rf HN1.out).mono fun _ _ hh => hh.two)
          skip
          go_wp2_with fail
          refine H1.out.mono ?_
          clear H1
          rintro e w6 ⟨rfl, hL⟩
          obtain ⟨lv6, mr6, hP6⟩ := pair_rl2 HP5.out hL
          have HP6 := Lib.hid (show Pair w1 w6 g b m5 ((stArm n1 t).2) r lv6 mr6 ((stArm n1 t).2) from hP6)
          have HLN := Lib.hid (show (stArm n1 t).2.fs.length ≤ t.fs.length + 3 by rw [arm_fs]; omega)
          clear hL hP6 z1
          go_wp2_with fail
          go_meet
          exact ⟨(stArm n1 t).2, m5, lv6, mr6, HP6.out, HLN.out⟩
        have e5 : (d == 5) = false := by simp [d5]
        by_cases d6 : d = 6
        · subst d6
          have y0 := KB.out.cell 0 _ rfl
          have z10 := KB.out.cell 10 _ rfl
          have H1 := Lib.hid (crash_any g b m t KA kn kc ks w4 HP2.out.sn.1 (by omega) (RdI.below HKK.out HBA.out) (fun h0 a ha hm => by have h5 := nums_block HKK.out h0 a ha; have h6 := HP2.out.sn.2.2 _ hm; have h7 := HB1.out.size; omega))
          skip
          go_wp2_with fail
          refine H1.out.mono ?_
          clear H1
          rintro e w5 ⟨rfl, hL⟩
          obtain ⟨m5, hP5⟩ := HP2.out.left hL
          have HP5 := Lib.hid hP5
          have KB5 := Lib.hid (blk_did HP2.out hL KB.out HXL.out)
          clear hL hP5 y0 z10
          have z10 := KB5.out.cell 10 _ rfl
          have H1 := Lib.hid (rcrash_any r lv mr t KA kn kc ks w5 HP5.out.rf (by omega) (RdI.below HKK.out (HB1.out.trans (HP5.out.sn.2.1.mono HB1.out.size))) (fun h0 a ha hm => by have h5 := nums_block HKK.out h0 a ha; have h6 := HP5.out.new _ hm; have h7 := HB1.out.size; omega))
          skip
          go_wp2_with fail
          refine H1.out.mono ?_
          clear H1
          rintro e w6 ⟨rfl, hL⟩
          obtain ⟨lv6, mr6, hP6⟩ := pair_rl2 HP5.out hL
          have HP6 := Lib.hid (show Pair w1 w6 g b m5 (stCrash ks t) r lv6 mr6 (stCrash ks t) from hP6)
          have HLN := Lib.hid (show (stCrash ks t).fs.length ≤ t.fs.length + 3 by rw [crash_fs]; omega)
          clear hL hP6 z10
          go_wp2_with fail
          go_meet
          exact ⟨stCrash ks t, m5, lv6, mr6, HP6.out, HLN.out⟩
        have e6 : (d == 6) = false := by simp [d6]
        by_cases d7 : d = 7
        · subst d7
          have y0 := KB.out.cell 0 _ rfl
          have z2 := KB.out.cell 2 _ rfl
          have z11 := KB.out.cell 11 _ rfl
          have H1 := Lib.hid (app_did g b m t nm BA bn bc bs w4 HP2.out.sn.1 (by omega) (HBB.out.below HBA.out) HBN.out (by omega))
          skip
          go_wp2_with fail
          refine H1.out.mono ?_
          clear H1
          rintro e w5 ⟨rfl, hL⟩
          obtain ⟨m5, hP5⟩ := HP2.out.left hL
          have HP5 := Lib.hid hP5
          have KB5 := Lib.hid (blk_did HP2.out hL KB.out HXL.out)
          clear hL hP5 y0 z2 z11
          have z2 := KB5.out.cell 2 _ rfl
          have z11 := KB5.out.cell 11 _ rfl
          have H1 := Lib.hid (rapp_all r lv mr t nm BA bn bc bs w5 HP5.out.rf (by omega) HNM.out (HBB.out.below (HB1.out.trans (HP5.out.sn.2.1.mono HB1.out.size))) HBN.out (fun h0 a ha hm => by have h5 := rd_lt HBB.out h0 a ha; have h6 := HP5.out.new _ hm; have h7 := HB1.out.size; omega) (by omega))
          skip
          go_wp2_with fail
          refine H1.out.mono ?_
          clear H1
          rintro e w6 ⟨rfl, hL⟩
          obtain ⟨lv6, mr6, hP6⟩ := pair_rl2 HP5.out hL
          have HP6 := Lib.hid (show Pair w1 w6 g b m5 ((stAppend nm.data.toList bs t).2) r lv6 mr6 ((stAppend nm.data.toList bs t).2) from hP6)
          have HLN := Lib.hid (show (stAppend nm.data.toList bs t).2.fs.length ≤ t.fs.length + 3 from Nat.le_trans (app_le _ _ _) (by omega))
          clear hL hP6 z2 z11
          go_wp2_with fail
          go_meet
          exact ⟨(stAppend nm.data.toList bs t).2, m5, lv6, mr6, HP6.out, HLN.out⟩
        have e7 : (d == 7) = false := by simp [d7]
        have y0 := KB.out.cell 0 _ rfl
        go_wp2_with fail
        go_meet
        exact ⟨t, m, lv, mr, HP2.out, by omega⟩
      case rest =>
        obtain ⟨u, m5, lv5, mr5, hP5, hlen5⟩ := hcut
        have HP5 := Lib.hid hP5
        have hl5 : u.fs.length ≤ 4 * k + 3 := by omega
        clear hP5 hlen5 hlen HPR HP2 KB HBA HV HLL HDD HDN HKK HBB HBN HN1 HNM HBR hm1 hm2 HXW
        generalize wc = w5 at *
        generalize hld : ldHard u = R1 at *
        have HLD := Lib.hid hld
        clear hld
        obtain ⟨⟨hp, hq⟩, ec⟩ := R1
        generalize hls : ldSnap u = R2 at *
        have HLS := Lib.hid hls
        clear hls
        obtain ⟨x, sc⟩ := R2
        have H1 := Lib.hid (loadHard_any g b m5 u w5 HP5.out.sn.1)
        rw [HLD.out] at H1
        go_wp2_with fail
        refine H1.out.mono ?_
        clear H1
        rintro e w6 ⟨rfl, hb⟩
        have hb' := hb.alloc hb.size (.cells #[.int .i64 hp, .int .i64 hq] 32)
        have K1 := Lib.hid (Blk.new w6 #[.int .i64 hp, .int .i64 hq] 32)
        have HP7 := Lib.hid (HP5.out.below hb')
        clear hb hb' HP5
        have H1 := Lib.hid (rloadHard_any r lv5 mr5 u _ HP7.out.rf (by omega))
        rw [HLD.out] at H1
        go_wp2_with fail
        generalize w6.alloc (.cells #[.int .i64 hp, .int .i64 hq] 32) = w7 at *
        generalize w6.heap.size = X1 at *
        refine H1.out.mono ?_
        clear H1
        rintro e w8 ⟨rfl, hb⟩
        have hb' := hb.alloc hb.size (.cells #[.int .i64 hp, .int .i64 hq] 32)
        have K2 := Lib.hid (Blk.new w8 #[.int .i64 hp, .int .i64 hq] 32)
        have K19 := Lib.hid (K1.out.below hb')
        have HP9 := Lib.hid (HP7.out.below hb')
        clear hb hb' HP7 K1
        have H1 := Lib.hid (loadSnap_any g b m5 u _ HP9.out.sn.1)
        rw [HLS.out] at H1
        go_wp2_with fail
        generalize w8.alloc (.cells #[.int .i64 hp, .int .i64 hq] 32) = w9 at *
        generalize w8.heap.size = X2 at *
        refine H1.out.mono ?_
        clear H1
        rintro e w10 ⟨VX, LX, DX, vx, lx, dx, rfl, hsp, hb, _, _⟩
        unfold spV snapV
        simp only at hsp ⊢
        have hb' := hb.alloc hb.size (.cells #[.int .i64 x.i, .int .i64 x.t, .slice VX x.vs.length vx, .slice LX x.ls.length lx, .slice DX x.ds.length dx] 38)
        have HSX := Lib.hid (hsp_below hsp (alloc_below w10 (.cells #[.int .i64 x.i, .int .i64 x.t, .slice VX x.vs.length vx, .slice LX x.ls.length lx, .slice DX x.ds.length dx] 38)))
        have K3 := Lib.hid (Blk.new w10 #[.int .i64 x.i, .int .i64 x.t, .slice VX x.vs.length vx, .slice LX x.ls.length lx, .slice DX x.ds.length dx] 38)
        have K111 := Lib.hid (K19.out.below hb')
        have K211 := Lib.hid (K2.out.below hb')
        have HP11 := Lib.hid (HP9.out.below hb')
        clear hsp hb hb' HP9 K19 K2
        have H1 := Lib.hid (rloadSnap_any r lv5 mr5 u _ HP11.out.rf (by omega))
        rw [HLS.out] at H1
        go_wp2_with fail
        generalize w10.alloc (.cells #[.int .i64 x.i, .int .i64 x.t, .slice VX x.vs.length vx, .slice LX x.ls.length lx, .slice DX x.ds.length dx] 38) = w11 at *
        generalize w10.heap.size = X3 at *
        refine H1.out.mono ?_
        clear H1
        rintro e w12 ⟨VY, LY, DY, vy, ly, dy, rfl, hy1, hy2, hy3, hb, _, _⟩
        unfold spV snapV
        simp only at hy1 hy2 hy3 ⊢
        have hb' := hb.alloc hb.size (.cells #[.int .i64 x.i, .int .i64 x.t, .slice VY x.vs.length vy, .slice LY x.ls.length ly, .slice DY x.ds.length dy] 38)
        have hc' := alloc_below w12 (.cells #[.int .i64 x.i, .int .i64 x.t, .slice VY x.vs.length vy, .slice LY x.ls.length ly, .slice DY x.ds.length dy] 38)
        have K4 := Lib.hid (Blk.new w12 #[.int .i64 x.i, .int .i64 x.t, .slice VY x.vs.length vy, .slice LY x.ls.length ly, .slice DY x.ds.length dy] 38)
        have K113 := Lib.hid (K111.out.below hb')
        have K213 := Lib.hid (K211.out.below hb')
        have K313 := Lib.hid (K3.out.below hb')
        have HP13 := Lib.hid (HP11.out.below hb')
        have HSX13 := Lib.hid (hsp_below HSX.out hb')
        have H1 := Lib.hid (sameSnap_any x.i x.t VX _ vx (ints x.vs) LX _ lx (ints x.ls) DX _ dx x.ds x.i x.t VY _ vy (ints x.vs) LY _ ly (ints x.ls) DY _ dy x.ds _ HSX13.out.v HSX13.out.l (RdI.below hy1 hc') (RdI.below hy2 hc') HSX13.out.d (hy3.below hc'))
        rw [sameB_self] at H1
        unfold snapV at H1
        clear hb hb' hc' hy1 hy2 hy3 HP11 K111 K211 K3 HSX
        obtain ⟨x0, x1, x2, x3, x4⟩ := Blk.five K313.out
        obtain ⟨y0, y1, y2, y3, y4⟩ := Blk.five K4.out
        go_wp2_with fail
        generalize w12.alloc (.cells #[.int .i64 x.i, .int .i64 x.t, .slice VY x.vs.length vy, .slice LY x.ls.length ly, .slice DY x.ds.length dy] 38) = w13 at *
        generalize w12.heap.size = X4 at *
        refine H1.out.mono ?_
        clear H1
        rintro e w14 ⟨rfl, hb⟩
        have HP14 := Lib.hid (HP13.out.below hb)
        have a0 := (K113.out.below hb).cell 0 _ rfl
        have a1 := (K113.out.below hb).cell 1 _ rfl
        have b0 := (K213.out.below hb).cell 0 _ rfl
        have b1 := (K213.out.below hb).cell 1 _ rfl
        clear hb x0 x1 x2 x3 x4 y0 y1 y2 y3 y4 K113 K213 K313 K4 HP13 HSX13
        obtain ⟨LV, lcap, hlv, hd, _⟩ := HP14.out.rf.form
        obtain ⟨d0, d1, d2, d3, d4⟩ := hd.cells
        have HQ1 := Lib.hid (fun k => size_q g b u w14 k HP14.out.sn.1.dsk)
        have HQ2 := Lib.hid (fun k => rsize_quiet r lv5 mr5 u w14 k HP14.out.rf (by omega))
        have HQ3 := Lib.hid (fun k => off_q g b u w14 k HP14.out.sn.1.dsk)
        clear hd hlv
        generalize total u.fs = tot at *
        have e2 : ((tot : Int) != (tot : Int)) = false := by simp
        have e3 : (u.off != u.off) = false := by simp
        have e4 : (ec != ec) = false := by simp
        have e5 : (sc != sc) = false := by simp
        go_wp2_with fail
        go_quiet ((first | (go_at_call 29; exact HQ1.out _) | (go_at_call 30; exact HQ2.out _) | (go_at_call 28; exact HQ3.out _)))
        have HP15 := Lib.hid (HP14.out.below (below_dr w14 nq))
        clear d0 d1 d2 d3 d4 HQ1 HQ2 HQ3 e2 e3 e4 e5 a0 a1 b0 b1 HP14
        go_wp2
        go_roundw
        case rel => exact ⟨k + 1, u, m5, lv5, mr5, by omega, by go_num, HP15.out, by omega⟩
        case measure => simp [intOf]; omega
    · have HB2 := Lib.hid (HB1.out.trans (HPR.out.sn.2.1.mono HB1.out.size))
      by_cases hkn : k < n
      · have i1 : (k : Int) < (n : Int) := by omega
        have i2 : ¬ (k : Int) < 60 := by omega
        have HSN := Lib.hid (saveHard_nil wr)
        unfold hardV at HSN
        go_wp2_with fail
        refine HSN.out.mono ?_
        rintro e w9 ⟨rfl, hb9⟩
        have HB9 := Lib.hid (HB2.out.trans (hb9.mono HB2.out.size))
        clear hb9
        go_wp2
        go_ret
        exact ⟨rfl, HB9.out⟩
      · have i1 : ¬ (k : Int) < (n : Int) := by omega
        have HSN := Lib.hid (saveHard_nil wr)
        unfold hardV at HSN
        go_wp2_with fail
        refine HSN.out.mono ?_
        rintro e w9 ⟨rfl, hb9⟩
        have HB9 := Lib.hid (HB2.out.trans (hb9.mono HB2.out.size))
        clear hb9
        go_wp2
        go_ret
        exact ⟨rfl, HB9.out⟩
end Go.Proofs.YtejphnbhcabchaaGreat.Kp
