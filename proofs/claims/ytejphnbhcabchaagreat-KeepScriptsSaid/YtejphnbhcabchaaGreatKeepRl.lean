/-
  Layer 7: the document's own SaveHard, SaveSnap, LoadHard and LoadSnap, over the document's own disk. Conditions: the disk lies in memory as it was made.
-/
import Derived.Test.YtejphnbhcabchaaGreatKeepRd
import Derived.Test.YtejphnbhcabchaaGreatKeepOne
import Derived.Test.YtejphnbhcabchaaGreatSnapH
namespace Go.Proofs.YtejphnbhcabchaaGreat.Kp
open Go.RowKit Go.Proofs.YtejphnbhcabchaaGreat.Dk Go.Proofs.YtejphnbhcabchaaGreat.Fld
set_option linter.unusedVariables false

theorem ld_cases {β : Type} (q : Int × List Int) (z : Int → β) (dec : List Int → β) (R : β) (hR : R = if q.1 = 2 then z 0 else if q.1 ≠ 0 then z q.1 else match single q.2 with | some c => dec c | none => z 6) :
    (∃ e : Int, rdB q = ([], false, e) ∧ R = z e) ∨ (rdB q = ([], true, 6) ∧ R = z 6) ∨ (∃ c, rdB q = (c, true, 0) ∧ R = dec c) := by
  unfold rdB
  by_cases h2 : q.1 = 2
  · rw [if_pos h2] at hR ⊢
    exact .inl ⟨0, rfl, hR⟩
  rw [if_neg h2] at hR ⊢
  by_cases h0 : q.1 ≠ 0
  · rw [if_pos h0] at hR ⊢
    exact .inl ⟨_, rfl, hR⟩
  rw [if_neg h0] at hR ⊢
  cases hs : single q.2 with
  | none =>
    rw [hs] at hR
    exact .inr (.inl ⟨rfl, hR⟩)
  | some c =>
    rw [hs] at hR
    exact .inr (.inr ⟨c, rfl, hR⟩)
set_option maxRecDepth 100000 in
set_option maxHeartbeats 1600000 in
theorem rsaveHard_any (r : Nat) (lv : Value) (m : List Ent) (t : St) (p q : Int) (w : World) (h : Rf w r lv m t) (hm : t.fs.length ≤ 800000) :
    Calls Tryz.prog 12 #[.pointer (some ⟨r, 0, none⟩), hardV p q] w (RDid2 w r lv m (stHard p q t)) := by
  have HB := Lib.hid (alloc_below w (.cells #[.int .i64 p, .int .i64 q] 32))
  have K0 := Lib.hid (Blk.new w #[.int .i64 p, .int .i64 q] 32)
  have H1 := Lib.hid (rightHard_any p q (w.alloc (.cells #[.int .i64 p, .int .i64 q] 32)))
  have HR := Lib.hid h
  unfold stHard
  cases hok : hardOk p q with
  | false =>
    rw [hok] at H1
    unfold hardV at H1 ⊢
    clear h
    go_enter Tryz.func12, Tryz.ntmps12
    go_wp2_with fail
    refine H1.out.mono ?_
    rintro e w1 ⟨rfl, hb1⟩
    have HB1 := Lib.hid (HB.out.trans (hb1.mono HB.out.size))
    clear hb1
    go_wp2
    go_ret
    exact ⟨rfl, FootL.to (rf_below HR.out HB1.out) (FootL.below _ HB1.out)⟩
  | true =>
    rw [hok] at H1
    rw [if_pos rfl]
    obtain ⟨a, b, rfl, rfl, ha, hb⟩ := hard_nat hok
    rw [Int.toNat_natCast, Int.toNat_natCast]
    have HLN := Lib.hid (hardC_len a b ha hb)
    unfold hardV at H1 ⊢
    clear hok h
    go_enter Tryz.func12, Tryz.ntmps12
    go_wp2_with fail
    refine H1.out.mono ?_
    clear H1
    rintro e w1 ⟨rfl, hb1⟩
    have HB1 := Lib.hid (HB.out.trans (hb1.mono HB.out.size))
    have c0 := (K0.out.below hb1).cell 0 _ rfl
    have c1 := (K0.out.below hb1).cell 1 _ rfl
    have H1 := Lib.hid (refhard_any a b w1 ha hb)
    unfold hardV at H1
    clear hb1 HB K0
    go_wp2_with fail
    refine H1.out.mono ?_
    clear H1
    rintro e w2 ⟨v2, rfl, hO2⟩
    obtain ⟨A2, c2, hv2, hs2, _⟩ := hO2.sl _ rfl
    subst hv2
    have HB2 := Lib.hid (HB1.out.trans (hO2.1.mono HB1.out.size))
    have HR2 := Lib.hid (rf_below HR.out HB2.out)
    have H1 := Lib.hid (rwrite_any r lv m t hardN A2 _ c2 (hardC a b) w2 HR2.out (by decide) hm hs2.1 hs2.2.2.2.1 (by have := HLN.out; omega))
    clear hO2 hs2 HB1 c0 c1
    generalize stWrite hardN (Rc.recd (hardC a b)) t = RES at *
    go_wp2_with fail
    refine H1.out.mono ?_
    clear H1
    rintro e w3 ⟨rfl, hL⟩
    obtain ⟨lv3, m3, hR3, hF3⟩ := FootL.of hL
    have HF := Lib.hid (FootL.to hR3 ((FootL.below _ HB2.out).trans hF3))
    clear hL hR3 hF3
    go_wp2
    go_ret
    exact ⟨rfl, HF.out⟩
/-- what SaveSnap answers, and makes of a disk, whatever it is asked to save -/
def stSnapR (i t : Int) (vs ls ds : List Int) (dn : Nat) (st : St) : Int × St := if snapOk i t vs ls dn then stWrite snapN (Rc.recd (snapC i.toNat t.toNat (toNats vs) (toNats ls) ds)) st else (1, st)
theorem snapC_len {i t : Int} {vs ls ds : List Int} {dn : Nat} (hok : snapOk i t vs ls dn = true) (hd : ds.length = dn) : (snapC i.toNat t.toNat (toNats vs) (toNats ls) ds).length ≤ 60500 := by
  obtain ⟨a, c, v, l, e1, e2, e3, e4, _⟩ := snap_nat hok
  have hx : (⟨a, c, v, l, ds⟩ : Sp).ok = true := by
    unfold Sp.ok
    simp only
    rw [hd, ← e1, ← e2, ← e3, ← e4]
    exact hok
  have := code_len_le ⟨a, c, v, l, ds⟩ hx
  rw [e1, e2, e3, e4, toNats_ints, toNats_ints, Int.toNat_natCast, Int.toNat_natCast]
  exact this
set_option maxRecDepth 100000 in
set_option maxHeartbeats 1600000 in
theorem rsaveSnap_any (r : Nat) (lv : Value) (m : List Ent) (st : St) (i t : Int) (VA : Option Addr) (vn vc : Nat) (vs : List Int) (LA : Option Addr) (ln lc : Nat) (ls : List Int) (DA : Option Addr) (dn dc : Nat) (ds : List Int) (w : World) (h : Rf w r lv m st) (hm : st.fs.length ≤ 800000) (hv : RdI w VA vn vs) (hl : RdI w LA ln ls) (hd : Rd w DA dn ds) (hD : DA = none → dc = 0) :
    Calls Tryz.prog 14 #[.pointer (some ⟨r, 0, none⟩), snapV i t (.slice VA vn vc) (.slice LA ln lc) (.slice DA dn dc)] w (RDid2 w r lv m (stSnapR i t vs ls ds dn st)) := by
  have hb0 := alloc_below w (.cells #[.int .i64 i, .int .i64 t, .slice VA vn vc, .slice LA ln lc, .slice DA dn dc] 38)
  have HB := Lib.hid hb0
  have H1 := Lib.hid (refencode_any i t VA vn vc vs LA ln lc ls DA dn dc ds _ (RdI.below hv hb0) (RdI.below hl hb0) (hd.below hb0) hD)
  have HR := Lib.hid h
  unfold stSnapR
  cases hok : snapOk i t vs ls dn with
  | false =>
    rw [hok] at H1
    unfold snapV at H1 ⊢
    clear h hv hl hd hD hb0
    go_enter Tryz.func14, Tryz.ntmps14
    go_wp2_with fail
    refine H1.out.mono ?_
    rintro e w1 ⟨rfl, hb1⟩
    have HB1 := Lib.hid (HB.out.trans (hb1.mono HB.out.size))
    clear hb1
    go_wp2
    go_ret
    exact ⟨rfl, FootL.to (rf_below HR.out HB1.out) (FootL.below _ HB1.out)⟩
  | true =>
    rw [hok] at H1
    rw [if_pos rfl]
    have HLN := Lib.hid (snapC_len hok hd.1)
    unfold snapV at H1 ⊢
    clear h hok hv hl hd hD hb0
    generalize snapC i.toNat t.toNat (toNats vs) (toNats ls) ds = zs at *
    go_enter Tryz.func14, Tryz.ntmps14
    go_wp2_with fail
    refine H1.out.mono ?_
    clear H1
    rintro e w2 ⟨v2, rfl, hO2⟩
    obtain ⟨A2, c2, hv2, hs2, _⟩ := hO2.sl _ rfl
    subst hv2
    have HB2 := Lib.hid (HB.out.trans (hO2.1.mono HB.out.size))
    have HR2 := Lib.hid (rf_below HR.out HB2.out)
    have H1 := Lib.hid (rwrite_any r lv m st snapN A2 _ c2 zs w2 HR2.out (by decide) hm hs2.1 hs2.2.2.2.1 (by have := HLN.out; omega))
    clear hO2 hs2 HB
    generalize stWrite snapN (Rc.recd zs) st = RES at *
    generalize zs.length = zl at *
    go_wp2_with fail
    refine H1.out.mono ?_
    clear H1
    rintro e w3 ⟨rfl, hL⟩
    obtain ⟨lv3, m3, hR3, hF3⟩ := FootL.of hL
    have HF := Lib.hid (FootL.to hR3 ((FootL.below _ HB2.out).trans hF3))
    clear hL hR3 hF3
    go_wp2
    go_ret
    exact ⟨rfl, HF.out⟩
set_option maxRecDepth 100000 in
set_option maxHeartbeats 3200000 in
theorem rloadSnap_any (r : Nat) (lv : Value) (m : List Ent) (t : St) (w : World) (h : Rf w r lv m t) (hm : t.fs.length ≤ 800000) :
    Calls Tryz.prog 26 #[.pointer (some ⟨r, 0, none⟩)] w (RSnapIs w (ldSnap t)) := by
  have hb1 := alloc_below' w (.cells #[.int .i64 0, .int .i64 0, .slice none 0 0, .slice none 0 0, .slice none 0 0] 38)
  have HB := Lib.hid hb1
  have H1 := Lib.hid (rread_b r lv m t ⟨#[115, 110, 97, 112]⟩ _ (rf_below h hb1) (by omega) (by decide))
  rw [show (ByteArray.mk #[115, 110, 97, 112]).data.toList = snapN from rfl] at H1
  have K0 := Lib.hid (Blk.new w #[.int .i64 0, .int .i64 0, .slice none 0 0, .slice none 0 0, .slice none 0 0] 38)
  have HC := ld_cases (stRead snapN t) (fun e => (sp0, e)) decSp (ldSnap t) rfl
  clear h hb1
  generalize ldSnap t = R at *
  generalize rdB (stRead snapN t) = Q at *
  rcases HC with ⟨e0, rfl, rfl⟩ | ⟨rfl, rfl⟩ | ⟨cc, rfl, rfl⟩
  · try simp only at H1
    by_cases h0 : e0 = 0
    · subst h0
      go_enter Tryz.func26, Tryz.ntmps26
      go_wp2_with fail
      refine H1.out.mono ?_
      rintro e w2 ⟨A, n, cap, rfl, hrd, hA, hnc, hn, hb2⟩
      have HB2 := Lib.hid (HB.out.trans (hb2.mono HB.out.size))
      have K2 := Lib.hid (K0.out.below hb2)
      clear hrd hA hb2
      obtain ⟨r0, r1, r2, r3, r4⟩ := Blk.five K2.out
      have g0 := K2.out.free 0
      have g1 := K2.out.free 1
      have g2 := K2.out.free 2
      have g3 := K2.out.free 3
      have g4 := K2.out.free 4
      go_wp2
      refine bodyPost_ret (v := .tuple #[.agg #[.int .i64 0, .int .i64 0, .slice none 0 0, .slice none 0 0, .slice none 0 0], .int .i64 0]) ?_ ?_ ?_
      · exact results_two Tryz.results26 _ _ w.heap.size 38 #[.int .i64 0, .int .i64 0, .slice none 0 0, .slice none 0 0, .slice none 0 0] (0, 0) _ rfl (Blk.fives K2.out _ _ _ _ _) Tryz.underlying38 rfl (by kernel_rfl)
      · rfl
      · exact ⟨none, none, none, 0, 0, 0, rfl, (SpAt.zero _).v, (SpAt.zero _).l, (SpAt.zero _).d, below_fives HB2.out _ _ _ _ _ _ (Nat.le_refl _), (fun a h => by cases h), (fun a h => by cases h)⟩
    · go_enter Tryz.func26, Tryz.ntmps26
      go_wp2_with fail
      refine H1.out.mono ?_
      rintro e w2 ⟨A, n, cap, rfl, hrd, hA, hnc, hn, hb2⟩
      have HB2 := Lib.hid (HB.out.trans (hb2.mono HB.out.size))
      have K2 := Lib.hid (K0.out.below hb2)
      clear hrd hA hb2
      obtain ⟨r0, r1, r2, r3, r4⟩ := Blk.five K2.out
      have g0 := K2.out.free 0
      have g1 := K2.out.free 1
      have g2 := K2.out.free 2
      have g3 := K2.out.free 3
      have g4 := K2.out.free 4
      go_wp2
      refine bodyPost_ret (v := .tuple #[.agg #[.int .i64 0, .int .i64 0, .slice none 0 0, .slice none 0 0, .slice none 0 0], .int .i64 e0]) ?_ ?_ ?_
      · exact results_two Tryz.results26 _ _ w.heap.size 38 #[.int .i64 0, .int .i64 0, .slice none 0 0, .slice none 0 0, .slice none 0 0] (0, 0) _ rfl (Blk.fives K2.out _ _ _ _ _) Tryz.underlying38 rfl (by kernel_rfl)
      · rfl
      · exact ⟨none, none, none, 0, 0, 0, rfl, (SpAt.zero _).v, (SpAt.zero _).l, (SpAt.zero _).d, below_fives HB2.out _ _ _ _ _ _ (Nat.le_refl _), (fun a h => by cases h), (fun a h => by cases h)⟩
  · try simp only at H1
    go_enter Tryz.func26, Tryz.ntmps26
    go_wp2_with fail
    refine H1.out.mono ?_
    rintro e w2 ⟨A, n, cap, rfl, hrd, hA, hnc, hn, hb2⟩
    have HB2 := Lib.hid (HB.out.trans (hb2.mono HB.out.size))
    have K2 := Lib.hid (K0.out.below hb2)
    clear hrd hA hb2
    obtain ⟨r0, r1, r2, r3, r4⟩ := Blk.five K2.out
    have g0 := K2.out.free 0
    have g1 := K2.out.free 1
    have g2 := K2.out.free 2
    have g3 := K2.out.free 3
    have g4 := K2.out.free 4
    go_wp2
    refine bodyPost_ret (v := .tuple #[.agg #[.int .i64 0, .int .i64 0, .slice none 0 0, .slice none 0 0, .slice none 0 0], .int .i64 6]) ?_ ?_ ?_
    · exact results_two Tryz.results26 _ _ w.heap.size 38 #[.int .i64 0, .int .i64 0, .slice none 0 0, .slice none 0 0, .slice none 0 0] (0, 0) _ rfl (Blk.fives K2.out _ _ _ _ _) Tryz.underlying38 rfl (by kernel_rfl)
    · rfl
    · exact ⟨none, none, none, 0, 0, 0, rfl, (SpAt.zero _).v, (SpAt.zero _).l, (SpAt.zero _).d, below_fives HB2.out _ _ _ _ _ _ (Nat.le_refl _), (fun a h => by cases h), (fun a h => by cases h)⟩
  · try simp only at H1
    generalize hRR : decSp cc = RR at *
    have HRR := Lib.hid hRR
    clear hRR
    obtain ⟨x, e5⟩ := RR
    go_enter Tryz.func26, Tryz.ntmps26
    go_wp2_with fail
    refine H1.out.mono ?_
    clear H1
    rintro e w2 ⟨A, n, cap, rfl, hrd, hA, hnc, hn, hb2⟩
    have H1 := Lib.hid (refdecode_any A n cap cc w2 hrd hnc (by omega))
    rw [HRR.out] at H1
    have HB2 := Lib.hid (HB.out.trans (hb2.mono HB.out.size))
    have K2 := Lib.hid (K0.out.below hb2)
    have HLO := Lib.hid (show w.heap.size < w2.heap.size from K2.out.lt)
    clear hrd hA hb2 HB K0
    go_wp2_with fail
    refine H1.out.mono ?_
    clear H1
    rintro e w5 ⟨VA, LA, DA, vc, lc, dc, rfl, hv, hl, hd, hb5, hf1, hf2⟩
    have HB5 := Lib.hid (HB2.out.trans (hb5.mono HB2.out.size))
    have K05 := Lib.hid (K2.out.below hb5)
    simp only at hv hl hd hf1 hf2
    unfold spV snapV
    simp only
    have X1 := Lib.hid (show LiX w5 VA x.vs.length (ints x.vs) w2.heap.size from ⟨hv, hf1⟩)
    have X2 := Lib.hid (show LiX w5 LA x.ls.length (ints x.ls) w2.heap.size from ⟨hl, hf2⟩)
    have X3 := Lib.hid hd
    clear hb5 hv hl hd hf1 hf2 HB2 K2
    generalize w2.heap.size = lo at *
    obtain ⟨r0, r1, r2, r3, r4⟩ := Blk.five K05.out
    have g0 := K05.out.free 0
    have g1 := K05.out.free 1
    have g2 := K05.out.free 2
    have g3 := K05.out.free 3
    have g4 := K05.out.free 4
    go_wp2
    refine bodyPost_ret (v := .tuple #[.agg #[.int .i64 x.i, .int .i64 x.t, .slice VA x.vs.length vc, .slice LA x.ls.length lc, .slice DA x.ds.length dc], .int .i64 e5]) ?_ ?_ ?_
    · exact results_two Tryz.results26 _ _ w.heap.size 38 #[.int .i64 x.i, .int .i64 x.t, .slice VA x.vs.length vc, .slice LA x.ls.length lc, .slice DA x.ds.length dc] (0, 0) _ rfl (Blk.fives K05.out _ _ _ _ _) Tryz.underlying38 rfl (by kernel_rfl)
    · rfl
    · exact ⟨VA, LA, DA, vc, lc, dc, rfl, (X1.out.fives _ HLO.out _ _ _ _ _).1, (X2.out.fives _ HLO.out _ _ _ _ _).1, Rd.fives X3.out K05.out (nu_int _ _ (by decide)) (nu_int _ _ (by decide)) (nu_sl _ _ _) (nu_sl _ _ _) (nu_sl _ _ _) _ _ _ _ _, below_fives HB5.out _ _ _ _ _ _ (Nat.le_refl _), (fun a ha => Nat.le_of_lt (Nat.lt_of_lt_of_le HLO.out (X1.out.2 a ha))), (fun a ha => Nat.le_of_lt (Nat.lt_of_lt_of_le HLO.out (X2.out.2 a ha)))⟩
set_option maxRecDepth 100000 in
set_option maxHeartbeats 3200000 in
theorem rloadHard_any (r : Nat) (lv : Value) (m : List Ent) (t : St) (w : World) (h : Rf w r lv m t) (hm : t.fs.length ≤ 800000) :
    Calls Tryz.prog 24 #[.pointer (some ⟨r, 0, none⟩)] w (HardIs w (ldHard t)) := by
  have hb1 := alloc_below' w (.cells #[.int .i64 0, .int .i64 0] 32)
  have HB := Lib.hid hb1
  have H1 := Lib.hid (rread_b r lv m t ⟨#[104, 97, 114, 100]⟩ _ (rf_below h hb1) (by omega) (by decide))
  rw [show (ByteArray.mk #[104, 97, 114, 100]).data.toList = hardN from rfl] at H1
  have K0 := Lib.hid (Blk.new w #[.int .i64 0, .int .i64 0] 32)
  have HC := ld_cases (stRead hardN t) (fun e => ((0, 0), e)) decHard (ldHard t) rfl
  clear h hb1
  generalize ldHard t = R at *
  generalize rdB (stRead hardN t) = Q at *
  rcases HC with ⟨e0, rfl, rfl⟩ | ⟨rfl, rfl⟩ | ⟨cc, rfl, rfl⟩
  · try simp only at H1
    by_cases h0 : e0 = 0
    · subst h0
      go_enter Tryz.func24, Tryz.ntmps24
      go_wp2_with fail
      refine H1.out.mono ?_
      rintro e w2 ⟨A, n, cap, rfl, hrd, hA, hnc, hn, hb2⟩
      have HB2 := Lib.hid (HB.out.trans (hb2.mono HB.out.size))
      have K2 := Lib.hid (K0.out.below hb2)
      clear hrd hA hb2
      have r0 := K2.out.cell 0 _ rfl
      have r1 := K2.out.cell 1 _ rfl
      have g0 := K2.out.free 0
      have g1 := K2.out.free 1
      go_wp2
      refine bodyPost_ret (v := .tuple #[.agg #[.int .i64 0, .int .i64 0], .int .i64 0]) ?_ ?_ ?_
      · exact results_two Tryz.results24 _ _ w.heap.size 32 #[.int .i64 0, .int .i64 0] (0, 0) _ rfl (K2.out.two _ _) Tryz.underlying32 rfl (by kernel_rfl)
      · rfl
      · exact ⟨rfl, below_two HB2.out _ _ _ (Nat.le_refl _)⟩
    · go_enter Tryz.func24, Tryz.ntmps24
      go_wp2_with fail
      refine H1.out.mono ?_
      rintro e w2 ⟨A, n, cap, rfl, hrd, hA, hnc, hn, hb2⟩
      have HB2 := Lib.hid (HB.out.trans (hb2.mono HB.out.size))
      have K2 := Lib.hid (K0.out.below hb2)
      clear hrd hA hb2
      have r0 := K2.out.cell 0 _ rfl
      have r1 := K2.out.cell 1 _ rfl
      have g0 := K2.out.free 0
      have g1 := K2.out.free 1
      go_wp2
      refine bodyPost_ret (v := .tuple #[.agg #[.int .i64 0, .int .i64 0], .int .i64 e0]) ?_ ?_ ?_
      · exact results_two Tryz.results24 _ _ w.heap.size 32 #[.int .i64 0, .int .i64 0] (0, 0) _ rfl (K2.out.two _ _) Tryz.underlying32 rfl (by kernel_rfl)
      · rfl
      · exact ⟨rfl, below_two HB2.out _ _ _ (Nat.le_refl _)⟩
  · try simp only at H1
    go_enter Tryz.func24, Tryz.ntmps24
    go_wp2_with fail
    refine H1.out.mono ?_
    rintro e w2 ⟨A, n, cap, rfl, hrd, hA, hnc, hn, hb2⟩
    have HB2 := Lib.hid (HB.out.trans (hb2.mono HB.out.size))
    have K2 := Lib.hid (K0.out.below hb2)
    clear hrd hA hb2
    have r0 := K2.out.cell 0 _ rfl
    have r1 := K2.out.cell 1 _ rfl
    have g0 := K2.out.free 0
    have g1 := K2.out.free 1
    go_wp2
    refine bodyPost_ret (v := .tuple #[.agg #[.int .i64 0, .int .i64 0], .int .i64 6]) ?_ ?_ ?_
    · exact results_two Tryz.results24 _ _ w.heap.size 32 #[.int .i64 0, .int .i64 0] (0, 0) _ rfl (K2.out.two _ _) Tryz.underlying32 rfl (by kernel_rfl)
    · rfl
    · exact ⟨rfl, below_two HB2.out _ _ _ (Nat.le_refl _)⟩
  · try simp only at H1
    have HF := Lib.hid (decHard_eq cc)
    generalize decHard cc = RES at *
    have HV1 := Lib.hid (rdN_most (cc, false) 1099511627776)
    generalize hq1 : rdN (cc, false) 1099511627776 = a1 at *
    have HQ1 := Lib.hid hq1
    clear hq1
    obtain ⟨v1, q1⟩ := a1
    have hv1 : v1 ≤ 1099511627776 := HV1.out
    try simp only at HF
    have HV2 := Lib.hid (rdN_most q1 15)
    generalize hq2 : rdN q1 15 = a2 at *
    have HQ2 := Lib.hid hq2
    clear hq2
    obtain ⟨v2, q2⟩ := a2
    have hv2 : v2 ≤ 15 := HV2.out
    try simp only at HF
    go_enter Tryz.func24, Tryz.ntmps24
    go_wp2_with fail
    refine H1.out.mono ?_
    clear H1
    rintro e w2 ⟨A, n, cap, rfl, hrd, hA, hnc, hn, hb2⟩
    have hb3 := alloc_below' w2 (.cells #[.slice A n cap, .int .i64 0, .bool false] 97)
    have D3 := Lib.hid (show DAt (w2.alloc (.cells #[.slice A n cap, .int .i64 0, .bool false] 97)) w2.heap.size A n cap cc cc false from ⟨0, ⟨heap_alloc_new w2 (.cells #[.slice A n cap, .int .i64 0, .bool false] 97), hrd.below hb3, Nat.zero_le _, hnc, by omega⟩, rfl⟩)
    have HB2 := Lib.hid (HB.out.trans (hb2.mono HB.out.size))
    have K3 := Lib.hid ((K0.out.below hb2).past (.cells #[.slice A n cap, .int .i64 0, .bool false] 97))
    have HC3 := Lib.hid (show Chg w2.heap.size w (w2.alloc (.cells #[.slice A n cap, .int .i64 0, .bool false] 97)) from (Chg.below HB2.out).alloc _)
    have HRG := Lib.hid (show w.heap.size ≠ w2.heap.size ∧ w.heap.size ≤ w2.heap.size from by have := (K0.out.below hb2).lt; exact ⟨by omega, by omega⟩)
    clear hrd hA hb2 hb3 HB K0
    have H1 := Lib.hid (dnum_a w2.heap.size A n cap cc (cc, false) _ 1099511627776 D3.out)
    rw [HQ1.out] at H1
    go_wp2_with fail
    generalize w2.alloc (.cells #[.slice A n cap, .int .i64 0, .bool false] 97) = w3 at *
    generalize w2.heap.size = g at *
    refine H1.out.mono ?_
    clear H1
    rintro e w4 ⟨rfl, hc, hr⟩
    have HC4 := Lib.hid (HC3.out.trans hc)
    have K4 := Lib.hid (K3.out.chg hc HRG.out.1)
    have D4 := Lib.hid hr
    clear hc hr D3 K3 HC3
    have H1 := Lib.hid (dnum_a g A n cap cc q1 w4 15 D4.out)
    rw [HQ2.out] at H1
    go_wp2_with fail
    refine H1.out.mono ?_
    clear H1
    rintro e w5 ⟨rfl, hc, hr⟩
    have T5 := Lib.hid (show TwosD g A n cap cc w (w5.alloc (.cells #[.int .i64 (v1 : Int), .int .i64 (v2 : Int)] 32)) q2 w.heap.size w5.heap.size #[.int .i64 0, .int .i64 0] #[.int .i64 (v1 : Int), .int .i64 (v2 : Int)] 32 32 from
      ⟨hr.below (alloc_below' w5 _), (K4.out.chg hc HRG.out.1).past _, Blk.new w5 _ _, (HC4.out.trans hc).alloc _, Nat.le_refl _, (HC4.out.trans hc).size, by have := (K4.out.chg hc HRG.out.1).lt; omega, HRG.out.1, by have := hr.lt; omega⟩)
    clear hc hr D4 K4 HC4
    go_wp2_with fail
    generalize w5.alloc (.cells #[.int .i64 (v1 : Int), .int .i64 (v2 : Int)] 32) = w6 at *
    generalize w5.heap.size = C at *
    refine (dwhole_any g q2.1 q2.2 w6 T5.out.rd.docR).mono ?_
    rintro e w7 ⟨rfl, nd, hw7⟩
    have T7 := Lib.hid (show TwosD g A n cap cc w w7 q2 w.heap.size C #[.int .i64 0, .int .i64 0] #[.int .i64 (v1 : Int), .int .i64 (v2 : Int)] 32 32 from by rw [hw7]; exact T5.out.past (below_dr w6 nd))
    clear hw7 T5
    have d0 := T7.out.own.cell 0 _ rfl
    have d1 := T7.out.own.cell 1 _ rfl
    have r0 := T7.out.res.cell 0 _ rfl
    have r1 := T7.out.res.cell 1 _ rfl
    have g0 := T7.out.res.free 0
    have g1 := T7.out.res.free 1
    have hne := T7.out.ne.1
    generalize wholeB q2.1 q2.2 = wh at *
    cases wh with
    | false =>
      go_wp2
      refine bodyPost_ret (v := .tuple #[.agg #[.int .i64 0, .int .i64 0], .int .i64 6]) ?_ ?_ ?_
      · exact results_two Tryz.results24 _ _ w.heap.size 32 #[.int .i64 0, .int .i64 0] (0, 0) _ rfl (T7.out.res.two _ _) Tryz.underlying32 rfl (by kernel_rfl)
      · rfl
      · exact ⟨by rw [HF.out]; rfl, below_two (T7.out.below HRG.out.2) _ _ _ (Nat.le_refl _)⟩
    | true =>
      go_wp2
      refine bodyPost_ret (v := .tuple #[.agg #[.int .i64 (v1 : Int), .int .i64 (v2 : Int)], .int .i64 0]) ?_ ?_ ?_
      · exact results_two Tryz.results24 _ _ w.heap.size 32 #[.int .i64 (v1 : Int), .int .i64 (v2 : Int)] (0, 0) _ rfl (T7.out.res.two _ _) Tryz.underlying32 rfl (by kernel_rfl)
      · rfl
      · exact ⟨by rw [HF.out]; rfl, below_two (T7.out.below HRG.out.2) _ _ _ (Nat.le_refl _)⟩
end Go.Proofs.YtejphnbhcabchaaGreat.Kp
