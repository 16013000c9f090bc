/-
  Layer 7: snapshots, saved and loaded: save, SaveSnap, load, LoadSnap. Conditions: the disk lies in memory as it was made; the snapshot can be read.
-/
import Derived.Test.YtejphnbhcabchaaGreatKeepOne
import Derived.Test.YtejphnbhcabchaaGreatKeepE
namespace Go.Proofs.YtejphnbhcabchaaGreat.Kp
open Go.RowKit Go.Proofs.YtejphnbhcabchaaGreat.Dk Go.Proofs.YtejphnbhcabchaaGreat.Fld
set_option linter.unusedVariables false

/-- a snapshot's bytes -/
def Sp.code (x : Sp) : List Int := snapC x.i x.t x.vs x.ls x.ds
theorem toNats_vs (x : Sp) : toNats (ints x.vs) = x.vs := toNats_ints _
theorem code_len_le (x : Sp) (h : x.ok = true) : x.code.length ≤ 60500 := by
  obtain ⟨a, b, v, l, e1, e2, e3, e4, h1, h2, h3, h4, h5, h6, h7⟩ := snap_nat h
  have e1' : x.i = a := by omega
  have e2' : x.t = b := by omega
  have e3' : x.vs = v := by have := congrArg toNats e3; rwa [toNats_ints, toNats_ints] at this
  have e4' : x.ls = l := by have := congrArg toNats e4; rwa [toNats_ints, toNats_ints] at this
  unfold Sp.code snapC
  rw [e1', e2', e3', e4']
  have hL1 := enc_len [a, b] (by simp; omega)
  have hL2 := enc_len (v.length :: v) (by
    intro m hm
    rcases List.mem_cons.1 hm with rfl | hm
    · omega
    · have := h5 m hm; omega)
  have hL3 := enc_len (l.length :: l) (by
    intro m hm
    rcases List.mem_cons.1 hm with rfl | hm
    · omega
    · have := h6 m hm; omega)
  have hL4 := textC_len x.ds
  have hD8 := digs_len8 x.ds.length (by omega)
  simp only [List.length_append, List.length_cons, List.length_nil] at *
  omega
theorem enc_sp (x : Sp) (VA LA DA : Option Addr) (vc lc dc : Nat) (w : World) (h : SpAt w x VA LA DA vc lc dc) : Calls Tryz.prog 31 #[spV x VA LA DA vc lc dc] w (Encd w x.ok x.code) := by
  have := encode_any x.i x.t VA _ vc _ LA _ lc _ DA _ dc x.ds w h.v h.l h.d h.dn
  rw [toNats_ints, toNats_ints, Int.toNat_natCast, Int.toNat_natCast] at this
  exact this
def stSnap (x : Sp) (t : St) : Int × St := if x.ok then stWrite snapN (Rc.recd x.code) t else (1, t)
def ldSnap (t : St) : Sp × Int :=
  if (stRead snapN t).1 = 2 then (sp0, 0) else if (stRead snapN t).1 ≠ 0 then (sp0, (stRead snapN t).1)
  else match single (stRead snapN t).2 with | some c => decSp c | none => (sp0, 6)
set_option maxRecDepth 100000 in
set_option maxHeartbeats 1600000 in
theorem saveS_any (g b : Nat) (m : List Ent) (t : St) (x : Sp) (VA LA DA : Option Addr) (vc lc dc : Nat) (w : World) (h : Im w g b m t) (hx : SpAt w x VA LA DA vc lc dc) (hm : t.fs.length ≤ 900000) :
    Calls Tryz.prog 41 #[.pointer (some ⟨g, 0, none⟩), .string ⟨#[115, 110, 97, 112]⟩, spV x VA LA DA vc lc dc, .func (.func 31) #[] #[]] w (Did w g b m (stSnap x t)) := by
  have HB := Lib.hid (alloc_below w (.cells #[.int .i64 x.i, .int .i64 x.t, .slice VA x.vs.length vc, .slice LA x.ls.length lc, .slice DA x.ds.length dc] 38))
  have HE := Lib.hid (enc_sp x VA LA DA vc lc dc _ (hx.below HB.out))
  have HI := Lib.hid h
  unfold stSnap
  cases hok : x.ok with
  | false =>
    rw [hok] at HE
    unfold spV snapV at HE ⊢
    clear h hx
    go_enter Tryz.func41, Tryz.ntmps41
    go_wp2_with fail
    refine HE.out.mono ?_
    rintro e w1 ⟨rfl, hb1⟩
    have HB1 := Lib.hid (HB.out.trans (hb1.mono HB.out.size))
    clear hb1
    go_wp2
    go_ret
    exact ⟨rfl, m, HI.out.below HB1.out, LeftM.below HB1.out⟩
  | true =>
    rw [hok] at HE
    unfold spV snapV at HE ⊢
    have HLN := Lib.hid (code_len_le x hok)
    clear hok h hx
    rw [if_pos rfl]
    generalize x.code = zs at *
    go_enter Tryz.func41, Tryz.ntmps41
    go_wp2_with fail
    refine HE.out.mono ?_
    rintro e w1 ⟨v1, rfl, hO1⟩
    obtain ⟨A1, c1, rfl, hs1, _⟩ := hO1.sl _ rfl
    have HB1 := Lib.hid (HB.out.trans (hO1.1.mono HB.out.size))
    have HP := Lib.hid (Rc.put_ok A1 _ c1 zs w1 hs1.1 hs1.2.2.2.1 (by have := HLN.out; omega))
    clear hs1 hO1 HE
    go_wp2_with fail
    refine HP.out.mono ?_
    rintro e w2 ⟨v2, rfl, hO2⟩
    obtain ⟨A2, c2, rfl, hs2, hf2⟩ := hO2.sl _ rfl
    have HI2 := Lib.hid (HI.out.below (HB1.out.trans (hO2.1.mono HB1.out.size)))
    have HL2 := Lib.hid (LeftM.below (g := g) (b := b) (m := m) (HB1.out.trans (hO2.1.mono HB1.out.size)))
    have HAP := Lib.hid (apart_new (HI.out.below HB1.out) hs2.1 hf2)
    have HW := Lib.hid (write_any g b m t snapN A2 _ c2 _ w2 HI2.out (by decide) hm HAP.out hs2.2.2.2.1 (by rw [Rc.recd_len]; have := HLN.out; omega))
    clear hs2 hO2 hf2 HP HAP
    go_wp2_with fail
    refine HW.out.mono ?_
    rintro e w3 ⟨rfl, m3, hI3, hL3⟩
    have HD := Lib.hid (show Dk.Left w g b m (stWrite snapN (Rc.recd zs) t).2 w3 from ⟨m3, hI3, HL2.out.trans hL3⟩)
    clear hI3 hL3 HW
    generalize stWrite snapN (Rc.recd zs) t = R at *
    go_wp2
    go_ret
    exact ⟨rfl, HD.out⟩
set_option maxRecDepth 100000 in
theorem saveSnap_any (g b : Nat) (m : List Ent) (t : St) (x : Sp) (VA LA DA : Option Addr) (vc lc dc : Nat) (w : World) (h : Im w g b m t) (hx : SpAt w x VA LA DA vc lc dc) (hm : t.fs.length ≤ 900000) :
    Calls Tryz.prog 13 #[.pointer (some ⟨g, 0, none⟩), spV x VA LA DA vc lc dc] w (Did w g b m (stSnap x t)) := by
  have HB := alloc_below w (.cells #[.int .i64 x.i, .int .i64 x.t, .slice VA x.vs.length vc, .slice LA x.ls.length lc, .slice DA x.ds.length dc] 38)
  have HS := Lib.hid (saveS_any g b m t x VA LA DA vc lc dc _ (h.below HB) (hx.below HB) hm)
  have HL := Lib.hid (LeftM.below (g := g) (b := b) (m := m) HB)
  unfold spV snapV at HS ⊢
  clear h HB hx
  generalize stSnap x t = R at *
  go_enter Tryz.func13, Tryz.ntmps13
  go_wp2_with fail
  refine HS.out.mono ?_
  rintro e w3 ⟨rfl, m3, hI3, hL3⟩
  have HD := Lib.hid (show Dk.Left w g b m R.2 w3 from ⟨m3, hI3, HL.out.trans hL3⟩)
  clear hI3 hL3
  go_wp2
  go_ret
  exact ⟨rfl, HD.out⟩
set_option maxRecDepth 100000 in
set_option maxHeartbeats 3200000 in
theorem loadS_any (g b : Nat) (m : List Ent) (t : St) (w : World) (h : Im w g b m t) :
    Calls Tryz.prog 55 #[.pointer (some ⟨g, 0, none⟩), .string ⟨#[115, 110, 97, 112]⟩, .func (.func 33) #[] #[]] w (SnapIs w (ldSnap t)) := by
  have hb1 := alloc_below' w (.cells #[.int .i64 0, .int .i64 0, .slice none 0 0, .slice none 0 0, .slice none 0 0] 38)
  have hb2 : Below w.heap.size w ((w.alloc (.cells #[.int .i64 0, .int .i64 0, .slice none 0 0, .slice none 0 0, .slice none 0 0] 38)).alloc (.cells #[.int .i64 0, .int .i64 0, .slice none 0 0, .slice none 0 0, .slice none 0 0] 38)) := hb1.alloc hb1.size _
  have HB := Lib.hid hb2
  have HR := Lib.hid (read_fresh g b m t ⟨#[115, 110, 97, 112]⟩ _ (h.below hb2))
  have K0 := Lib.hid ((Blk.new w #[.int .i64 0, .int .i64 0, .slice none 0 0, .slice none 0 0, .slice none 0 0] 38).past (.cells #[.int .i64 0, .int .i64 0, .slice none 0 0, .slice none 0 0, .slice none 0 0] 38))
  have K1 := Lib.hid (show Blk ((w.alloc (.cells #[.int .i64 0, .int .i64 0, .slice none 0 0, .slice none 0 0, .slice none 0 0] 38)).alloc (.cells #[.int .i64 0, .int .i64 0, .slice none 0 0, .slice none 0 0, .slice none 0 0] 38)) (w.heap.size + 1) #[.int .i64 0, .int .i64 0, .slice none 0 0, .slice none 0 0, .slice none 0 0] 38 by
    have := Blk.new (w.alloc (.cells #[.int .i64 0, .int .i64 0, .slice none 0 0, .slice none 0 0, .slice none 0 0] 38)) #[.int .i64 0, .int .i64 0, .slice none 0 0, .slice none 0 0, .slice none 0 0] 38
    simpa using this)
  have HF := Lib.hid (show ldSnap t = if (stRead snapN t).1 = 2 then (sp0, 0) else if (stRead snapN t).1 ≠ 0 then (sp0, (stRead snapN t).1) else match single (stRead snapN t).2 with | some c => decSp c | none => (sp0, 6) from rfl)
  rw [show (ByteArray.mk #[115, 110, 97, 112]).data.toList = snapN from rfl] at HR
  clear h hb1 hb2
  generalize stRead snapN t = r at *
  generalize ldSnap t = R at *
  obtain ⟨c, zs⟩ := r
  go_enter Tryz.func55, Tryz.ntmps55
  go_wp2_with fail
  generalize (w.alloc (.cells #[.int .i64 0, .int .i64 0, .slice none 0 0, .slice none 0 0, .slice none 0 0] 38)).alloc (.cells #[.int .i64 0, .int .i64 0, .slice none 0 0, .slice none 0 0, .slice none 0 0] 38) = w2 at *
  refine HR.out.mono ?_
  rintro e w3 ⟨A, n, cap, rfl, hs, hn, _, hb3⟩
  simp only at hs HF ⊢
  have HS := Lib.hid (single_any A n cap zs w3 hs hn)
  have HLZ := Lib.hid hs.1.1
  have HB3 := Lib.hid (HB.out.trans (hb3.mono HB.out.size))
  have K03 := Lib.hid (K0.out.below hb3)
  have K13 := Lib.hid (K1.out.below hb3)
  clear hs hb3 HR HB K0 K1
  by_cases h2 : c = 2
  · subst h2
    rw [if_pos rfl] at HF
    have d0 := K13.out.cell 0 _ rfl
    have d1 := K13.out.cell 1 _ rfl
    have d2 := K13.out.cell 2 _ rfl
    have d3 := K13.out.cell 3 _ rfl
    have d4 := K13.out.cell 4 _ rfl
    have r0 := K03.out.cell 0 _ rfl
    have g0 := K03.out.free 0
    have r1 := K03.out.cell 1 _ rfl
    have g1 := K03.out.free 1
    have r2 := K03.out.cell 2 _ rfl
    have g2 := K03.out.free 2
    have r3 := K03.out.cell 3 _ rfl
    have g3 := K03.out.free 3
    have r4 := K03.out.cell 4 _ rfl
    have g4 := K03.out.free 4
    go_wp2
    refine bodyPost_ret (v := .tuple #[.agg #[.int .i64 0, .int .i64 0, .slice none 0 0, .slice none 0 0, .slice none 0 0], .int .i64 0]) ?_ ?_ ?_
    · exact results_two Tryz.results55 _ _ w.heap.size 38 #[.int .i64 0, .int .i64 0, .slice none 0 0, .slice none 0 0, .slice none 0 0] (0, 0) _ rfl (Blk.fives K03.out _ _ _ _ _) Tryz.underlying38 rfl (by kernel_rfl)
    · rfl
    · rw [HF.out]; exact ⟨none, none, none, 0, 0, 0, rfl, SpAt.zero _, below_fives HB3.out _ _ _ _ _ _ (Nat.le_refl _), (fun a h => by cases h), (fun a h => by cases h)⟩
  rw [if_neg h2] at HF
  by_cases h0 : c = 0
  · subst h0
    rw [if_neg (by simp)] at HF
    go_wp2_with fail
    refine HS.out.mono ?_
    rintro e w4 ⟨A4, n4, c4, rfl, hrd, hA4, hb4⟩
    have HB4 := Lib.hid (HB3.out.trans (hb4.mono HB3.out.size))
    have K04 := Lib.hid (K03.out.below hb4)
    have K14 := Lib.hid (K13.out.below hb4)
    clear hb4 HB3 K03 K13 HS
    cases hsg : single zs with
    | none =>
      rw [hsg] at HF
      clear hrd hA4
      have d0 := K14.out.cell 0 _ rfl
      have d1 := K14.out.cell 1 _ rfl
      have d2 := K14.out.cell 2 _ rfl
      have d3 := K14.out.cell 3 _ rfl
      have d4 := K14.out.cell 4 _ rfl
      have r0 := K04.out.cell 0 _ rfl
      have g0 := K04.out.free 0
      have r1 := K04.out.cell 1 _ rfl
      have g1 := K04.out.free 1
      have r2 := K04.out.cell 2 _ rfl
      have g2 := K04.out.free 2
      have r3 := K04.out.cell 3 _ rfl
      have g3 := K04.out.free 3
      have r4 := K04.out.cell 4 _ rfl
      have g4 := K04.out.free 4
      go_wp2
      refine bodyPost_ret (v := .tuple #[.agg #[.int .i64 0, .int .i64 0, .slice none 0 0, .slice none 0 0, .slice none 0 0], .int .i64 6]) ?_ ?_ ?_
      · exact results_two Tryz.results55 _ _ w.heap.size 38 #[.int .i64 0, .int .i64 0, .slice none 0 0, .slice none 0 0, .slice none 0 0] (0, 0) _ rfl (Blk.fives K04.out _ _ _ _ _) Tryz.underlying38 rfl (by kernel_rfl)
      · rfl
      · rw [HF.out]; exact ⟨none, none, none, 0, 0, 0, rfl, SpAt.zero _, below_fives HB4.out _ _ _ _ _ _ (Nat.le_refl _), (fun a h => by cases h), (fun a h => by cases h)⟩
    | some cc =>
      rw [hsg] at HF hrd
      have HLC := Lib.hid (single_len hsg)
      have HD := Lib.hid (decode_any A4 n4 c4 cc w4 hrd hA4 (by have h5 : cc.length = n4 := hrd.1; have := HLC.out; have := HLZ.out; omega))
      clear hrd hA4
      simp only at HF
      rw [← HF.out] at HD
      go_wp2_with fail
      refine HD.out.mono ?_
      rintro e w5 ⟨VA, LA, DA, vc, lc, dc, rfl, hsp, hb5, hf1, hf2⟩
      have HB5 := Lib.hid (HB4.out.trans (hb5.mono HB4.out.size))
      have K05 := Lib.hid (K04.out.below hb5)
      obtain ⟨x, e5⟩ := R
      simp only at hsp
      unfold spV snapV
      simp only
      have HSP := Lib.hid hsp
      have HLO := Lib.hid (show w.heap.size < w4.heap.size ∧ w.heap.size ≤ w4.heap.size from ⟨K04.out.lt, Nat.le_of_lt K04.out.lt⟩)
      have X1 := Lib.hid (show LiX w5 VA x.vs.length (ints x.vs) w4.heap.size from ⟨hsp.v, hf1⟩)
      have X2 := Lib.hid (show LiX w5 LA x.ls.length (ints x.ls) w4.heap.size from ⟨hsp.l, hf2⟩)
      clear hb5 HB4 K04 K14 hsp hf1 hf2 HD
      generalize w4.heap.size = lo at *
      have r0 := K05.out.cell 0 _ rfl
      have g0 := K05.out.free 0
      have r1 := K05.out.cell 1 _ rfl
      have g1 := K05.out.free 1
      have r2 := K05.out.cell 2 _ rfl
      have g2 := K05.out.free 2
      have r3 := K05.out.cell 3 _ rfl
      have g3 := K05.out.free 3
      have r4 := K05.out.cell 4 _ rfl
      have g4 := K05.out.free 4
      go_wp2
      refine bodyPost_ret (v := .tuple #[.agg #[.int .i64 x.i, .int .i64 x.t, .slice VA x.vs.length vc, .slice LA x.ls.length lc, .slice DA x.ds.length dc], .int .i64 e5]) ?_ ?_ ?_
      · exact results_two Tryz.results55 _ _ w.heap.size 38 #[.int .i64 x.i, .int .i64 x.t, .slice VA x.vs.length vc, .slice LA x.ls.length lc, .slice DA x.ds.length dc] (0, 0) _ rfl (Blk.fives K05.out _ _ _ _ _) Tryz.underlying38 rfl (by kernel_rfl)
      · rfl
      · exact ⟨VA, LA, DA, vc, lc, dc, rfl, ⟨(X1.out.fives _ HLO.out.1 _ _ _ _ _).1, (X2.out.fives _ HLO.out.1 _ _ _ _ _).1, Rd.fives HSP.out.d K05.out (nu_int _ _ (by decide)) (nu_int _ _ (by decide)) (nu_sl _ _ _) (nu_sl _ _ _) (nu_sl _ _ _) _ _ _ _ _, HSP.out.dn⟩, below_fives HB5.out _ _ _ _ _ _ (Nat.le_refl _), (fun a ha => Nat.le_trans HLO.out.2 (X1.out.2 a ha)), (fun a ha => Nat.le_trans HLO.out.2 (X2.out.2 a ha))⟩
  · rw [if_pos h0] at HF
    have d0 := K13.out.cell 0 _ rfl
    have d1 := K13.out.cell 1 _ rfl
    have d2 := K13.out.cell 2 _ rfl
    have d3 := K13.out.cell 3 _ rfl
    have d4 := K13.out.cell 4 _ rfl
    have r0 := K03.out.cell 0 _ rfl
    have g0 := K03.out.free 0
    have r1 := K03.out.cell 1 _ rfl
    have g1 := K03.out.free 1
    have r2 := K03.out.cell 2 _ rfl
    have g2 := K03.out.free 2
    have r3 := K03.out.cell 3 _ rfl
    have g3 := K03.out.free 3
    have r4 := K03.out.cell 4 _ rfl
    have g4 := K03.out.free 4
    go_wp2
    refine bodyPost_ret (v := .tuple #[.agg #[.int .i64 0, .int .i64 0, .slice none 0 0, .slice none 0 0, .slice none 0 0], .int .i64 c]) ?_ ?_ ?_
    · exact results_two Tryz.results55 _ _ w.heap.size 38 #[.int .i64 0, .int .i64 0, .slice none 0 0, .slice none 0 0, .slice none 0 0] (0, 0) _ rfl (Blk.fives K03.out _ _ _ _ _) Tryz.underlying38 rfl (by kernel_rfl)
    · rfl
    · rw [HF.out]; exact ⟨none, none, none, 0, 0, 0, rfl, SpAt.zero _, below_fives HB3.out _ _ _ _ _ _ (Nat.le_refl _), (fun a h => by cases h), (fun a h => by cases h)⟩
set_option maxRecDepth 100000 in
theorem loadSnap_any (g b : Nat) (m : List Ent) (t : St) (w : World) (h : Im w g b m t) :
    Calls Tryz.prog 25 #[.pointer (some ⟨g, 0, none⟩)] w (SnapIs w (ldSnap t)) := by
  have hb1 := alloc_below' w (.cells #[.int .i64 0, .int .i64 0, .slice none 0 0, .slice none 0 0, .slice none 0 0] 38)
  have HL := Lib.hid (loadS_any g b m t _ (h.below hb1))
  have HB := Lib.hid hb1
  have K0 := Lib.hid (Blk.new w #[.int .i64 0, .int .i64 0, .slice none 0 0, .slice none 0 0, .slice none 0 0] 38)
  clear h hb1
  generalize ldSnap t = R at *
  obtain ⟨x, e5⟩ := R
  go_enter Tryz.func25, Tryz.ntmps25
  go_wp2_with fail
  refine HL.out.mono ?_
  rintro e w5 ⟨VA, LA, DA, vc, lc, dc, rfl, hsp, hb5, hf1, hf2⟩
  have HB5 := Lib.hid (HB.out.trans (hb5.mono HB.out.size))
  have K05 := Lib.hid (K0.out.below hb5)
  have HLO := Lib.hid (show w.heap.size < (w.alloc (.cells #[.int .i64 0, .int .i64 0, .slice none 0 0, .slice none 0 0, .slice none 0 0] 38)).heap.size ∧ w.heap.size ≤ (w.alloc (.cells #[.int .i64 0, .int .i64 0, .slice none 0 0, .slice none 0 0, .slice none 0 0] 38)).heap.size from ⟨K0.out.lt, Nat.le_of_lt K0.out.lt⟩)
  simp only at hsp
  unfold spV snapV
  simp only
  have HSP := Lib.hid hsp
  have X1 := Lib.hid (show LiX w5 VA x.vs.length (ints x.vs) _ from ⟨hsp.v, hf1⟩)
  have X2 := Lib.hid (show LiX w5 LA x.ls.length (ints x.ls) _ from ⟨hsp.l, hf2⟩)
  clear hb5 hsp hf1 hf2 HL HB K0
  generalize (w.alloc (.cells #[.int .i64 0, .int .i64 0, .slice none 0 0, .slice none 0 0, .slice none 0 0] 38)).heap.size = lo at *
  have r0 := K05.out.cell 0 _ rfl
  have g0 := K05.out.free 0
  have r1 := K05.out.cell 1 _ rfl
  have g1 := K05.out.free 1
  have r2 := K05.out.cell 2 _ rfl
  have g2 := K05.out.free 2
  have r3 := K05.out.cell 3 _ rfl
  have g3 := K05.out.free 3
  have r4 := K05.out.cell 4 _ rfl
  have g4 := K05.out.free 4
  go_wp2
  refine bodyPost_ret (v := .tuple #[.agg #[.int .i64 x.i, .int .i64 x.t, .slice VA x.vs.length vc, .slice LA x.ls.length lc, .slice DA x.ds.length dc], .int .i64 e5]) ?_ ?_ ?_
  · exact results_two Tryz.results25 _ _ w.heap.size 38 #[.int .i64 x.i, .int .i64 x.t, .slice VA x.vs.length vc, .slice LA x.ls.length lc, .slice DA x.ds.length dc] (0, 0) _ rfl (Blk.fives K05.out _ _ _ _ _) Tryz.underlying38 rfl (by kernel_rfl)
  · rfl
  · exact ⟨VA, LA, DA, vc, lc, dc, rfl, ⟨(X1.out.fives _ HLO.out.1 _ _ _ _ _).1, (X2.out.fives _ HLO.out.1 _ _ _ _ _).1, Rd.fives HSP.out.d K05.out (nu_int _ _ (by decide)) (nu_int _ _ (by decide)) (nu_sl _ _ _) (nu_sl _ _ _) (nu_sl _ _ _) _ _ _ _ _, HSP.out.dn⟩, below_fives HB5.out _ _ _ _ _ _ (Nat.le_refl _), (fun a ha => Nat.le_trans HLO.out.2 (X1.out.2 a ha)), (fun a ha => Nat.le_trans HLO.out.2 (X2.out.2 a ha))⟩
end Go.Proofs.YtejphnbhcabchaaGreat.Kp
