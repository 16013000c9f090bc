/-
  Layer 8: Merge in the program. Conditions: the log lies in memory as it was made; what comes in lies in older memory.
-/
import Derived.Test.YtimplhdliaggfaaRlgF
namespace Go.Proofs.Ytimplhdliaggfaa.Rg
open Go.RowKit Go.Proofs.Ytimplhdliaggfaa.Fld
set_option linter.unusedVariables false

/-- what Merge leaves, and answers -/
def MrgIs (lo : Nat) (w : World) (g : Nat) (v : Value) (r : Int × Int × St) (e : Ending) (w' : World) : Prop := ∃ v' xs', e = .returned (.tuple #[.int .i64 r.1, .int .i64 r.2.1]) ∧ Done lo w w' g v r.2.2 v' xs'
theorem skp_len (b : Int) : ∀ l : List En, (skp b l).length ≤ l.length
  | [] => Nat.le_refl _
  | e :: r => by
    simp only [skp]
    split
    · have := skp_len b r
      simp only [List.length_cons]
      omega
    · exact Nat.le_refl _
theorem getD_zero {l : List EA} {e : En} {r : List En} (h : ens l = e :: r) : (l.getD 0 ea0).e = e := by
  cases l with
  | nil => cases h
  | cons x l => simp only [ens, List.map_cons, List.cons.injEq] at h; exact h.1
theorem len_cons {l : List EA} {m : Nat} (h : l.length = m) (hm : 0 < m) : ∃ e r, ens l = e :: r := by
  cases l with
  | nil => simp at h; omega
  | cons x l => exact ⟨x.e, ens l, rfl⟩
set_option maxRecDepth 100000 in
set_option maxHeartbeats 6400000 in
theorem merge_any (W0 : World) (g : Nat) (s : St) (v : Value) (xs : List EA) (LA : Option Addr) (m c : Nat) (ls : List EA) (i t : Int) (w : World) (h : Im W0.heap.size w g s v xs) (hb0 : Below W0.heap.size W0 w) (hr : RdE W0 LA m ls) (hmc : m ≤ c) (hcm : c ≤ maxLen) (hA : LA = none → c = 0) (hm : m ≤ 1000000) (hx : xs.length ≤ 1000000) (hi : -9223372036854775808 ≤ i) (hi2 : i ≤ 9223372036854775807) :
    Calls Try.prog 15 #[.pointer (some ⟨g, 0, none⟩), .int .i64 i, .int .i64 t, .slice LA m c] w (MrgIs W0.heap.size w g v (mrg s i t (ens ls))) := by
  obtain ⟨A, cap, rfl, hLo, hxc, hxm, hnil, hform⟩ := h.slice
  have HV := Lib.hid (allValid_any LA m c ls w (hr.below hb0))
  have HIM := Lib.hid h
  have HLO := Lib.hid hLo
  have HR := Lib.hid hr
  have HA := Lib.hid hA
  have HB0 := Lib.hid hb0
  have hN := h.n
  have HN := Lib.hid hN
  have hbl := h.ok.bl
  have hbb := h.ok.b0
  have HOK := Lib.hid h.ok
  have HLS := Lib.hid hr.len
  clear h hr hA hLo hform hN hb0
  cases hv : okL (ens ls) with
  | false =>
    have HM := Lib.hid (show mrg s i t (ens ls) = (0, 1, s) by unfold mrg; rw [if_neg (by rw [hv]; simp)])
    rw [hv] at HV
    clear hv
    rw [HM.out]
    go_enter Try.func15, Try.ntmps15
    go_wp2_with fail
    refine HV.out.mono ?_
    rintro e w1 ⟨rfl, hb1⟩
    have HB1 := Lib.hid hb1
    clear hb1
    go_wp2
    go_ret2
    exact ⟨_, xs, rfl, Done.same HIM.out HB1.out⟩
  | true =>
  have HVT := Lib.hid hv
  rw [hv] at HV
  clear hv
  have HFW := Lib.hid (fun W (hW : Below w.heap.size w W) => follow_any LA m c ls i t W ((HR.out.below HB0.out).below hW) HVT.out hi hi2)
  cases hf : fol (ens ls) i t with
  | false =>
    have HM := Lib.hid (show mrg s i t (ens ls) = (0, 1, s) by unfold mrg; rw [if_neg (by rw [hf]; simp)])
    rw [hf] at HFW
    clear hf
    rw [HM.out]
    go_enter Try.func15, Try.ntmps15
    go_wp2_with fail
    refine HV.out.mono ?_
    rintro e w1 ⟨rfl, hb1⟩
    have HB1 := Lib.hid hb1
    clear hb1
    go_wp2_with fail
    refine (HFW.out _ HB1.out).mono ?_
    rintro e w2 ⟨rfl, hb2⟩
    have HB2 := Lib.hid (HB1.out.trans (hb2.mono HB1.out.size))
    clear hb2
    go_wp2
    go_ret2
    exact ⟨_, xs, rfl, Done.same HIM.out HB2.out⟩
  | true =>
  have HFT := Lib.hid hf
  rw [hf] at HFW
  clear hf
  by_cases hib : i < s.base
  · have HM0 := Lib.hid (show mrg s i t (ens ls) = mrgB s (skp s.base (ens ls)) by unfold mrg; rw [if_pos ⟨HVT.out, HFT.out⟩, if_pos hib])
    go_enter Try.func15, Try.ntmps15
    go_wp2_with fail
    refine HV.out.mono ?_
    rintro e w1 ⟨rfl, hb1⟩
    have HB1 := Lib.hid hb1
    clear hb1
    go_wp2_with fail
    refine (HFW.out _ HB1.out).mono ?_
    rintro e w2 ⟨rfl, hb2⟩
    have HB2 := Lib.hid (HB1.out.trans (hb2.mono HB1.out.size))
    clear hb2
    have HI2 := Lib.hid (HIM.out.below HB2.out)
    obtain ⟨a0, a1, a2, a3, a4⟩ := HI2.out.blk.cells
    have HB02 := Lib.hid (HB0.out.trans (HB2.out.mono HB0.out.size))
    go_wp2_with fail
    refine (behind_any W0 LA m c ls s.base _ HB02.out HR.out hmc hcm HA.out).mono ?_
    rintro e w3 ⟨v3, rfl, ⟨YA, ym, yc, ys, rfl, hyr, hymc, hycm, hyA, hye, hyl⟩, _, rfl⟩
    have HYR := Lib.hid hyr
    have HYA := Lib.hid hyA
    have HYE := Lib.hid hye
    have hym : ym ≤ 1000000 := by have := skp_len s.base (ens ls); rw [ens_len, HLS.out] at this; omega
    have HYL := Lib.hid hyr.len
    clear hyr hyA hye hyl
    by_cases hy0 : ym = 0
    · subst hy0
      have HM := Lib.hid (show mrg s i t (ens ls) = (0, 0, s) by rw [HM0.out, ← HYE.out, List.eq_nil_of_length_eq_zero HYL.out]; rfl)
      go_wp2
      go_ret2
      rw [HM.out]
      exact ⟨_, xs, rfl, Done.same HIM.out HB2.out⟩
    obtain ⟨e0, r0, he0⟩ := len_cons HYL.out (by omega)
    obtain ⟨b, off, rfl, q0, q1, q2, q3⟩ := (HYR.out.below HB02.out).elem 0 (by omega)
    rw [getD_zero he0] at q1
    rw [Nat.zero_mul, Nat.add_zero] at q1
    have HE0 := Lib.hid he0
    clear q0 q2 q3 he0
    have y0 : (0 : Int) < (ym : Int) := by omega
    have y1 : decide (0 < ym) = true := decide_eq_true (by omega)
    have y2 : ((ym : Int) == 0) = false := by simp [hy0]
    by_cases ht : e0.term < s.bt
    · have HM := Lib.hid (show mrg s i t (ens ls) = (0, 7, s) by rw [HM0.out, ← HYE.out, HE0.out]; simp only [mrgB]; rw [if_pos ht])
      go_wp2_with fail
      go_quiet (fail)
      go_wp2
      go_ret2
      rw [HM.out]
      exact ⟨_, xs, rfl, Done.same HIM.out (HB2.out.trans (below_still (still_drewN _ _) HB2.out.size))⟩
    have HM := Lib.hid (show mrg s i t (ens ls) = mrgA s s.base s.bt (ens ys) by rw [HM0.out, ← HYE.out, HE0.out]; simp only [mrgB]; rw [if_neg ht])
    have HFY := Lib.hid (show fol (ens ys) s.base s.bt = true by rw [HE0.out]; exact skp_fol HFT.out hib (by rw [← HYE.out]; exact HE0.out) ht)
    have HOY := Lib.hid (show okL (ens ys) = true by rw [HYE.out]; exact skp_okL _ HVT.out)
    go_wp2_with fail
    go_quiet (fail)
    have HS3 := Lib.hid (still_drewN w2 nq)
    generalize w2.drewN nq = w3 at *
    obtain ⟨d0, d1, d2, d3, d4⟩ := (HI2.out.still HS3.out).blk.cells
    go_wp2_with fail
    go_quiet (fail)
    have HS4 := Lib.hid (HS3.out.trans (still_drewN w3 nq))
    generalize w3.drewN nq = w4 at *
    have HB4 := Lib.hid (HB2.out.trans (below_still HS4.out HB2.out.size))
    clear q1 a0 a1 a2 a3 a4 d0 d1 d2 d3 d4 HE0 ht y0 y1 y2
    have hYA : (some ⟨b, off, none⟩ : Option Addr) = none → yc = 0 := HYA.out
    generalize hwhy : (some ⟨b, off, none⟩ : Option Addr) = YA at *
    clear hwhy
    have HYA2 := Lib.hid hYA
    clear hYA
    have HL4 := Lib.hid (HLO.out.below HB4.out)
    have HH := Lib.hid (fun (i t : Int) => HL4.out.has_dr i t)
    cases hh : hasB s s.base s.bt with
    | false =>
      have HMM := Lib.hid (show mrg s i t (ens ls) = (0, 7, s) by rw [HM.out]; unfold mrgA; rw [if_neg (by rw [hh]; decide)])
      have HHB := Lib.hid hh
      clear hh
      go_wp2_with fail
      refine (HH.out _ _).mono ?_
      rintro e w5 ⟨rfl, nh, rfl⟩
      rw [HHB.out]
      go_wp2
      go_ret2
      rw [HMM.out]
      exact ⟨_, xs, rfl, Done.same HIM.out (HB4.out.trans (below_still (still_drewN _ _) HB4.out.size))⟩
    | true =>
    have HM2 := Lib.hid (show mrg s i t (ens ls) = mrgL s (mis s (ens ys)) by rw [HM.out]; unfold mrgA; rw [if_pos hh])
    have HHB := Lib.hid hh
    clear hh
    go_wp2_with fail
    refine (HH.out _ _).mono ?_
    rintro e w5 ⟨rfl, hw5⟩
    rw [HHB.out]
    have HS5 := Lib.hid (show Still w4 w5 by obtain ⟨k, rfl⟩ := hw5; exact still_drewN _ _)
    have HB5 := Lib.hid (HB4.out.trans (below_still HS5.out HB4.out.size))
    clear hw5
    go_wp2_with fail
    refine (missing_any W0 g s A xs.length cap xs YA ym yc ys w5 (HLO.out.below HB5.out) (HB0.out.trans (HB5.out.mono HB0.out.size)) HYR.out hymc hycm HYA2.out).mono ?_
    rintro e w6 ⟨v6, rfl, ⟨ZA, zm, zc, zs, rfl, hzr, hzmc, hzcm, hzA, hze, hzl⟩, hb6⟩
    have HZR := Lib.hid hzr
    have HZA := Lib.hid hzA
    have HZE := Lib.hid hze
    have HB6 := Lib.hid (HB5.out.trans (hb6.mono HB5.out.size))
    have HZL := Lib.hid hzr.len
    have hzm : zm ≤ 1000000 := by
      obtain ⟨k, k1, k2, _⟩ := mis_drop s (ens ys) s.base s.bt HFY.out HHB.out
      have h1 := hzr.len
      rw [k2] at hzl
      rw [List.length_drop, ens_len, HYL.out] at hzl
      omega
    clear hzr hzA hze hb6 hzl
    by_cases hz0 : zm = 0
    · subst hz0
      have HMM := Lib.hid (show mrg s i t (ens ls) = (0, 0, s) by rw [HM2.out, ← HZE.out, List.eq_nil_of_length_eq_zero HZL.out]; rfl)
      go_wp2
      go_ret2
      rw [HMM.out]
      exact ⟨_, xs, rfl, Done.same HIM.out HB6.out⟩
    obtain ⟨e1, r1, he1⟩ := len_cons HZL.out (by omega)
    have HB06 := Lib.hid (HB0.out.trans (HB6.out.mono HB0.out.size))
    obtain ⟨zb, zoff, rfl, q0, q1, q2, q3⟩ := (HZR.out.below HB06.out).elem 0 (by omega)
    have HG0 := Lib.hid (getD_zero he1)
    rw [getD_zero he1] at q0
    rw [Nat.zero_mul, Nat.add_zero] at q0
    have HE1 := Lib.hid he1
    clear q1 q2 q3 he1
    have HI6 := Lib.hid (HIM.out.below HB6.out)
    obtain ⟨f0, f1, f2, f3, f4⟩ := HI6.out.blk.cells
    have z0 : (0 : Int) < (zm : Int) := by omega
    have z1 : decide (0 < zm) = true := decide_eq_true (by omega)
    have z2 : ((zm : Int) == 0) = false := by simp [hz0]
    by_cases hco : e1.idx ≤ s.com
    · have HMM := Lib.hid (show mrg s i t (ens ls) = (0, 9, s) by rw [HM2.out, ← HZE.out, HE1.out]; simp only [mrgL]; rw [if_pos hco])
      go_wp2_with fail
      go_quiet (fail)
      go_wp2
      go_ret2
      rw [HMM.out]
      exact ⟨_, xs, rfl, Done.same HIM.out (HB6.out.trans (below_still (still_drewN _ _) HB6.out.size))⟩
    have HMM := Lib.hid (show mrg s i t (ens ls) = (e1.idx, 0, repl s e1 r1) by rw [HM2.out, ← HZE.out, HE1.out]; simp only [mrgL]; rw [if_neg hco])
    obtain ⟨p1, p2, p3, p4, p5, p6, p7⟩ := repl_facts HOK.out HOY.out HFY.out HHB.out (by rw [← HZE.out]; exact HE1.out)
    obtain ⟨k, hk⟩ : ∃ k : Nat, e1.idx = s.base + 1 + k := ⟨(e1.idx - s.base - 1).toNat, by omega⟩
    have hkl : k ≤ xs.length := by unfold St.last at p2; rw [HN.out] at p2; omega
    have hK : (e1.idx - 1 - s.base).toNat = k := by omega
    have HRP := Lib.hid (show repl s e1 r1 = { s with es := s.es.take k ++ ens zs } by unfold repl; rw [hK, HE1.out])
    have HROK := Lib.hid (show ({ s with es := s.es.take k ++ ens zs } : St).Ok by rw [← HRP.out]; exact repl_ok HOK.out HOY.out HFY.out HHB.out (by rw [← HZE.out]; exact HE1.out) hco)
    have HOZ := Lib.hid (show okL (ens zs) = true by rw [HE1.out]; exact p6)
    have HK := Lib.hid hk
    clear p1 p2 p3 p4 p5 p6 p7 hK hk
    have HFIN := Lib.hid (show ∀ wr, Dk.Fr (g :: (Value.slice A xs.length cap).ownBlock.toList) w6 wr → wr.cell? ⟨zb, zoff, none⟩ = some (.int .i64 e1.idx) from fun wr hf => by
      have hb := Dk.Fr.to_below HB06.out hf (fun i hi => (HI6.out.foot i hi).1)
      obtain ⟨b', off', he, h1, _, _, _⟩ := (HZR.out.below hb).elem 0 (by omega)
      cases he
      rw [HG0.out, Nat.zero_mul, Nat.add_zero] at h1
      exact h1)
    go_wp2_with fail
    go_quiet (fail)
    have HS7 := Lib.hid (still_drewN w6 nq)
    generalize w6.drewN nq = w7 at *
    have HB7 := Lib.hid (HB6.out.trans (below_still HS7.out HB6.out.size))
    go_wp2_with fail
    refine (replace_any W0 g s (.slice A xs.length cap) xs (some ⟨zb, zoff, none⟩) zm zc k zs w7 (HIM.out.below HB7.out) (HB0.out.trans (HB7.out.mono HB0.out.size)) HZR.out (fun h => by cases h) (by omega) hzm hx HOZ.out (by rw [HG0.out]; exact HK.out) hkl HROK.out).mono ?_
    rintro e w8 ⟨rfl, v8, xs8, hD⟩
    have HD := Lib.hid hD
    have q8 := HFIN.out w8 ((fr_still HS7.out).same hD.fr)
    clear hD
    go_wp2
    go_ret2
    rw [HMM.out]
    exact ⟨v8, xs8, rfl, by rw [HRP.out]; exact Done.to HIM.out HB7.out HD.out⟩
  · have HM := Lib.hid (show mrg s i t (ens ls) = mrgA s i t (ens ls) by unfold mrg; rw [if_pos ⟨HVT.out, HFT.out⟩, if_neg hib])
    go_enter Try.func15, Try.ntmps15
    go_wp2_with fail
    refine HV.out.mono ?_
    rintro e w1 ⟨rfl, hb1⟩
    have HB1 := Lib.hid hb1
    clear hb1
    go_wp2_with fail
    refine (HFW.out _ HB1.out).mono ?_
    rintro e w4 ⟨rfl, hb2⟩
    have HB4 := Lib.hid (HB1.out.trans (hb2.mono HB1.out.size))
    clear hb2
    obtain ⟨a0, a1, a2, a3, a4⟩ := (HIM.out.below HB4.out).blk.cells
    have HYR := Lib.hid HR.out
    have HYA2 := Lib.hid HA.out
    have HYL := Lib.hid HLS.out
    have HFY := Lib.hid HFT.out
    have HOY := Lib.hid HVT.out
    have hymc := hmc
    have hycm := hcm
    have hym := hm
    have HL4 := Lib.hid (HLO.out.below HB4.out)
    have HH := Lib.hid (fun (i t : Int) => HL4.out.has_dr i t)
    cases hh : hasB s i t with
    | false =>
      have HMM := Lib.hid (show mrg s i t (ens ls) = (0, 7, s) by rw [HM.out]; unfold mrgA; rw [if_neg (by rw [hh]; decide)])
      have HHB := Lib.hid hh
      clear hh
      go_wp2_with fail
      refine (HH.out _ _).mono ?_
      rintro e w5 ⟨rfl, nh, rfl⟩
      rw [HHB.out]
      go_wp2
      go_ret2
      rw [HMM.out]
      exact ⟨_, xs, rfl, Done.same HIM.out (HB4.out.trans (below_still (still_drewN _ _) HB4.out.size))⟩
    | true =>
    have HM2 := Lib.hid (show mrg s i t (ens ls) = mrgL s (mis s (ens ls)) by rw [HM.out]; unfold mrgA; rw [if_pos hh])
    have HHB := Lib.hid hh
    clear hh
    go_wp2_with fail
    refine (HH.out _ _).mono ?_
    rintro e w5 ⟨rfl, hw5⟩
    rw [HHB.out]
    have HS5 := Lib.hid (show Still w4 w5 by obtain ⟨k, rfl⟩ := hw5; exact still_drewN _ _)
    have HB5 := Lib.hid (HB4.out.trans (below_still HS5.out HB4.out.size))
    clear hw5
    go_wp2_with fail
    refine (missing_any W0 g s A xs.length cap xs LA m c ls w5 (HLO.out.below HB5.out) (HB0.out.trans (HB5.out.mono HB0.out.size)) HYR.out hymc hycm HYA2.out).mono ?_
    rintro e w6 ⟨v6, rfl, ⟨ZA, zm, zc, zs, rfl, hzr, hzmc, hzcm, hzA, hze, hzl⟩, hb6⟩
    have HZR := Lib.hid hzr
    have HZA := Lib.hid hzA
    have HZE := Lib.hid hze
    have HB6 := Lib.hid (HB5.out.trans (hb6.mono HB5.out.size))
    have HZL := Lib.hid hzr.len
    have hzm : zm ≤ 1000000 := by
      obtain ⟨k, k1, k2, _⟩ := mis_drop s (ens ls) i t HFY.out HHB.out
      have h1 := hzr.len
      rw [k2] at hzl
      rw [List.length_drop, ens_len, HYL.out] at hzl
      omega
    clear hzr hzA hze hb6 hzl
    by_cases hz0 : zm = 0
    · subst hz0
      have HMM := Lib.hid (show mrg s i t (ens ls) = (0, 0, s) by rw [HM2.out, ← HZE.out, List.eq_nil_of_length_eq_zero HZL.out]; rfl)
      go_wp2
      go_ret2
      rw [HMM.out]
      exact ⟨_, xs, rfl, Done.same HIM.out HB6.out⟩
    obtain ⟨e1, r1, he1⟩ := len_cons HZL.out (by omega)
    have HB06 := Lib.hid (HB0.out.trans (HB6.out.mono HB0.out.size))
    obtain ⟨zb, zoff, rfl, q0, q1, q2, q3⟩ := (HZR.out.below HB06.out).elem 0 (by omega)
    have HG0 := Lib.hid (getD_zero he1)
    rw [getD_zero he1] at q0
    rw [Nat.zero_mul, Nat.add_zero] at q0
    have HE1 := Lib.hid he1
    clear q1 q2 q3 he1
    have HI6 := Lib.hid (HIM.out.below HB6.out)
    obtain ⟨f0, f1, f2, f3, f4⟩ := HI6.out.blk.cells
    have z0 : (0 : Int) < (zm : Int) := by omega
    have z1 : decide (0 < zm) = true := decide_eq_true (by omega)
    have z2 : ((zm : Int) == 0) = false := by simp [hz0]
    by_cases hco : e1.idx ≤ s.com
    · have HMM := Lib.hid (show mrg s i t (ens ls) = (0, 9, s) by rw [HM2.out, ← HZE.out, HE1.out]; simp only [mrgL]; rw [if_pos hco])
      go_wp2_with fail
      go_quiet (fail)
      go_wp2
      go_ret2
      rw [HMM.out]
      exact ⟨_, xs, rfl, Done.same HIM.out (HB6.out.trans (below_still (still_drewN _ _) HB6.out.size))⟩
    have HMM := Lib.hid (show mrg s i t (ens ls) = (e1.idx, 0, repl s e1 r1) by rw [HM2.out, ← HZE.out, HE1.out]; simp only [mrgL]; rw [if_neg hco])
    obtain ⟨p1, p2, p3, p4, p5, p6, p7⟩ := repl_facts HOK.out HOY.out HFY.out HHB.out (by rw [← HZE.out]; exact HE1.out)
    obtain ⟨k, hk⟩ : ∃ k : Nat, e1.idx = s.base + 1 + k := ⟨(e1.idx - s.base - 1).toNat, by omega⟩
    have hkl : k ≤ xs.length := by unfold St.last at p2; rw [HN.out] at p2; omega
    have hK : (e1.idx - 1 - s.base).toNat = k := by omega
    have HRP := Lib.hid (show repl s e1 r1 = { s with es := s.es.take k ++ ens zs } by unfold repl; rw [hK, HE1.out])
    have HROK := Lib.hid (show ({ s with es := s.es.take k ++ ens zs } : St).Ok by rw [← HRP.out]; exact repl_ok HOK.out HOY.out HFY.out HHB.out (by rw [← HZE.out]; exact HE1.out) hco)
    have HOZ := Lib.hid (show okL (ens zs) = true by rw [HE1.out]; exact p6)
    have HK := Lib.hid hk
    clear p1 p2 p3 p4 p5 p6 p7 hK hk
    have HFIN := Lib.hid (show ∀ wr, Dk.Fr (g :: (Value.slice A xs.length cap).ownBlock.toList) w6 wr → wr.cell? ⟨zb, zoff, none⟩ = some (.int .i64 e1.idx) from fun wr hf => by
      have hb := Dk.Fr.to_below HB06.out hf (fun i hi => (HI6.out.foot i hi).1)
      obtain ⟨b', off', he, h1, _, _, _⟩ := (HZR.out.below hb).elem 0 (by omega)
      cases he
      rw [HG0.out, Nat.zero_mul, Nat.add_zero] at h1
      exact h1)
    go_wp2_with fail
    go_quiet (fail)
    have HS7 := Lib.hid (still_drewN w6 nq)
    generalize w6.drewN nq = w7 at *
    have HB7 := Lib.hid (HB6.out.trans (below_still HS7.out HB6.out.size))
    go_wp2_with fail
    refine (replace_any W0 g s (.slice A xs.length cap) xs (some ⟨zb, zoff, none⟩) zm zc k zs w7 (HIM.out.below HB7.out) (HB0.out.trans (HB7.out.mono HB0.out.size)) HZR.out (fun h => by cases h) (by omega) hzm hx HOZ.out (by rw [HG0.out]; exact HK.out) hkl HROK.out).mono ?_
    rintro e w8 ⟨rfl, v8, xs8, hD⟩
    have HD := Lib.hid hD
    have q8 := HFIN.out w8 ((fr_still HS7.out).same hD.fr)
    clear hD
    go_wp2
    go_ret2
    rw [HMM.out]
    exact ⟨v8, xs8, rfl, by rw [HRP.out]; exact Done.to HIM.out HB7.out HD.out⟩
end Go.Proofs.Ytimplhdliaggfaa.Rg
