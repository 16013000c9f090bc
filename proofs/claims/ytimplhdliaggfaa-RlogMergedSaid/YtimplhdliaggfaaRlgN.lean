/-
  Layer 8: the document's own Merge. Conditions: the log lies in memory as it was made; what comes in lies in older memory.
-/
import Derived.Test.YtimplhdliaggfaaRlgL
import Derived.Test.YtimplhdliaggfaaRlgG
import Derived.Deep.CutRange
namespace Go.Proofs.Ytimplhdliaggfaa.Rg
open Go.RowKit Go.Proofs.Ytimplhdliaggfaa.Fld
set_option linter.unusedVariables false

/-- what Merge leaves, and answers -/
def MrgR (W0 w : World) (g : Nat) (v : Value) (r : Int × Int × St) (e : Ending) (w' : World) : Prop := ∃ v' xs', e = .returned (.tuple #[.int .i64 r.1, .int .i64 r.2.1]) ∧ DoneR W0 w w' g v r.2.2 v' xs'
theorem RdE.cut {w : World} {A : Option Addr} {n : Nat} {xs : List EA} (h : RdE w A n xs) (k : Nat) (hk : k ≤ n) : RdE w A k (xs.take k) := by
  refine ⟨by rw [List.length_take, h.len]; omega, by have := h.most; omega, fun hp => ?_, h.dat.take k⟩
  obtain ⟨b, off, hA, hc⟩ := h.at' (by omega)
  refine ⟨b, off, hA, fun j v hj => hc j v ?_⟩
  rw [rowE_take, List.getElem?_take] at hj
  split at hj
  · exact hj
  · cases hj
theorem row_zeroN {w : World} {lo q : Nat} {v : Value} {ys : List EA} (h : w.ownsRow lo 36 4 v (0 + q) ([] ++ rowE ys)) : w.ownsRow lo 36 4 v q (rowE ys) := by
  rw [Nat.zero_add, List.nil_append] at h
  exact h
/-- what is known where the ways meet -/
structure Meet (W0 w : World) (s : St) (r : Int × Int × St) (I T : Int) (YA : Option Addr) (ym yc : Nat) (ys : List EA) (wx : World) : Prop where
  rd : RdE W0 YA ym ys
  mc : ym ≤ yc
  cm : yc ≤ maxLen
  nil : YA = none → yc = 0
  ok : okL (ens ys) = true
  fo : fol (ens ys) I T = true
  most : ym ≤ 1000000
  eq : r = mrgA s I T (ens ys)
  bel : Below w.heap.size w wx
set_option maxRecDepth 100000 in
set_option maxHeartbeats 6400000 in
theorem rmerge_any (W0 : World) (g : Nat) (s : St) (v : Value) (xs : List EA) (LA : Option Addr) (m c : Nat) (ls : List EA) (i t : Int) (w : World) (h : Rm W0 w g s v xs) (hr : RdE W0 LA m ls) (hmc : m ≤ c) (hcm : c ≤ maxLen) (hA : LA = none → c = 0) (hm : m ≤ 1000000) (hx : xs.length ≤ 1000000) :
    Calls Try.prog 22 #[.pointer (some ⟨g, 0, none⟩), .int .i64 i, .int .i64 t, .slice LA m c] w (MrgR W0 w g v (mrg s i t (ens ls))) := by
  obtain ⟨A, cap, rfl, hLo, hxc, hxm, hnil, hform⟩ := h.slice
  have HV := Lib.hid (rright_any LA m c ls w (hr.below h.old))
  have HIM := Lib.hid h
  have HLO := Lib.hid hLo
  have HR := Lib.hid hr
  have HA := Lib.hid hA
  have HN := Lib.hid h.n
  have hbl := h.ok.bl
  have hbb := h.ok.b0
  have hac := h.ok.cl
  have HOK := Lib.hid h.ok
  have HLS := Lib.hid hr.len
  clear h hr hA hLo
  cases hv : okL (ens ls) with
  | false =>
    have HM := Lib.hid (show mrg s i t (ens ls) = (0, 1, s) by unfold mrg; rw [if_neg (by rw [hv]; simp)])
    rw [hv] at HV
    clear hv
    rw [HM.out]
    go_enter Try.func22, Try.ntmps22
    go_wp2_with fail
    refine HV.out.mono ?_
    rintro e w1 ⟨rfl, hb1⟩
    have HB1 := Lib.hid hb1
    clear hb1
    go_wp2
    go_ret2
    exact ⟨_, xs, rfl, DoneR.same HIM.out HB1.out⟩
  | true =>
  have HVT := Lib.hid hv
  rw [hv] at HV
  clear hv
  have HFW := Lib.hid (fun W (hW : Below W0.heap.size W0 W) => rfollow_any LA m c ls i t W (HR.out.below hW) HVT.out (by omega))
  cases hf : fol (ens ls) i t with
  | false =>
    have HM := Lib.hid (show mrg s i t (ens ls) = (0, 1, s) by unfold mrg; rw [if_neg (by rw [hf]; simp)])
    rw [hf] at HFW
    clear hf
    rw [HM.out]
    go_enter Try.func22, Try.ntmps22
    go_wp2_with fail
    refine HV.out.mono ?_
    rintro e w1 ⟨rfl, hb1⟩
    have HB1 := Lib.hid hb1
    clear hb1
    go_wp2_with fail
    refine (HFW.out _ (HIM.out.below HB1.out).old).mono ?_
    rintro e w2 ⟨rfl, rfl⟩
    go_wp2
    go_ret2
    exact ⟨_, xs, rfl, DoneR.same HIM.out HB1.out⟩
  | true =>
  have HFT := Lib.hid hf
  rw [hf] at HFW
  clear hf
  obtain ⟨r, hrr⟩ : ∃ r, mrg s i t (ens ls) = r := ⟨_, rfl⟩
  have HR0 := Lib.hid hrr
  rw [hrr]
  clear hrr
  go_enter Try.func22, Try.ntmps22
  go_wp2_with fail
  refine HV.out.mono ?_
  rintro e w1 ⟨rfl, hb1⟩
  have HB1 := Lib.hid hb1
  clear hb1
  go_wp2_with fail
  refine (HFW.out _ (HIM.out.below HB1.out).old).mono ?_
  rintro e w2 ⟨rfl, rfl⟩
  have HI2 := Lib.hid (HIM.out.below HB1.out)
  obtain ⟨a0, a1, a2, a3, a4⟩ := HI2.out.blk.cells
  by_cases hib : i < s.base
  rotate_left
  · have HM := Lib.hid (show r = mrgA s i t (ens ls) by rw [← HR0.out]; unfold mrg; rw [if_pos ⟨HVT.out, HFT.out⟩, if_neg hib])
    have HYR := Lib.hid HR.out
    have HYL := Lib.hid HLS.out
    have HFY := Lib.hid HFT.out
    have HOY := Lib.hid HVT.out
    have hymc := hmc
    have HB4 := Lib.hid HB1.out
    obtain ⟨w4, hw4⟩ : ∃ w4, w1 = w4 := ⟨_, rfl⟩
    subst hw4
    have HLr := Lib.hid (HLO.out.below HB4.out)
    have HIr := Lib.hid (HIM.out.below HB4.out)
    have HTD := Lib.hid (HLr.out.term_dr i)
    have HHE := Lib.hid (show hasB s i t = (termB s i && (termV s i == t)) from rfl)
    cases hh : hasB s i t with
    | false =>
      have HMM := Lib.hid (show r = (0, 7, s) by rw [HM.out]; unfold mrgA; rw [if_neg (by rw [hh]; decide)])
      rw [hh] at HHE
      clear hh
      generalize termB s i = TB at *
      generalize termV s i = V at *
      cases TB with
      | false =>
        go_wp2_with fail
        refine HTD.out.mono ?_
        rintro e w5 ⟨rfl, nh, rfl⟩
        go_wp2
        go_ret2
        rw [HMM.out]
        exact ⟨_, xs, rfl, DoneR.same HIM.out (HB4.out.trans (below_still (still_drewN _ _) HB4.out.size))⟩
      | true =>
        have v1 : (V == t) = false := by have := HHE.out; simpa using this.symm
        have v2 : (V != t) = true := by rw [bne, v1]; rfl
        go_wp2_with fail
        refine HTD.out.mono ?_
        rintro e w5 ⟨rfl, nh, rfl⟩
        go_wp2
        go_ret2
        rw [HMM.out]
        exact ⟨_, xs, rfl, DoneR.same HIM.out (HB4.out.trans (below_still (still_drewN _ _) HB4.out.size))⟩
    | true =>
    have HM2 := Lib.hid (show r = mrgL s (mis s (ens ls)) by rw [HM.out]; unfold mrgA; rw [if_pos hh])
    have HHB := Lib.hid hh
    have hB1 : termB s i = true := by have := HHE.out; rw [hh] at this; simp only [Bool.true_eq, Bool.and_eq_true] at this; exact this.1
    have hV1 : (termV s i == t) = true := by have := HHE.out; rw [hh] at this; simp only [Bool.true_eq, Bool.and_eq_true] at this; exact this.2
    rw [hB1] at HTD
    clear hh hB1
    generalize termV s i = V at *
    have v2 : (V != t) = false := by rw [bne, hV1]; rfl
    go_wp2_with fail
    refine HTD.out.mono ?_
    rintro e w5 ⟨rfl, hw5⟩
    have HS5 := Lib.hid (show Still w1 w5 by obtain ⟨k, rfl⟩ := hw5; exact still_drewN _ _)
    clear hw5
    go_wp2_with fail
    go_loopw [12, 13, 14, 15] (fun _ _ kv _ wr => ∃ k : Nat, k ≤ m ∧ kv = .int .i64 k ∧ (∀ j, j < k → hasB s (ls.getD j ea0).e.idx (ls.getD j ea0).e.term = true) ∧ Still w1 wr) (fun _ _ kv _ _ => m - (intOf kv).toNat)
    case atStart => exact ⟨0, Nat.zero_le _, rfl, (fun j hj => by omega), HS5.out⟩
    case round =>
      obtain ⟨k, hk, rfl, hall, hst⟩ := hrel
      have HALL := Lib.hid hall
      have HST := Lib.hid hst
      clear hall hst
      have HI6 := Lib.hid (HIr.out.still HST.out)
      have HB6 := Lib.hid (HB4.out.trans (below_still HST.out HB4.out.size))
      have conv : ∀ j, j < m → hasB s ((ens ls).getD j en0).idx ((ens ls).getD j en0).term = hasB s (ls.getD j ea0).e.idx (ls.getD j ea0).e.term := fun j hj => by rw [ens_at ls j (by rw [HYL.out]; exact hj)]
      have HCV := Lib.hid conv
      clear conv
      by_cases hlt : k < m
      rotate_left
      · obtain rfl : k = m := by omega
        have HMM := Lib.hid (show r = (0, 0, s) by
          rw [HM2.out, mis_of s (ens ls) k (by rw [ens_len, HYL.out]; exact Nat.le_refl _) (fun j hj => by rw [HCV.out j hj]; exact HALL.out j hj) (fun h => by rw [ens_len, HYL.out] at h; omega), List.drop_eq_nil_of_le (by rw [ens_len, HYL.out]; exact Nat.le_refl _)]
          rfl)
        go_wp2
        go_ret2
        rw [HMM.out]
        exact ⟨_, xs, rfl, DoneR.same HIM.out HB6.out⟩
      obtain ⟨zb, zoff, hza, q0, q1, q2, q3⟩ := (HYR.out.below HI6.out.old).elem k hlt
      first | subst hza | cases hza
      have HYS := Lib.hid (show ens ls = (ens ls).take k ++ (ls.getD k ea0).e :: (ens ls).drop (k + 1) by
        have hkl : k < (ens ls).length := by rw [ens_len, HYL.out]; exact hlt
        conv => lhs; rw [← List.take_append_drop k (ens ls), List.drop_eq_getElem_cons hkl]
        rw [← ens_at ls k (by rw [HYL.out]; exact hlt), List.getD_eq_getElem?_getD, List.getElem?_eq_getElem hkl]
        rfl)
      have HDRP := Lib.hid (show (ens ls).drop k = (ls.getD k ea0).e :: (ens ls).drop (k + 1) by
        have hkl : k < (ens ls).length := by rw [ens_len, HYL.out]; exact hlt
        rw [List.drop_eq_getElem_cons hkl, ← ens_at ls k (by rw [HYL.out]; exact hlt), List.getD_eq_getElem?_getD, List.getElem?_eq_getElem hkl]
        rfl)
      have HSUC := Lib.hid (show hasB s (ls.getD k ea0).e.idx (ls.getD k ea0).e.term = true → ∀ j, j < k + 1 → hasB s (ls.getD j ea0).e.idx (ls.getD j ea0).e.term = true from fun hq => upto_succ HALL.out hq)
      have HMIS := Lib.hid (show hasB s (ls.getD k ea0).e.idx (ls.getD k ea0).e.term = false → mis s (ens ls) = (ls.getD k ea0).e :: (ens ls).drop (k + 1) from fun hq => by
        rw [mis_of s (ens ls) k (by rw [ens_len, HYL.out]; omega) (fun j hj => by rw [HCV.out j (by omega)]; exact HALL.out j hj) (fun h => by rw [HCV.out k hlt]; exact hq), HDRP.out])
      generalize (ls.getD k ea0).e = e1 at *
      have HT6 := Lib.hid ((HLr.out.still HST.out).term_dr e1.idx)
      have HHE1 := Lib.hid (show hasB s e1.idx e1.term = (termB s e1.idx && (termV s e1.idx == e1.term)) from rfl)
      have k0 : (0 : Int) ≤ (k : Int) := by omega
      have k1 : (k : Int) < (m : Int) := by omega
      cases hq : hasB s e1.idx e1.term with
      | true =>
        have hB1 : termB s e1.idx = true := by have := HHE1.out; rw [hq] at this; simp only [Bool.true_eq, Bool.and_eq_true] at this; exact this.1
        have hV2 : (termV s e1.idx == e1.term) = true := by have := HHE1.out; rw [hq] at this; simp only [Bool.true_eq, Bool.and_eq_true] at this; exact this.2
        rw [hB1] at HT6
        have HSU := Lib.hid (HSUC.out hq)
        clear hq hB1
        generalize termV s e1.idx = V2 at *
        go_wp2_with fail
        refine HT6.out.mono ?_
        rintro e w7 ⟨rfl, hw7⟩
        have HS7r := Lib.hid (show Still wr w7 by obtain ⟨k, rfl⟩ := hw7; exact still_drewN _ _)
        have HS7 := Lib.hid (HST.out.trans HS7r.out)
        clear hw7
        have r1 := (HS7r.out.cell _).trans q1
        go_wp2_with fail
        go_roundw
        case rel => exact ⟨k + 1, by omega, by go_num, HSU.out, HS7.out⟩
        case measure => simp [intOf]; omega
      | false =>
      have HMI := Lib.hid (HMIS.out hq)
      have HQF := Lib.hid hq
      obtain ⟨p1, p2, p3, p4, p5, p6, p7⟩ := repl_facts HOK.out HOY.out HFY.out HHB.out HMI.out
      clear HMIS
      by_cases hco : e1.idx ≤ s.com
      · have HMM := Lib.hid (show r = (0, 9, s) by rw [HM2.out, HMI.out]; simp only [mrgL]; rw [if_pos hco])
        have hB1 : termB s e1.idx = true := by rw [termB_iff]; omega
        have v1 : (termV s e1.idx == e1.term) = false := by have := HHE1.out; rw [hq, hB1] at this; simpa using this.symm
        rw [hB1] at HT6
        clear hq hB1 p1 p2 p3 p4 p5 p6 p7
        generalize termV s e1.idx = V2 at *
        obtain ⟨y0, y1, y2, y3, y4⟩ := HI6.out.blk.cells
        go_wp2_with fail
        refine HT6.out.mono ?_
        rintro e w7 ⟨rfl, hw7⟩
        have HS7r := Lib.hid (show Still wr w7 by obtain ⟨k, rfl⟩ := hw7; exact still_drewN _ _)
        have HS7 := Lib.hid (HST.out.trans HS7r.out)
        clear hw7
        have r1 := (HS7r.out.cell _).trans q1
        obtain ⟨x0, x1, x2, x3, x4⟩ := (HI6.out.still HS7r.out).blk.cells
        go_wp2
        go_ret2
        rw [HMM.out]
        exact ⟨_, xs, rfl, DoneR.same HIM.out (HB6.out.trans (below_still HS7r.out HB6.out.size))⟩
      have HMM := Lib.hid (show r = (e1.idx, 0, repl s e1 ((ens ls).drop (k + 1))) by rw [HM2.out, HMI.out]; simp only [mrgL]; rw [if_neg hco])
      obtain ⟨q, hqq⟩ : ∃ q : Nat, e1.idx = s.base + 1 + q := ⟨(e1.idx - s.base - 1).toNat, by omega⟩
      have hqN : q ≤ xs.length := by unfold St.last at p2; rw [HN.out] at p2; omega
      have hqm : e1.idx ≤ 1099511627776 := by have := (okE_iff _).1 (okL_mem p6 (e := e1) (by simp)); omega
      have HRP := Lib.hid (show repl s e1 ((ens ls).drop (k + 1)) = { s with es := s.es.take q ++ ens (ls.drop k) } by
        unfold repl
        rw [show (e1.idx - 1 - s.base).toNat = q by omega, ens_drop, HDRP.out])
      have HROK := Lib.hid (show ({ s with es := s.es.take q ++ ens (ls.drop k) } : St).Ok by rw [← HRP.out]; exact repl_ok HOK.out HOY.out HFY.out HHB.out HMI.out hco)
      have ew : IntKind.i64.wrap (IntKind.i64.wrap (e1.idx - 1) - s.base) = (q : Int) := by
        rw [wrap_in (e1.idx - 1) (by omega) (by omega), wrap_in _ (by omega) (by omega)]
        omega
      have EW := Lib.hid ew
      clear p1 p2 p3 p4 p5 p6 p7 hqq hqm ew
      have g0 : (0 : Int) ≤ (q : Int) := by omega
      have g1 : (q : Int) ≤ (cap : Int) := by omega
      have g2 : (k : Int) ≤ (m : Int) := by omega
      have g3 : (m : Int) ≤ (c : Int) := by omega
      have g4 : ¬ c = k := by omega
      have HSL := Lib.hid (show ∀ W, (Instr.slice 29 (.slice A xs.length cap) none (some (.int .i64 (q : Int))) none).run Try.prog W = .ok (.slice A q cap) W from by
        intro W
        cases A with
        | none =>
          obtain rfl := hnil rfl
          obtain rfl : q = 0 := by omega
          go_simp
        | some a => go_simp)
      have HZT := Lib.hid (show RdE W0 (some ⟨zb, zoff + k * 4, none⟩) (m - k) (ls.drop k) by
        have := HYR.out.tail k hk c hymc
        rwa [if_neg g4] at this)
      have HXT := Lib.hid (show ∀ W, Below w.heap.size w W → RdE W A q (xs.take q) from fun W hW => (HLO.out.below hW).rd.cut q hqN)
      have HTA := Lib.hid (show ∀ TB : Bool, Calls Try.prog 45 #[.pointer (some ⟨g, 0, none⟩), .int .i64 e1.idx] wr (fun e w' => e = .returned (.tuple #[.int .i64 (termV s e1.idx), .bool (termB s e1.idx)]) ∧ ∃ m, w' = wr.drewN m) from fun _ => HT6.out)
      have hco2 : ¬ e1.idx ≤ s.com := hco
      have hVT : termB s e1.idx = true → (termV s e1.idx == e1.term) = false := fun hB => by have := HHE1.out; rw [hq, hB] at this; simpa using this.symm
      have HVT2 := Lib.hid hVT
      clear hq hVT HTA
      generalize termV s e1.idx = V2 at *
      generalize termB s e1.idx = TB at *
      cases TB
      rotate_left
      · have v1 := HVT2.out rfl
        obtain ⟨y0, y1, y2, y3, y4⟩ := HI6.out.blk.cells
        go_wp2_with fail
        refine HT6.out.mono ?_
        rintro e w7 ⟨rfl, hw7⟩
        have HS7r := Lib.hid (show Still wr w7 by obtain ⟨k, rfl⟩ := hw7; exact still_drewN _ _)
        clear hw7 y0 y1 y2 y3 y4
        have HB7 := Lib.hid (HB6.out.trans (below_still HS7r.out HB6.out.size))
        have HI7 := Lib.hid (HI6.out.still HS7r.out)
        have r1 := (HS7r.out.cell _).trans q1
        obtain ⟨x0, x1, x2, x3, x4⟩ := HI7.out.blk.cells
        have a2 : ∀ ob, (w7.alloc ob).cell? ⟨g, 2, none⟩ = some (.slice A xs.length cap) := fun ob => (Blk.past HI7.out.blk ob).cell 2 _ rfl
        have a0 : ∀ ob, (w7.alloc ob).cell? ⟨g, 0, none⟩ = some (.int .i64 s.base) := fun ob => (Blk.past HI7.out.blk ob).cell 0 _ rfl
        have HMA := Lib.hid (show ((w7.alloc (.cells #[] 36)).drew).ownsRow W0.heap.size 36 4 (.slice (some ⟨w7.heap.size, 0, none⟩) 0 0) 0 [] from row_made w7 W0.heap.size HI7.out.old.size)
        have HBA := Lib.hid ((HB7.out.alloc HB7.out.size (.cells #[] 36)).drew)
        have HOL := Lib.hid ((HI7.out.old.alloc HI7.out.old.size (.cells #[] 36)).drew)
        have HBP := Lib.hid (show Rb ((w7.alloc (.cells #[] 36)).drew) g s.base s.bt (.slice A xs.length cap) s.com s.app from Blk.past HI7.out.blk (.cells #[] 36))
        have HXS := Lib.hid (HXT.out _ HBA.out)
        have hsl := HSL.out
        go_wp2_with fail
        have ew := EW.out
        go_region_law ((first
          | (refine step_append_rowE rfl _ _ rfl W0.heap.size (.slice (some ⟨w7.heap.size, 0, none⟩) 0 0) 0 [] rfl HMA.out A q cap (xs.take q) rfl HXS.out hnil (by omega) HOL.out.size ?_; intro v8 w8 hr8 hg8 ha8; rw [Nat.zero_add, List.nil_append] at hr8; obtain ⟨VA, vc, hvv, _⟩ := row_slice hr8; subst hvv; have HR8 := Lib.hid hr8; have HG8 := Lib.hid hg8; have HA8 := Lib.hid ha8; have HL8 := Lib.hid (rb_grown HBP.out HMA.out hg8); have HO8 := Lib.hid (HOL.out.grown hg8 HOL.out.size (fun i hi => by cases hi; exact HI7.out.old.size)); clear hr8 hg8 ha8)
          | (have hh := HR8; refine step_append_rowE rfl _ _ rfl W0.heap.size (.slice VA q vc) q (rowE (xs.take q)) rfl HR8.out (some ⟨zb, zoff + k * 4, none⟩) (m - k) (c - k) (ls.drop k) rfl (HZT.out.below HO8.out) (fun h => by cases h) (by omega) HO8.out.size ?_; intro v9 w9 hr9 hg9 ha9; obtain ⟨VB, vd, hvv, _⟩ := row_slice hr9; subst hvv; have HR9 := Lib.hid hr9; have HG9 := Lib.hid hg9; have HA9 := Lib.hid ha9; have hl9 := rb_grown HL8.out HR8.out hg9; have e2 := hl9.cells.2.2.1; have f2 := Blk.free hl9 2; clear hr9 hg9 ha9 hl9 hh)))
        all_goals
          clear ew
          go_wp2
          go_ret2
          rw [HMM.out, HRP.out]
          have htl : (xs.take q).length = q := by rw [List.length_take]; omega
          have hsz : w.heap.size ≤ w7.heap.size := HB7.out.size
          have hge : ∀ j, (Value.slice VA q vc).ownBlock = some j → w.heap.size ≤ j := fun j hj => by
            rcases HA8.out with h | h
            · have h2 := h.symm.trans hj
              cases h2
              exact hsz
            · have h2 := h.symm.trans hj
              cases h2
              show w.heap.size ≤ (w7.alloc _).heap.size
              simp
              omega
          have hfw : Dk.Fr [] w w8 := (Dk.Fr.below HBA.out).grown HG8.out (fun j hj => .inr (by cases hj; exact hsz))
          have hf9 : Dk.Fr [] w w9 := hfw.grown HG9.out (fun j hj => .inr (hge j hj))
          refine ⟨.slice VB (q + (m - k)) vd, xs.take q ++ ls.drop k, rfl, ?_, ?_, ?_⟩
          · have := appendedR (s' := { s with es := s.es.take q ++ ens (ls.drop k) }) HL8.out (by rw [htl]; exact HR8.out) ((HIM.out.dat.take q).append (HYR.out.dat.drop k)) HG9.out (by rw [htl]; exact HR9.out) HZT.out.len (by rw [ens_take, HIM.out.es]) HIM.out.lo HROK.out HO8.out
            first | exact this | exact this.still (Still.refl _).drew
          · have hfe : Dk.Fr (g :: (Value.slice A xs.length cap).ownBlock.toList) w w9 := hf9.mono (fun j hj => absurd hj (List.not_mem_nil))
            have hfs := hfe.setCell ⟨g, 2, none⟩ (.inl (List.mem_cons_self ..)) (.slice VB (q + (m - k)) vd)
            first | exact hfs | exact hfs.drew
          · intro j hj
            rcases HA9.out with h | h
            · exact .inr (hge j (h.symm.trans hj))
            · have h2 := h.symm.trans hj
              cases h2
              exact .inr hfw.size
      · obtain ⟨y0, y1, y2, y3, y4⟩ := HI6.out.blk.cells
        go_wp2_with fail
        refine HT6.out.mono ?_
        rintro e w7 ⟨rfl, hw7⟩
        have HS7r := Lib.hid (show Still wr w7 by obtain ⟨k, rfl⟩ := hw7; exact still_drewN _ _)
        clear hw7 y0 y1 y2 y3 y4
        have HB7 := Lib.hid (HB6.out.trans (below_still HS7r.out HB6.out.size))
        have HI7 := Lib.hid (HI6.out.still HS7r.out)
        have r1 := (HS7r.out.cell _).trans q1
        obtain ⟨x0, x1, x2, x3, x4⟩ := HI7.out.blk.cells
        have a2 : ∀ ob, (w7.alloc ob).cell? ⟨g, 2, none⟩ = some (.slice A xs.length cap) := fun ob => (Blk.past HI7.out.blk ob).cell 2 _ rfl
        have a0 : ∀ ob, (w7.alloc ob).cell? ⟨g, 0, none⟩ = some (.int .i64 s.base) := fun ob => (Blk.past HI7.out.blk ob).cell 0 _ rfl
        have HMA := Lib.hid (show ((w7.alloc (.cells #[] 36)).drew).ownsRow W0.heap.size 36 4 (.slice (some ⟨w7.heap.size, 0, none⟩) 0 0) 0 [] from row_made w7 W0.heap.size HI7.out.old.size)
        have HBA := Lib.hid ((HB7.out.alloc HB7.out.size (.cells #[] 36)).drew)
        have HOL := Lib.hid ((HI7.out.old.alloc HI7.out.old.size (.cells #[] 36)).drew)
        have HBP := Lib.hid (show Rb ((w7.alloc (.cells #[] 36)).drew) g s.base s.bt (.slice A xs.length cap) s.com s.app from Blk.past HI7.out.blk (.cells #[] 36))
        have HXS := Lib.hid (HXT.out _ HBA.out)
        have hsl := HSL.out
        go_wp2_with fail
        have ew := EW.out
        go_region_law ((first
          | (refine step_append_rowE rfl _ _ rfl W0.heap.size (.slice (some ⟨w7.heap.size, 0, none⟩) 0 0) 0 [] rfl HMA.out A q cap (xs.take q) rfl HXS.out hnil (by omega) HOL.out.size ?_; intro v8 w8 hr8 hg8 ha8; rw [Nat.zero_add, List.nil_append] at hr8; obtain ⟨VA, vc, hvv, _⟩ := row_slice hr8; subst hvv; have HR8 := Lib.hid hr8; have HG8 := Lib.hid hg8; have HA8 := Lib.hid ha8; have HL8 := Lib.hid (rb_grown HBP.out HMA.out hg8); have HO8 := Lib.hid (HOL.out.grown hg8 HOL.out.size (fun i hi => by cases hi; exact HI7.out.old.size)); clear hr8 hg8 ha8)
          | (have hh := HR8; refine step_append_rowE rfl _ _ rfl W0.heap.size (.slice VA q vc) q (rowE (xs.take q)) rfl HR8.out (some ⟨zb, zoff + k * 4, none⟩) (m - k) (c - k) (ls.drop k) rfl (HZT.out.below HO8.out) (fun h => by cases h) (by omega) HO8.out.size ?_; intro v9 w9 hr9 hg9 ha9; obtain ⟨VB, vd, hvv, _⟩ := row_slice hr9; subst hvv; have HR9 := Lib.hid hr9; have HG9 := Lib.hid hg9; have HA9 := Lib.hid ha9; have hl9 := rb_grown HL8.out HR8.out hg9; have e2 := hl9.cells.2.2.1; have f2 := Blk.free hl9 2; clear hr9 hg9 ha9 hl9 hh)))
        all_goals
          clear ew
          go_wp2
          go_ret2
          rw [HMM.out, HRP.out]
          have htl : (xs.take q).length = q := by rw [List.length_take]; omega
          have hsz : w.heap.size ≤ w7.heap.size := HB7.out.size
          have hge : ∀ j, (Value.slice VA q vc).ownBlock = some j → w.heap.size ≤ j := fun j hj => by
            rcases HA8.out with h | h
            · have h2 := h.symm.trans hj
              cases h2
              exact hsz
            · have h2 := h.symm.trans hj
              cases h2
              show w.heap.size ≤ (w7.alloc _).heap.size
              simp
              omega
          have hfw : Dk.Fr [] w w8 := (Dk.Fr.below HBA.out).grown HG8.out (fun j hj => .inr (by cases hj; exact hsz))
          have hf9 : Dk.Fr [] w w9 := hfw.grown HG9.out (fun j hj => .inr (hge j hj))
          refine ⟨.slice VB (q + (m - k)) vd, xs.take q ++ ls.drop k, rfl, ?_, ?_, ?_⟩
          · have := appendedR (s' := { s with es := s.es.take q ++ ens (ls.drop k) }) HL8.out (by rw [htl]; exact HR8.out) ((HIM.out.dat.take q).append (HYR.out.dat.drop k)) HG9.out (by rw [htl]; exact HR9.out) HZT.out.len (by rw [ens_take, HIM.out.es]) HIM.out.lo HROK.out HO8.out
            first | exact this | exact this.still (Still.refl _).drew
          · have hfe : Dk.Fr (g :: (Value.slice A xs.length cap).ownBlock.toList) w w9 := hf9.mono (fun j hj => absurd hj (List.not_mem_nil))
            have hfs := hfe.setCell ⟨g, 2, none⟩ (.inl (List.mem_cons_self ..)) (.slice VB (q + (m - k)) vd)
            first | exact hfs | exact hfs.drew
          · intro j hj
            rcases HA9.out with h | h
            · exact .inr (hge j (h.symm.trans hj))
            · have h2 := h.symm.trans hj
              cases h2
              exact .inr hfw.size
  · have HM0 := Lib.hid (show r = mrgB s (skp s.base (ens ls)) by rw [← HR0.out]; unfold mrg; rw [if_pos ⟨HVT.out, HFT.out⟩, if_pos hib])
    go_wp2_with fail
    go_loopw [3] (fun l wr => ∃ (A' : Option Addr) (ym yc : Nat) (ys : List EA), l = .slice A' ym yc ∧ RdE W0 A' ym ys ∧ ym ≤ yc ∧ yc ≤ maxLen ∧ (A' = none → yc = 0) ∧ ym ≤ m ∧ skp s.base (ens ls) = skp s.base (ens ys) ∧ Still w1 wr) (fun l _ => (match l with | .slice _ m _ => m | _ => 0))
    case atStart => exact ⟨LA, m, c, ls, rfl, HR.out, hmc, hcm, HA.out, Nat.le_refl _, rfl, Still.refl _⟩
    case round =>
      obtain ⟨A', ym, yc, ys, rfl, hrd, hymc, hycm, hA', hyle, hsk, hst⟩ := hrel
      have HRD := Lib.hid hrd
      have HA2 := Lib.hid hA'
      have HSK := Lib.hid hsk
      have HST := Lib.hid hst
      have HLEN := Lib.hid hrd.len
      clear hrd hA' hsk hst
      unfold maxLen at hycm
      have HIr := Lib.hid (HI2.out.still HST.out)
      obtain ⟨d0, d1, d2, d3, d4⟩ := HIr.out.blk.cells
      have HBr := Lib.hid (HB1.out.trans (below_still HST.out HB1.out.size))
      by_cases hm0 : 0 < ym
      rotate_left
      · obtain rfl : ym = 0 := by omega
        obtain rfl : ys = [] := List.eq_nil_of_length_eq_zero HLEN.out
        have HM := Lib.hid (show r = (0, 0, s) by rw [HM0.out, HSK.out]; rfl)
        go_wp2_with fail
        go_quiet (fail)
        go_wp2
        go_ret2
        rw [HM.out]
        exact ⟨_, xs, rfl, DoneR.same HIM.out (HBr.out.trans (below_still (still_drewN _ _) HBr.out.size))⟩
      obtain ⟨b, off, rfl, q0, q1, q2, q3⟩ := (HRD.out.below HIr.out.old).elem 0 hm0
      have HY := Lib.hid (show ys = ys.getD 0 ea0 :: ys.drop 1 by
        cases ys with
        | nil => have := HLEN.out; simp at this; omega
        | cons y r => rfl)
      rw [Nat.zero_mul, Nat.add_zero] at q0 q1
      clear q2 q3
      generalize ys.getD 0 ea0 = x at *
      have j0 : decide (0 < ym) = true := decide_eq_true hm0
      have j1 : (0 : Int) < (ym : Int) := by omega
      have j2 : (1 : Int) ≤ (ym : Int) := by omega
      have j3 : (1 : Int) ≤ (yc : Int) := by omega
      have j4 : (ym : Int) ≤ (yc : Int) := by omega
      have HT := Lib.hid (HRD.out.tail 1 hm0 yc hymc)
      by_cases hle : x.e.idx ≤ s.base
      · have HSK2 := Lib.hid (show skp s.base (ens ls) = skp s.base (ens (ys.drop 1)) by
          rw [HSK.out]
          conv => lhs; rw [HY.out]
          simp only [ens, List.map_cons, skp]
          rw [if_pos hle])
        obtain ⟨off2, HT2, hsl⟩ : ∃ off2, Hid (RdE W0 (some ⟨b, off2, none⟩) (ym - 1) (ys.drop 1)) ∧ ∀ W, (Instr.slice 29 (.slice (some ⟨b, off, none⟩) ym yc) (some (.int .i64 1)) none none).run Try.prog W = .ok (.slice (some ⟨b, off2, none⟩) (ym - 1) (yc - 1)) W := by
          by_cases hc1 : yc = 1
          · refine ⟨off, Lib.hid (by have := HT.out; rwa [if_pos hc1] at this), fun W => ?_⟩
            subst hc1
            go_simp
          · refine ⟨off + 1 * 4, Lib.hid (by have := HT.out; rwa [if_neg hc1] at this), fun W => ?_⟩
            go_simp
        go_wp2_with fail
        go_quiet (fail)
        go_wp2
        go_roundw
        case rel => exact ⟨_, ym - 1, yc - 1, ys.drop 1, rfl, HT2.out, by omega, by unfold maxLen; omega, (fun h => by cases h), by omega, HSK2.out, HST.out.trans (still_drewN _ _)⟩
        case measure => (simp <;> omega)
      · have HSK2 := Lib.hid (show skp s.base (ens ls) = ens ys by
          rw [HSK.out, HY.out]
          simp only [ens, List.map_cons, skp]
          rw [if_neg hle])
        obtain ⟨e0, r0, he0⟩ := len_cons HLEN.out hm0
        have HE0 := Lib.hid he0
        have HX := Lib.hid (show x.e = e0 by have := HY.out; rw [this] at he0; simp only [ens, List.map_cons, List.cons.injEq] at he0; exact he0.1)
        rw [HX.out] at q0 q1 hle
        clear he0
        have y2 : ((ym : Int) == 0) = false := by simp; omega
        go_wp2_with fail
        go_quiet (fail)
        have HS5 := Lib.hid (HST.out.trans (still_drewN wr nq))
        generalize wr.drewN nq = w5 at *
        have HI5 := Lib.hid (HI2.out.still HS5.out)
        obtain ⟨f0, f1, f2, f3, f4⟩ := HI5.out.blk.cells
        have HB5 := Lib.hid (HB1.out.trans (below_still HS5.out HB1.out.size))
        obtain ⟨b', off', hbe, _, p1, _, _⟩ := (HRD.out.below HI5.out.old).elem 0 hm0
        cases hbe
        rw [getD_zero HE0.out, Nat.zero_mul, Nat.add_zero] at p1
        by_cases ht : e0.term < s.bt
        · have HM := Lib.hid (show r = (0, 7, s) by rw [HM0.out, HSK2.out, HE0.out]; simp only [mrgB]; rw [if_pos ht])
          go_wp2_with fail
          go_quiet (fail)
          go_wp2
          go_ret2
          rw [HM.out]
          exact ⟨_, xs, rfl, DoneR.same HIM.out (HB5.out.trans (below_still (still_drewN _ _) HB5.out.size))⟩
        have HM := Lib.hid (show r = mrgA s s.base s.bt (ens ys) by rw [HM0.out, HSK2.out, HE0.out]; simp only [mrgB]; rw [if_neg ht])
        have HFY := Lib.hid (show fol (ens ys) s.base s.bt = true by rw [HE0.out]; exact skp_fol HFT.out hib (by rw [HSK2.out]; exact HE0.out) ht)
        have HOY := Lib.hid (show okL (ens ys) = true by rw [← HSK2.out]; exact skp_okL _ HVT.out)
        go_wp2_with fail
        go_quiet (fail)
        have HS6 := Lib.hid (HS5.out.trans (still_drewN w5 nq))
        generalize w5.drewN nq = w6 at *
        obtain ⟨u0, u1, u2, u3, u4⟩ := (HI2.out.still HS6.out).blk.cells
        have HB4 := Lib.hid (HB1.out.trans (below_still HS6.out HB1.out.size))
        have HYR := Lib.hid HRD.out
        have HYL := Lib.hid HLEN.out
        clear q0 q1 p1 f0 f1 f2 f3 f4 d0 d1 d2 d3 d4 j0 j1 j2 j3 j4 y2
        have HLr := Lib.hid (HLO.out.below HB4.out)
        have HIr := Lib.hid (HIM.out.below HB4.out)
        have HTD := Lib.hid (HLr.out.term_dr s.base)
        have HHE := Lib.hid (show hasB s s.base s.bt = (termB s s.base && (termV s s.base == s.bt)) from rfl)
        cases hh : hasB s s.base s.bt with
        | false =>
          have HMM := Lib.hid (show r = (0, 7, s) by rw [HM.out]; unfold mrgA; rw [if_neg (by rw [hh]; decide)])
          rw [hh] at HHE
          clear hh
          generalize termB s s.base = TB at *
          generalize termV s s.base = V at *
          cases TB with
          | false =>
            go_wp2_with fail
            refine HTD.out.mono ?_
            rintro e w5 ⟨rfl, nh, rfl⟩
            go_wp2
            go_ret2
            rw [HMM.out]
            exact ⟨_, xs, rfl, DoneR.same HIM.out (HB4.out.trans (below_still (still_drewN _ _) HB4.out.size))⟩
          | true =>
            have v1 : (V == s.bt) = false := by have := HHE.out; simpa using this.symm
            have v2 : (V != s.bt) = true := by rw [bne, v1]; rfl
            go_wp2_with fail
            refine HTD.out.mono ?_
            rintro e w5 ⟨rfl, nh, rfl⟩
            go_wp2
            go_ret2
            rw [HMM.out]
            exact ⟨_, xs, rfl, DoneR.same HIM.out (HB4.out.trans (below_still (still_drewN _ _) HB4.out.size))⟩
        | true =>
        have HM2 := Lib.hid (show r = mrgL s (mis s (ens ys)) by rw [HM.out]; unfold mrgA; rw [if_pos hh])
        have HHB := Lib.hid hh
        have hB1 : termB s s.base = true := by have := HHE.out; rw [hh] at this; simp only [Bool.true_eq, Bool.and_eq_true] at this; exact this.1
        have hV1 : (termV s s.base == s.bt) = true := by have := HHE.out; rw [hh] at this; simp only [Bool.true_eq, Bool.and_eq_true] at this; exact this.2
        rw [hB1] at HTD
        clear hh hB1
        generalize termV s s.base = V at *
        have v2 : (V != s.bt) = false := by rw [bne, hV1]; rfl
        go_wp2_with fail
        refine HTD.out.mono ?_
        rintro e w5 ⟨rfl, hw5⟩
        have HS5 := Lib.hid (show Still w6 w5 by obtain ⟨k, rfl⟩ := hw5; exact still_drewN _ _)
        clear hw5
        go_wp2_with fail
        go_loopw [12, 13, 14, 15] (fun _ _ kv _ wr => ∃ k : Nat, k ≤ ym ∧ kv = .int .i64 k ∧ (∀ j, j < k → hasB s (ys.getD j ea0).e.idx (ys.getD j ea0).e.term = true) ∧ Still w6 wr) (fun _ _ kv _ _ => ym - (intOf kv).toNat)
        case atStart => exact ⟨0, Nat.zero_le _, rfl, (fun j hj => by omega), HS5.out⟩
        case round =>
          obtain ⟨k, hk, rfl, hall, hst⟩ := hrel
          have HALL := Lib.hid hall
          have HST := Lib.hid hst
          clear hall hst
          have HI6 := Lib.hid (HIr.out.still HST.out)
          have HB6 := Lib.hid (HB4.out.trans (below_still HST.out HB4.out.size))
          have conv : ∀ j, j < ym → hasB s ((ens ys).getD j en0).idx ((ens ys).getD j en0).term = hasB s (ys.getD j ea0).e.idx (ys.getD j ea0).e.term := fun j hj => by rw [ens_at ys j (by rw [HYL.out]; exact hj)]
          have HCV := Lib.hid conv
          clear conv
          by_cases hlt : k < ym
          rotate_left
          · obtain rfl : k = ym := by omega
            have HMM := Lib.hid (show r = (0, 0, s) by
              rw [HM2.out, mis_of s (ens ys) k (by rw [ens_len, HYL.out]; exact Nat.le_refl _) (fun j hj => by rw [HCV.out j hj]; exact HALL.out j hj) (fun h => by rw [ens_len, HYL.out] at h; omega), List.drop_eq_nil_of_le (by rw [ens_len, HYL.out]; exact Nat.le_refl _)]
              rfl)
            go_wp2
            go_ret2
            rw [HMM.out]
            exact ⟨_, xs, rfl, DoneR.same HIM.out HB6.out⟩
          obtain ⟨zb, zoff, hza, q0, q1, q2, q3⟩ := (HYR.out.below HI6.out.old).elem k hlt
          first | subst hza | cases hza
          have HYS := Lib.hid (show ens ys = (ens ys).take k ++ (ys.getD k ea0).e :: (ens ys).drop (k + 1) by
            have hkl : k < (ens ys).length := by rw [ens_len, HYL.out]; exact hlt
            conv => lhs; rw [← List.take_append_drop k (ens ys), List.drop_eq_getElem_cons hkl]
            rw [← ens_at ys k (by rw [HYL.out]; exact hlt), List.getD_eq_getElem?_getD, List.getElem?_eq_getElem hkl]
            rfl)
          have HDRP := Lib.hid (show (ens ys).drop k = (ys.getD k ea0).e :: (ens ys).drop (k + 1) by
            have hkl : k < (ens ys).length := by rw [ens_len, HYL.out]; exact hlt
            rw [List.drop_eq_getElem_cons hkl, ← ens_at ys k (by rw [HYL.out]; exact hlt), List.getD_eq_getElem?_getD, List.getElem?_eq_getElem hkl]
            rfl)
          have HSUC := Lib.hid (show hasB s (ys.getD k ea0).e.idx (ys.getD k ea0).e.term = true → ∀ j, j < k + 1 → hasB s (ys.getD j ea0).e.idx (ys.getD j ea0).e.term = true from fun hq => upto_succ HALL.out hq)
          have HMIS := Lib.hid (show hasB s (ys.getD k ea0).e.idx (ys.getD k ea0).e.term = false → mis s (ens ys) = (ys.getD k ea0).e :: (ens ys).drop (k + 1) from fun hq => by
            rw [mis_of s (ens ys) k (by rw [ens_len, HYL.out]; omega) (fun j hj => by rw [HCV.out j (by omega)]; exact HALL.out j hj) (fun h => by rw [HCV.out k hlt]; exact hq), HDRP.out])
          generalize (ys.getD k ea0).e = e1 at *
          have HT6 := Lib.hid ((HLr.out.still HST.out).term_dr e1.idx)
          have HHE1 := Lib.hid (show hasB s e1.idx e1.term = (termB s e1.idx && (termV s e1.idx == e1.term)) from rfl)
          have k0 : (0 : Int) ≤ (k : Int) := by omega
          have k1 : (k : Int) < (ym : Int) := by omega
          cases hq : hasB s e1.idx e1.term with
          | true =>
            have hB1 : termB s e1.idx = true := by have := HHE1.out; rw [hq] at this; simp only [Bool.true_eq, Bool.and_eq_true] at this; exact this.1
            have hV2 : (termV s e1.idx == e1.term) = true := by have := HHE1.out; rw [hq] at this; simp only [Bool.true_eq, Bool.and_eq_true] at this; exact this.2
            rw [hB1] at HT6
            have HSU := Lib.hid (HSUC.out hq)
            clear hq hB1
            generalize termV s e1.idx = V2 at *
            go_wp2_with fail
            refine HT6.out.mono ?_
            rintro e w7 ⟨rfl, hw7⟩
            have HS7r := Lib.hid (show Still wr w7 by obtain ⟨k, rfl⟩ := hw7; exact still_drewN _ _)
            have HS7 := Lib.hid (HST.out.trans HS7r.out)
            clear hw7
            have r1 := (HS7r.out.cell _).trans q1
            go_wp2_with fail
            go_roundw
            case rel => exact ⟨k + 1, by omega, by go_num, HSU.out, HS7.out⟩
            case measure => simp [intOf]; omega
          | false =>
          have HMI := Lib.hid (HMIS.out hq)
          have HQF := Lib.hid hq
          obtain ⟨p1, p2, p3, p4, p5, p6, p7⟩ := repl_facts HOK.out HOY.out HFY.out HHB.out HMI.out
          clear HMIS
          by_cases hco : e1.idx ≤ s.com
          · have HMM := Lib.hid (show r = (0, 9, s) by rw [HM2.out, HMI.out]; simp only [mrgL]; rw [if_pos hco])
            have hB1 : termB s e1.idx = true := by rw [termB_iff]; omega
            have v1 : (termV s e1.idx == e1.term) = false := by have := HHE1.out; rw [hq, hB1] at this; simpa using this.symm
            rw [hB1] at HT6
            clear hq hB1 p1 p2 p3 p4 p5 p6 p7
            generalize termV s e1.idx = V2 at *
            obtain ⟨y0, y1, y2, y3, y4⟩ := HI6.out.blk.cells
            go_wp2_with fail
            refine HT6.out.mono ?_
            rintro e w7 ⟨rfl, hw7⟩
            have HS7r := Lib.hid (show Still wr w7 by obtain ⟨k, rfl⟩ := hw7; exact still_drewN _ _)
            have HS7 := Lib.hid (HST.out.trans HS7r.out)
            clear hw7
            have r1 := (HS7r.out.cell _).trans q1
            obtain ⟨x0, x1, x2, x3, x4⟩ := (HI6.out.still HS7r.out).blk.cells
            go_wp2
            go_ret2
            rw [HMM.out]
            exact ⟨_, xs, rfl, DoneR.same HIM.out (HB6.out.trans (below_still HS7r.out HB6.out.size))⟩
          have HMM := Lib.hid (show r = (e1.idx, 0, repl s e1 ((ens ys).drop (k + 1))) by rw [HM2.out, HMI.out]; simp only [mrgL]; rw [if_neg hco])
          obtain ⟨q, hqq⟩ : ∃ q : Nat, e1.idx = s.base + 1 + q := ⟨(e1.idx - s.base - 1).toNat, by omega⟩
          have hqN : q ≤ xs.length := by unfold St.last at p2; rw [HN.out] at p2; omega
          have hqm : e1.idx ≤ 1099511627776 := by have := (okE_iff _).1 (okL_mem p6 (e := e1) (by simp)); omega
          have HRP := Lib.hid (show repl s e1 ((ens ys).drop (k + 1)) = { s with es := s.es.take q ++ ens (ys.drop k) } by
            unfold repl
            rw [show (e1.idx - 1 - s.base).toNat = q by omega, ens_drop, HDRP.out])
          have HROK := Lib.hid (show ({ s with es := s.es.take q ++ ens (ys.drop k) } : St).Ok by rw [← HRP.out]; exact repl_ok HOK.out HOY.out HFY.out HHB.out HMI.out hco)
          have ew : IntKind.i64.wrap (IntKind.i64.wrap (e1.idx - 1) - s.base) = (q : Int) := by
            rw [wrap_in (e1.idx - 1) (by omega) (by omega), wrap_in _ (by omega) (by omega)]
            omega
          have EW := Lib.hid ew
          clear p1 p2 p3 p4 p5 p6 p7 hqq hqm ew
          have g0 : (0 : Int) ≤ (q : Int) := by omega
          have g1 : (q : Int) ≤ (cap : Int) := by omega
          have g2 : (k : Int) ≤ (ym : Int) := by omega
          have g3 : (ym : Int) ≤ (yc : Int) := by omega
          have g4 : ¬ yc = k := by omega
          have HSL := Lib.hid (show ∀ W, (Instr.slice 29 (.slice A xs.length cap) none (some (.int .i64 (q : Int))) none).run Try.prog W = .ok (.slice A q cap) W from by
            intro W
            cases A with
            | none =>
              obtain rfl := hnil rfl
              obtain rfl : q = 0 := by omega
              go_simp
            | some a => go_simp)
          have HZT := Lib.hid (show RdE W0 (some ⟨b, off + k * 4, none⟩) (ym - k) (ys.drop k) by
            have := HYR.out.tail k hk yc hymc
            rwa [if_neg g4] at this)
          have HXT := Lib.hid (show ∀ W, Below w.heap.size w W → RdE W A q (xs.take q) from fun W hW => (HLO.out.below hW).rd.cut q hqN)
          have HTA := Lib.hid (show ∀ TB : Bool, Calls Try.prog 45 #[.pointer (some ⟨g, 0, none⟩), .int .i64 e1.idx] wr (fun e w' => e = .returned (.tuple #[.int .i64 (termV s e1.idx), .bool (termB s e1.idx)]) ∧ ∃ m, w' = wr.drewN m) from fun _ => HT6.out)
          have hco2 : ¬ e1.idx ≤ s.com := hco
          have hVT : termB s e1.idx = true → (termV s e1.idx == e1.term) = false := fun hB => by have := HHE1.out; rw [hq, hB] at this; simpa using this.symm
          have HVT2 := Lib.hid hVT
          clear hq hVT HTA
          generalize termV s e1.idx = V2 at *
          generalize termB s e1.idx = TB at *
          cases TB
          rotate_left
          · have v1 := HVT2.out rfl
            obtain ⟨y0, y1, y2, y3, y4⟩ := HI6.out.blk.cells
            go_wp2_with fail
            refine HT6.out.mono ?_
            rintro e w7 ⟨rfl, hw7⟩
            have HS7r := Lib.hid (show Still wr w7 by obtain ⟨k, rfl⟩ := hw7; exact still_drewN _ _)
            clear hw7 y0 y1 y2 y3 y4
            have HB7 := Lib.hid (HB6.out.trans (below_still HS7r.out HB6.out.size))
            have HI7 := Lib.hid (HI6.out.still HS7r.out)
            have r1 := (HS7r.out.cell _).trans q1
            obtain ⟨x0, x1, x2, x3, x4⟩ := HI7.out.blk.cells
            have a2 : ∀ ob, (w7.alloc ob).cell? ⟨g, 2, none⟩ = some (.slice A xs.length cap) := fun ob => (Blk.past HI7.out.blk ob).cell 2 _ rfl
            have a0 : ∀ ob, (w7.alloc ob).cell? ⟨g, 0, none⟩ = some (.int .i64 s.base) := fun ob => (Blk.past HI7.out.blk ob).cell 0 _ rfl
            have HMA := Lib.hid (show ((w7.alloc (.cells #[] 36)).drew).ownsRow W0.heap.size 36 4 (.slice (some ⟨w7.heap.size, 0, none⟩) 0 0) 0 [] from row_made w7 W0.heap.size HI7.out.old.size)
            have HBA := Lib.hid ((HB7.out.alloc HB7.out.size (.cells #[] 36)).drew)
            have HOL := Lib.hid ((HI7.out.old.alloc HI7.out.old.size (.cells #[] 36)).drew)
            have HBP := Lib.hid (show Rb ((w7.alloc (.cells #[] 36)).drew) g s.base s.bt (.slice A xs.length cap) s.com s.app from Blk.past HI7.out.blk (.cells #[] 36))
            have HXS := Lib.hid (HXT.out _ HBA.out)
            have hsl := HSL.out
            go_wp2_with fail
            have ew := EW.out
            go_region_law ((first
              | (refine step_append_rowE rfl _ _ rfl W0.heap.size (.slice (some ⟨w7.heap.size, 0, none⟩) 0 0) 0 [] rfl HMA.out A q cap (xs.take q) rfl HXS.out hnil (by omega) HOL.out.size ?_; intro v8 w8 hr8 hg8 ha8; rw [Nat.zero_add, List.nil_append] at hr8; obtain ⟨VA, vc, hvv, _⟩ := row_slice hr8; subst hvv; have HR8 := Lib.hid hr8; have HG8 := Lib.hid hg8; have HA8 := Lib.hid ha8; have HL8 := Lib.hid (rb_grown HBP.out HMA.out hg8); have HO8 := Lib.hid (HOL.out.grown hg8 HOL.out.size (fun i hi => by cases hi; exact HI7.out.old.size)); clear hr8 hg8 ha8)
              | (have hh := HR8; refine step_append_rowE rfl _ _ rfl W0.heap.size (.slice VA q vc) q (rowE (xs.take q)) rfl HR8.out (some ⟨b, off + k * 4, none⟩) (ym - k) (yc - k) (ys.drop k) rfl (HZT.out.below HO8.out) (fun h => by cases h) (by omega) HO8.out.size ?_; intro v9 w9 hr9 hg9 ha9; obtain ⟨VB, vd, hvv, _⟩ := row_slice hr9; subst hvv; have HR9 := Lib.hid hr9; have HG9 := Lib.hid hg9; have HA9 := Lib.hid ha9; have hl9 := rb_grown HL8.out HR8.out hg9; have e2 := hl9.cells.2.2.1; have f2 := Blk.free hl9 2; clear hr9 hg9 ha9 hl9 hh)))
            all_goals
              clear ew
              go_wp2
              go_ret2
              rw [HMM.out, HRP.out]
              have htl : (xs.take q).length = q := by rw [List.length_take]; omega
              have hsz : w.heap.size ≤ w7.heap.size := HB7.out.size
              have hge : ∀ j, (Value.slice VA q vc).ownBlock = some j → w.heap.size ≤ j := fun j hj => by
                rcases HA8.out with h | h
                · have h2 := h.symm.trans hj
                  cases h2
                  exact hsz
                · have h2 := h.symm.trans hj
                  cases h2
                  show w.heap.size ≤ (w7.alloc _).heap.size
                  simp
                  omega
              have hfw : Dk.Fr [] w w8 := (Dk.Fr.below HBA.out).grown HG8.out (fun j hj => .inr (by cases hj; exact hsz))
              have hf9 : Dk.Fr [] w w9 := hfw.grown HG9.out (fun j hj => .inr (hge j hj))
              refine ⟨.slice VB (q + (ym - k)) vd, xs.take q ++ ys.drop k, rfl, ?_, ?_, ?_⟩
              · have := appendedR (s' := { s with es := s.es.take q ++ ens (ys.drop k) }) HL8.out (by rw [htl]; exact HR8.out) ((HIM.out.dat.take q).append (HYR.out.dat.drop k)) HG9.out (by rw [htl]; exact HR9.out) HZT.out.len (by rw [ens_take, HIM.out.es]) HIM.out.lo HROK.out HO8.out
                first | exact this | exact this.still (Still.refl _).drew
              · have hfe : Dk.Fr (g :: (Value.slice A xs.length cap).ownBlock.toList) w w9 := hf9.mono (fun j hj => absurd hj (List.not_mem_nil))
                have hfs := hfe.setCell ⟨g, 2, none⟩ (.inl (List.mem_cons_self ..)) (.slice VB (q + (ym - k)) vd)
                first | exact hfs | exact hfs.drew
              · intro j hj
                rcases HA9.out with h | h
                · exact .inr (hge j (h.symm.trans hj))
                · have h2 := h.symm.trans hj
                  cases h2
                  exact .inr hfw.size
          · obtain ⟨y0, y1, y2, y3, y4⟩ := HI6.out.blk.cells
            go_wp2_with fail
            refine HT6.out.mono ?_
            rintro e w7 ⟨rfl, hw7⟩
            have HS7r := Lib.hid (show Still wr w7 by obtain ⟨k, rfl⟩ := hw7; exact still_drewN _ _)
            clear hw7 y0 y1 y2 y3 y4
            have HB7 := Lib.hid (HB6.out.trans (below_still HS7r.out HB6.out.size))
            have HI7 := Lib.hid (HI6.out.still HS7r.out)
            have r1 := (HS7r.out.cell _).trans q1
            obtain ⟨x0, x1, x2, x3, x4⟩ := HI7.out.blk.cells
            have a2 : ∀ ob, (w7.alloc ob).cell? ⟨g, 2, none⟩ = some (.slice A xs.length cap) := fun ob => (Blk.past HI7.out.blk ob).cell 2 _ rfl
            have a0 : ∀ ob, (w7.alloc ob).cell? ⟨g, 0, none⟩ = some (.int .i64 s.base) := fun ob => (Blk.past HI7.out.blk ob).cell 0 _ rfl
            have HMA := Lib.hid (show ((w7.alloc (.cells #[] 36)).drew).ownsRow W0.heap.size 36 4 (.slice (some ⟨w7.heap.size, 0, none⟩) 0 0) 0 [] from row_made w7 W0.heap.size HI7.out.old.size)
            have HBA := Lib.hid ((HB7.out.alloc HB7.out.size (.cells #[] 36)).drew)
            have HOL := Lib.hid ((HI7.out.old.alloc HI7.out.old.size (.cells #[] 36)).drew)
            have HBP := Lib.hid (show Rb ((w7.alloc (.cells #[] 36)).drew) g s.base s.bt (.slice A xs.length cap) s.com s.app from Blk.past HI7.out.blk (.cells #[] 36))
            have HXS := Lib.hid (HXT.out _ HBA.out)
            have hsl := HSL.out
            go_wp2_with fail
            have ew := EW.out
            go_region_law ((first
              | (refine step_append_rowE rfl _ _ rfl W0.heap.size (.slice (some ⟨w7.heap.size, 0, none⟩) 0 0) 0 [] rfl HMA.out A q cap (xs.take q) rfl HXS.out hnil (by omega) HOL.out.size ?_; intro v8 w8 hr8 hg8 ha8; rw [Nat.zero_add, List.nil_append] at hr8; obtain ⟨VA, vc, hvv, _⟩ := row_slice hr8; subst hvv; have HR8 := Lib.hid hr8; have HG8 := Lib.hid hg8; have HA8 := Lib.hid ha8; have HL8 := Lib.hid (rb_grown HBP.out HMA.out hg8); have HO8 := Lib.hid (HOL.out.grown hg8 HOL.out.size (fun i hi => by cases hi; exact HI7.out.old.size)); clear hr8 hg8 ha8)
              | (have hh := HR8; refine step_append_rowE rfl _ _ rfl W0.heap.size (.slice VA q vc) q (rowE (xs.take q)) rfl HR8.out (some ⟨b, off + k * 4, none⟩) (ym - k) (yc - k) (ys.drop k) rfl (HZT.out.below HO8.out) (fun h => by cases h) (by omega) HO8.out.size ?_; intro v9 w9 hr9 hg9 ha9; obtain ⟨VB, vd, hvv, _⟩ := row_slice hr9; subst hvv; have HR9 := Lib.hid hr9; have HG9 := Lib.hid hg9; have HA9 := Lib.hid ha9; have hl9 := rb_grown HL8.out HR8.out hg9; have e2 := hl9.cells.2.2.1; have f2 := Blk.free hl9 2; clear hr9 hg9 ha9 hl9 hh)))
            all_goals
              clear ew
              go_wp2
              go_ret2
              rw [HMM.out, HRP.out]
              have htl : (xs.take q).length = q := by rw [List.length_take]; omega
              have hsz : w.heap.size ≤ w7.heap.size := HB7.out.size
              have hge : ∀ j, (Value.slice VA q vc).ownBlock = some j → w.heap.size ≤ j := fun j hj => by
                rcases HA8.out with h | h
                · have h2 := h.symm.trans hj
                  cases h2
                  exact hsz
                · have h2 := h.symm.trans hj
                  cases h2
                  show w.heap.size ≤ (w7.alloc _).heap.size
                  simp
                  omega
              have hfw : Dk.Fr [] w w8 := (Dk.Fr.below HBA.out).grown HG8.out (fun j hj => .inr (by cases hj; exact hsz))
              have hf9 : Dk.Fr [] w w9 := hfw.grown HG9.out (fun j hj => .inr (hge j hj))
              refine ⟨.slice VB (q + (ym - k)) vd, xs.take q ++ ys.drop k, rfl, ?_, ?_, ?_⟩
              · have := appendedR (s' := { s with es := s.es.take q ++ ens (ys.drop k) }) HL8.out (by rw [htl]; exact HR8.out) ((HIM.out.dat.take q).append (HYR.out.dat.drop k)) HG9.out (by rw [htl]; exact HR9.out) HZT.out.len (by rw [ens_take, HIM.out.es]) HIM.out.lo HROK.out HO8.out
                first | exact this | exact this.still (Still.refl _).drew
              · have hfe : Dk.Fr (g :: (Value.slice A xs.length cap).ownBlock.toList) w w9 := hf9.mono (fun j hj => absurd hj (List.not_mem_nil))
                have hfs := hfe.setCell ⟨g, 2, none⟩ (.inl (List.mem_cons_self ..)) (.slice VB (q + (ym - k)) vd)
                first | exact hfs | exact hfs.drew
              · intro j hj
                rcases HA9.out with h | h
                · exact .inr (hge j (h.symm.trans hj))
                · have h2 := h.symm.trans hj
                  cases h2
                  exact .inr hfw.size
end Go.Proofs.Ytimplhdliaggfaa.Rg
