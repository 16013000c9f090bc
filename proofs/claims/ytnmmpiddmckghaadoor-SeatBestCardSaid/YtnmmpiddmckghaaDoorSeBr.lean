/-
  Layer 13: Best of the document's own. Conditions: the groups and the taken seats can be read.
-/
import Derived.Test.YtnmmpiddmckghaaDoorSeBp
import Derived.Test.YtnmmpiddmckghaaDoorSeD
import Derived.Test.YtnmmpiddmckghaaDoorSeB
import Derived.Test.YtnmmpiddmckghaaDoorQuR
namespace Go.Proofs.YtnmmpiddmckghaaDoor.Se
open Go.RowKit Go.Proofs.YtnmmpiddmckghaaDoor.Qu Go.Proofs.YtnmmpiddmckghaaDoor.Fld
set_option linter.unusedVariables false

set_option maxRecDepth 100000 in
set_option maxHeartbeats 6400000 in
theorem rbest_any (r : Int) (A : Option Addr) (n c : Nat) (gs : List Int) (T : Option Addr) (tn tc : Nat) (tk : List Int) (m : Int) (w : World) (hr : RdI w A n gs) (ht : RdI w T tn tk) :
    Calls Tryd.prog 23 #[layV r A n c, .slice T tn tc, .int .i64 m] w (BstIs w (bstL r gs tk m) (bstE r gs tk m)) := by
  have hb := alloc_below w (layO r A n c)
  have hr' := RdI.below hr hb
  have HK := layO_blk w r A n c
  unfold layO at *
  obtain ⟨W, hW⟩ : ∃ W, w.alloc (.cells #[.int .i64 r, .slice A n c] 24) = W := ⟨_, rfl⟩
  rw [hW] at hb hr' HK
  have HW := Lib.hid hW
  have HB := Lib.hid hb
  have HRD := Lib.hid (fun (w2 : World) (h2 : Below W.heap.size W w2) => hr'.below h2)
  have HX := Lib.hid (fun (w2 : World) (h2 : Below W.heap.size W w2) => (⟨(HK.below h2).cell 0 _ rfl, (HK.below h2).cell 1 _ rfl⟩ : w2.cell? ⟨w.heap.size, 0, none⟩ = some (.int .i64 r) ∧ w2.cell? ⟨w.heap.size, 1, none⟩ = some (.slice A n c)))
  have HBW := Lib.hid (Below.refl W.heap.size W)
  have ht' := ht.below hb
  have HTD := Lib.hid (fun (w2 : World) (h2 : Below W.heap.size W w2) => ht'.below h2)
  have HC1 := Lib.hid (fun (w2 : World) (h2 : RdI w2 A n gs) => rcount_any r A n c gs w2 h2)
  have hgl := hr.1
  have hcb := cnt_bd r gs
  have hfl := fr_len tk (cntS r gs).toNat
  have HFS := Lib.hid (fun k => fr_succ tk k)
  have HFL := Lib.hid (fun k => fr_len tk k)
  have HFE := Lib.hid (fr_el (r := r) (gs := gs) (tk := tk))
  have HUP := Lib.hid (fun i j => up_le (fr_up tk (cntS r gs).toNat) (i := i) (j := j))
  have HE := Lib.hid (show bstE r gs tk m = if m < 1 ∨ cntS r gs < m then 1 else if ((frN tk (cntS r gs).toNat).length : Int) < m then 3 else 0 from rfl)
  have HL := Lib.hid (show bstL r gs tk m = if bstE r gs tk m = 0 then bestL gs (frN tk (cntS r gs).toNat) m.toNat else [] from rfl)
  have HLY := Lib.hid (show 0 < cntS r gs → layOk r gs = true by
    intro h
    exact (lay_cnt (n := 0) (Int.le_refl _) h).1)
  generalize bstE r gs tk m = E at *
  generalize bstL r gs tk m = L at *
  obtain ⟨K, hKK⟩ : ∃ K : Nat, cntS r gs = K := ⟨(cntS r gs).toNat, by omega⟩
  rw [hKK, Int.toNat_natCast] at hfl HFE HUP HL
  rw [hKK, Int.toNat_natCast] at HE
  rw [hKK] at HC1 hcb HLY
  clear hKK
  have HHA := Lib.hid (fun (x : Int) (w2 : World) (h2 : RdI w2 T tn tk) => Qu.has_any T tn tc tk x w2 h2)
  unfold layV at *
  clear hr hr' HK hb hW ht ht'
  obtain ⟨c0, c1⟩ := HX.out _ (Below.refl _ _)
  by_cases h1 : m < 1
  · have HE1 := Lib.hid (show E = 1 ∧ L = [] by
      have h : E = 1 := by rw [HE.out, if_pos (.inl h1)]
      exact ⟨h, by rw [HL.out, h]; rfl⟩)
    go_enter Tryd.func23, Tryd.ntmps23
    go_wp2_with (first | rw [HW.out] | fail)
    go_ret2
    exact BstIs.none HB.out HE1.out.2 (by rw [HE1.out.1]; rfl)
  by_cases h2 : (K : Int) < m
  · have HE1 := Lib.hid (show E = 1 ∧ L = [] by
      have h : E = 1 := by rw [HE.out, if_pos (.inr h2)]
      exact ⟨h, by rw [HL.out, h]; rfl⟩)
    go_enter Tryd.func23, Tryd.ntmps23
    go_wp2_with (first | rw [HW.out] | fail)
    refine (HC1.out _ (HRD.out _ HBW.out)).mono ?_
    rintro e w2 ⟨rfl, hb2⟩
    have HBW := Lib.hid (HBW.out.trans (hb2.mono HBW.out.size))
    clear hb2 c0 c1
    obtain ⟨c0, c1⟩ := HX.out _ HBW.out
    go_wp2
    go_ret2
    exact BstIs.none (HB.out.trans (HBW.out.mono HB.out.size)) HE1.out.2 (by rw [HE1.out.1]; rfl)
  obtain ⟨M, rfl⟩ : ∃ M : Nat, m = M := ⟨m.toNat, by omega⟩
  obtain ⟨k1, k2, k3, k4, k5, k6, k7⟩ := lay_of (HLY.out (by omega))
  have hmm : ((M : Nat) : Int).toNat = M := Int.toNat_natCast M
  have HG := Lib.hid (fun (x : Int) (h0 : 0 ≤ x) (h1 : x ≤ 1000) (w2 : World) (h2 : RdI w2 A n gs) => rgroup_any r A n c gs x w2 h2 k5 (by omega) k7 h0 h1)
  have HSAME := Lib.hid (fun (x y : Int) (h0 : 0 ≤ x) (h1 : x ≤ y) => (grp_same k5 k7 (n := x) (m := y) h0 h1).1)
  unfold layV at *
  have h2n : ¬ K < M := by omega
  have h2d : decide (K < M) = false := by simp; omega
  clear k5 HLY h2
  go_enter Tryd.func23, Tryd.ntmps23
  go_wp2_with (first | rw [HW.out] | fail)
  refine (HC1.out _ (HRD.out _ HBW.out)).mono ?_
  rintro e w2 ⟨rfl, hb2⟩
  have HBW := Lib.hid (HBW.out.trans (hb2.mono HBW.out.size))
  clear hb2 c0 c1
  obtain ⟨c0, c1⟩ := HX.out _ HBW.out
  have HOn := Lib.hid (OwnI.nil w2 w2 (Below.refl _ _))
  have HB2 := Lib.hid HBW.out
  clear c0 c1
  go_wp2
  go_loopw [8, 9] (fun v i wr => ∃ k : Nat, k ≤ K ∧ i = .int .i64 k ∧ OwnI w2 wr v (frN tk k)) (fun _ i _ => K - (intOf i).toNat)
  case atStart => exact ⟨0, by omega, rfl, HOn.out⟩
  case round =>
    obtain ⟨k, hk, rfl, ho⟩ := hrel
    have HBW := Lib.hid (HB2.out.trans (ho.1.mono HB2.out.size))
    have HO := Lib.hid ho
    obtain ⟨c0, c1⟩ := HX.out _ HBW.out
    have hl9 := HFL.out k
    clear ho
    go_wp2_with fail
    refine (HC1.out _ (HRD.out _ HBW.out)).mono ?_
    rintro e w3 ⟨rfl, hb3⟩
    have HBW := Lib.hid (HBW.out.trans (hb3.mono HBW.out.size))
    have HO := Lib.hid (HO.out.below hb3)
    clear hb3 c0 c1
    by_cases hlt : k < K
    · have HS := Lib.hid (HFS.out k)
      go_wp2_with fail
      refine (HHA.out _ _ (HTD.out _ HBW.out)).mono ?_
      rintro e w4 ⟨rfl, rfl⟩
      cases hh : hasI tk (k : Int) with
      | true =>
        rw [hh] at HS
        have HS2 := Lib.hid (show frN tk (k + 1) = frN tk k by rw [HS.out, if_pos rfl, List.append_nil])
        go_wp2
        go_roundw
        case rel => exact ⟨k + 1, by omega, by go_num, by rw [HS2.out]; exact HO.out⟩
        case measure => simp [intOf]; omega
      | false =>
        rw [hh] at HS
        have HS2 := Lib.hid (show frN tk (k + 1) = frN tk k ++ [(k : Int)] by rw [HS.out]; simp)
        go_wp2_with (at_builtin; refine wpList_append_ints rfl _ _ rfl w2 _ (frN tk k) rfl (HO.out.below (alloc_below _ _)) _ 1 1 [(k : Int)] rfl (fun h => by cases h) (rdI_one _ (k : Int)) (by omega) ?_; intro v4 w4 hO4 _; have HO4 := Lib.hid hO4; clear hO4)
        go_roundw
        case rel => exact ⟨k + 1, by omega, by go_num, by rw [HS2.out]; exact HO4.out⟩
        case measure => simp [intOf]; omega
    · obtain rfl : k = K := by omega
      have ho := HO.out
      clear HFS HFL HHA HTD HO HOn
      generalize frN tk k = fr at *
      obtain ⟨U, uc, rfl, hr3, hU, huc, hum, -⟩ := ho.form (by omega)
      clear ho
      have HB3 := Lib.hid (HB.out.trans (HBW.out.mono HB.out.size))
      by_cases h3 : (fr.length : Int) < (M : Int)
      · have HE1 := Lib.hid (show E = 3 ∧ L = [] by
          have h : E = 3 := by rw [HE.out, if_neg (by omega), if_pos h3]
          exact ⟨h, by rw [HL.out, h]; rfl⟩)
        clear hr3
        go_wp2
        go_ret2
        exact BstIs.none HB3.out HE1.out.2 (by rw [HE1.out.1]; rfl)
      have HE1 := Lib.hid (show E = 0 ∧ L = bestL gs fr M by
        have h : E = 0 := by rw [HE.out, if_neg (by omega), if_neg h3]
        exact ⟨h, by rw [HL.out, h, hmm]; rfl⟩)
      have hbl := best_len (gs := gs) (fr := fr) (m := M) (by omega)
      have HBL := Lib.hid (show bestL gs fr M = (fr.drop (togI gs fr M)).take M from rfl)
      have HFO := Lib.hid (fun q => togI_found (gs := gs) (fr := fr) (m := M) (k := q))
      have HNO := Lib.hid (togI_none (gs := gs) (fr := fr) (m := M))
      have HSO := Lib.hid (fun q => tog_succ_no (gs := gs) (fr := fr) (m := M) (k := q))
      have HOK := Lib.hid (show ∀ q, okAt gs fr M q = (decide (fr.getD (q + M - 1) 0 = fr.getD q 0 + M - 1) && decide (fr.getD (q + M - 1) 0 < bhd gs (fr.getD q 0))) from fun q => rfl)
      obtain ⟨b, off, rfl, hcell⟩ := hr3.2.2 (by omega)
      have HR3 := Lib.hid hr3
      clear hmm hr3
      have h3n : ¬ fr.length < M := by omega
      have h3d : decide (fr.length < M) = false := by simp; omega
      obtain ⟨wo, rfl⟩ : ∃ wo, wo = w3 := ⟨_, rfl⟩
      go_wp2
      go_loopw [11] (fun i wr => ∃ q : Nat, q ≤ fr.length - M + 1 ∧ i = .int .i64 q ∧ Below wo.heap.size wo wr ∧ tog gs fr M q = none) (fun i _ => (fr.length - M + 1) - (intOf i).toNat)
      case atStart => exact ⟨0, by omega, rfl, Below.refl _ _, rfl⟩
      case round =>
        obtain ⟨q, hq, rfl, hbw, hno⟩ := hrel
        have HN := Lib.hid hno
        have HBO := Lib.hid hbw
        have HBW := Lib.hid (HBW.out.trans (hbw.mono HBW.out.size))
        obtain ⟨c0, c1⟩ := HX.out _ HBW.out
        clear hno
        by_cases hlt2 : q < fr.length - M + 1
        · have hc1 := (hbw.cell (p := ⟨b, off + q, none⟩) (lt_of_cell (hcell q (by omega)))).trans (hcell q (by omega))
          have hc2 := (hbw.cell (p := ⟨b, off + (q + M - 1), none⟩) (lt_of_cell (hcell (q + M - 1) (by omega)))).trans (hcell (q + M - 1) (by omega))
          have HCK := Lib.hid (fun (w4 : World) (h4 : Below wr.heap.size wr w4) => (h4.cell (p := ⟨b, off + q, none⟩) (lt_of_cell hc1)).trans hc1)
          have HBR := Lib.hid (Below.refl wr.heap.size wr)
          have e1 := HFE.out q (by omega)
          have e2 := HFE.out (q + M - 1) (by omega)
          have e3 := HUP.out q (q + M - 1) (by omega) (by omega)
          have HO := Lib.hid (HOK.out q)
          have HF1 := Lib.hid (HFO.out q HN.out)
          have HS1 := Lib.hid (HSO.out q HN.out)
          have g1 : (q : Int) + (M : Int) ≤ (fr.length : Int) := by omega
          have g2 : IntKind.i64.wrap ((q : Int) + (M : Int) - 1) = ((q + M - 1 : Nat) : Int) := (IntWalk.i64_in _ (by omega)).trans (by omega)
          have g3 : (q : Int) + (M : Int) - 1 = ((q + M - 1 : Nat) : Int) := by omega
          have g4 : (0 : Int) ≤ (q : Int) := by omega
          have g5 : (q : Int) < (fr.length : Int) := by omega
          have g6 : (0 : Int) ≤ ((q + M - 1 : Nat) : Int) := by omega
          have g7 : ((q + M - 1 : Nat) : Int) < (fr.length : Int) := by omega
          have HSG := Lib.hid (fun h => HSAME.out (fr.getD q 0) (fr.getD (q + M - 1) 0) e1.1 h)
          have HG1 := Lib.hid (HG.out (fr.getD q 0) e1.1 (by omega))
          have HG2 := Lib.hid (HG.out (fr.getD (q + M - 1) 0) e2.1 (by omega))
          have HRU := Lib.hid (run_part b off fr.length uc q (q + M) (by omega) (by omega) wr)
          have HRR := HR3.out
          clear hbw
          generalize fr.getD q 0 = f at *
          generalize fr.getD (q + M - 1) 0 = l at *
          generalize hp : q + M - 1 = p at *
          have HPP := Lib.hid hp
          generalize bhd gs f = B1 at *
          generalize grp gs f = y1 at *
          generalize grp gs l = y2 at *
          clear hp HRR
          have w1 : IntKind.i64.wrap (l - f) = l - f := IntWalk.i64_in _ (by omega)
          have w2 : IntKind.i64.wrap ((M : Int) - 1) = (M : Int) - 1 := IntWalk.i64_in _ (by omega)
          by_cases hA : l - f = (M : Int) - 1
          · have hA' : (l - f == (M : Int) - 1) = true := by simpa using hA
            have HSG2 := Lib.hid (HSG.out (by omega))
            have HA2 := Lib.hid (show l = f + (M : Int) - 1 by omega)
            obtain ⟨a, hrun, ha⟩ := HRU.out
            have hrun2 : ∀ U : World, (Instr.slice 22 (.slice (some ⟨b, off, none⟩) fr.length uc) (some (.int .i64 (q : Int))) (some (.int .i64 ((q : Int) + (M : Int)))) none).run Tryd.prog U = .ok (.slice (some a) (q + M - q) (uc - q)) U := fun U => by
              rw [show (q : Int) + (M : Int) = ((q + M : Nat) : Int) by omega]
              exact hrun U
            have HAA := Lib.hid (ha (by omega))
            clear hrun ha hA HRU
            go_wp2_with fail
            clear hc2
            go_region_held3 (fun w' => w'.cell? ⟨w.heap.size, 0, none⟩ = some (.int .i64 r) ∧ w'.cell? ⟨w.heap.size, 1, none⟩ = some (.slice A n c) ∧ w'.cell? ⟨b, off + q, none⟩ = some (.int .i64 f)) (first | exact ⟨by assumption, by assumption, by assumption⟩ | go_keep) (first | (have hh := CA; go_at_call 27; refine (HG2.out _ (HRD.out _ (by first | exact HBW.out | exact HBW.out.drew))).mono ?_; rintro e w2 ⟨rfl, hb2⟩; have HBW := Lib.hid ((show Below W.heap.size W _ from by first | exact HBW.out | exact HBW.out.drew).trans (hb2.mono (by exact HBW.out.size))); have HBR := Lib.hid ((show Below wr.heap.size wr _ from by first | exact HBR.out | exact HBR.out.drew).trans (hb2.mono (by exact HBR.out.size))); clear c0 c1 hc1 hb2; obtain ⟨c0, c1⟩ := HX.out _ HBW.out; have hc1 := HCK.out _ HBR.out; have CB := trivial) | (go_at_call 27; refine (HG1.out _ (HRD.out _ (by first | exact HBW.out | exact HBW.out.drew))).mono ?_; rintro e w2 ⟨rfl, hb2⟩; have HBW := Lib.hid ((show Below W.heap.size W _ from by first | exact HBW.out | exact HBW.out.drew).trans (hb2.mono (by exact HBW.out.size))); have HBR := Lib.hid ((show Below wr.heap.size wr _ from by first | exact HBR.out | exact HBR.out.drew).trans (hb2.mono (by exact HBR.out.size))); clear c0 c1 hc1 hb2; obtain ⟨c0, c1⟩ := HX.out _ HBW.out; have hc1 := HCK.out _ HBR.out; have CA := trivial))
            all_goals
              have HB5 := Lib.hid (show Below wo.heap.size wo _ from HBO.out.trans (HBR.out.mono HBO.out.size))
              cases hy : (y1 == y2) with
              | true =>
                have hl5 : l < B1 := HSG2.out.1 (by simpa using (beq_iff_eq.1 hy).symm)
                have HT0 := Lib.hid (HF1.out (by rw [HO.out, decide_eq_true HA2.out, decide_eq_true hl5]; rfl) hlt2)
                have HR6 := Lib.hid (rdI_cut (rdI_tail (HR3.out.below HB5.out) b off uc q (by omega) huc rfl) M (by omega))
                go_wp2
                go_ret2
                refine ⟨some a, uc - q, ?_, ?_, HB.out.trans (HBW.out.mono HB.out.size)⟩
                · rw [HE1.out.1, HE1.out.2, hbl]; rfl
                · rw [HE1.out.2, hbl, HBL.out, HT0.out, HAA.out]
                  have := HR6.out
                  unfold past at this
                  rw [if_neg (by omega)] at this
                  exact this
              | false =>
                have hl5 : ¬ l < B1 := fun h => by
                  have := HSG2.out.2 h
                  rw [this] at hy
                  simp at hy
                have HN2 := Lib.hid (HS1.out (by rw [HO.out, decide_eq_false hl5, Bool.and_false]))
                go_wp2
                go_roundw
                case rel => exact ⟨q + 1, by omega, by go_num, HB5.out, HN2.out⟩
                case measure => simp [intOf]; omega
          · have hA' : (l - f == (M : Int) - 1) = false := by simpa using hA
            have HN2 := Lib.hid (HS1.out (by rw [HO.out, decide_eq_false (show ¬ l = f + (M : Int) - 1 by omega), Bool.false_and]))
            clear hA
            go_wp2_with fail
            go_quiet (fail)
            have HB5 := Lib.hid (show Below wo.heap.size wo (wr.drewN nq) from HBO.out.trans ((below_dr wr nq).mono HBO.out.size))
            generalize wr.drewN nq = w5 at *
            clear c0 c1 hc1 hc2
            go_wp2
            go_roundw
            case rel => exact ⟨q + 1, by omega, by go_num, HB5.out, HN2.out⟩
            case measure => simp [intOf]; omega
        · obtain rfl : q = fr.length - M + 1 := by omega
          have HT0 := Lib.hid (HNO.out HN.out)
          have hnl : ¬ ((fr.length - M + 1 : Nat) : Int) + (M : Int) ≤ (fr.length : Int) := by omega
          have HR5 := Lib.hid (rdI_cut (HR3.out.below hbw) M (by omega))
          have hrun2 := fun W => run_upto (some ⟨b, off, none⟩) fr.length uc M (fun h => by cases h) (by omega) W
          have HB4 := Lib.hid (HB.out.trans (HBW.out.mono HB.out.size))
          clear hbw
          go_wp2
          go_ret2
          refine ⟨some ⟨b, off, none⟩, uc, ?_, ?_, HB4.out⟩
          · rw [HE1.out.1, HE1.out.2, hbl]; rfl
          · rw [HE1.out.2, hbl, HBL.out, HT0.out, List.drop_zero]; exact HR5.out
end Go.Proofs.YtnmmpiddmckghaaDoor.Se
