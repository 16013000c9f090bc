/-
  Layer 8: RlogAsks. Conditions: the arguments can be read.
-/
import Derived.Test.YtafjgaapefhggaaRlgCpt
import Derived.Test.YtafjgaapefhggaaRlgQ
import Derived.Test.YtafjgaapefhggaaRlgPrs
namespace Go.Proofs.Ytafjgaapefhggaa.Rg
open Go.RowKit Go.Proofs.Ytafjgaapefhggaa.Fld
set_option linter.unusedVariables false

set_option maxRecDepth 100000 in
set_option maxHeartbeats 3200000 in
theorem asks_walk (A : Option Addr) (n cap : Nat) (l : List Stp) (PA : Option Addr) (pn pcap : Nat) (ps : List (Int × Int)) (w : World) (hr : RdSt w A n l) (hp : RdP w PA pn ps) (hlo : ∀ p ∈ ps, -9223372036854775808 ≤ p.1) : Calls Try.prog 5 #[.slice A n cap, .slice PA pn pcap] w fun e w' => e = .returned (.bool true) ∧ Below w.heap.size w w' := by
  have HZ := Lib.hid (fresh_ok w 0 0 w (Below.refl _ _) (by decide) (by decide))
  have HR := Lib.hid hr
  have HL := Lib.hid hr.1
  have hm := hr.2.1
  have HPS := Lib.hid hp
  have HPL := Lib.hid hp.1
  have hpm := hp.2.1
  have HLO := Lib.hid hlo
  unfold maxLen at hm hpm
  clear hr hp hlo
  go_enter Try.func5, Try.ntmps5
  go_wp2_with fail
  refine HZ.out.mono ?_
  rintro e w2 ⟨g, r, rfl, hp, hb2, _, _⟩
  have HP2 := Lib.hid hp
  have HB2 := Lib.hid hb2
  clear hp hb2
  go_wp2_with fail
  refine (much_any A n cap l w2 (HR.out.below HB2.out)).mono ?_
  rintro e w3 ⟨mb, rfl, rfl, hmu⟩
  cases mb with
  | true =>
    go_wp2
    go_ret
    exact ⟨rfl, HB2.out⟩
  | false =>
  have HMU := Lib.hid (hmu rfl)
  clear hmu
  go_wp2_with fail
  go_loopw [9] (fun iv wr => ∃ (i : Nat) (s : St) (v : Value) (xs : List EA) (rv : Value) (rs : List EA), i ≤ n ∧ i ≤ 100 ∧ iv = .int .i64 i ∧ Pr w wr g v s xs r rv s rs ∧ xs.length ≤ sumN (l.take i)) (fun iv _ => 100 - (intOf iv).toNat)
  case atStart => exact ⟨0, _, _, _, _, _, Nat.zero_le _, by omega, rfl, HP2.out, by simp⟩
  case round =>
    obtain ⟨i, s, v, xs, rv, rs, hin, hi1', rfl, hp, hxs⟩ := hrel
    have HPR := Lib.hid hp
    have HXS := Lib.hid hxs
    have HBR := Lib.hid hp.rm.old
    clear hp hxs
    by_cases hgo : i < n ∧ i < 100
    · obtain ⟨h1, h2⟩ := hgo
      have hil : i < l.length := by have := HL.out; omega
      obtain ⟨zb, off, rfl, hc⟩ := HR.out.at4 HBR.out i hil
      have q0 := hc 0 (.int .i64 l[i].d) (by omega) rfl
      have q1 := hc 1 (.int .i64 l[i].i) (by omega) rfl
      have q2 := hc 2 (.int .i64 l[i].t) (by omega) rfl
      have q3 := hc 3 (.slice l[i].A l[i].n l[i].c) (by omega) rfl
      obtain ⟨f1, f2, f3⟩ := few_at HMU.out i hil h2
      have HF1 := Lib.hid f1
      have hxl : xs.length ≤ 5000 := by have := HXS.out; omega
      have HXO := Lib.hid (HR.out.2.2.2 _ (List.getElem_mem hil))
      clear hc f1
      generalize l[i] = x at *
      have HDO := Lib.hid (do_any w g v s xs r rv rs x wr HPR.out HXO.out (by omega) (by omega))
      have HXL := Lib.hid HXO.out.rd.len
      unfold stpV at HDO
      have k0 : (0 : Int) ≤ (i : Int) := by omega
      have k1 : (i : Int) < (n : Int) := by omega
      have k2 : (i : Int) < 100 := by omega
      rw [Nat.add_zero] at q0
      go_wp2_with fail
      refine HDO.out.mono ?_
      rintro e w4 ⟨rfl, v', xs', rv', rs', hp4, hf4⟩
      have HP4 := Lib.hid hp4
      have HXS4 := Lib.hid (len_do HPR.out.im hp4.im HXL.out)
      clear hp4 hf4
      go_wp2
      go_roundw
      case rel => exact ⟨i + 1, stDo x s, v', xs', rv', rs', by omega, by omega, by go_num, HP4.out, by rw [HF1.out]; have := HXS4.out; have := HXS.out; omega⟩
      case measure => simp [intOf]; omega
    · have hex : ¬ i < n ∨ (i < n ∧ ¬ i < 100) := by omega
      have hxl : xs.length ≤ 5000 := by
        have h1 := HMU.out i (by have := HL.out; omega) hi1'
        have := HXS.out
        omega
      clear hgo
      obtain ⟨VA, vc, rfl, hLo, hvc, _, hvn, _⟩ := HPR.out.im.slice
      obtain ⟨RA, rc, rfl, hLr, hrc, _, hrn, _⟩ := HPR.out.rm.slice
      have HLOG := Lib.hid hLo
      have HREF := Lib.hid hLr
      have HOK := Lib.hid HPR.out.im.ok
      have hrl : rs.length ≤ 5000 := by have h1 := HPR.out.im.n; have h2 := HPR.out.rm.n; omega
      clear hLo hLr
      obtain ⟨wo, rfl⟩ : ∃ wo, wo = wr := ⟨_, rfl⟩
      rcases hex with h1 | ⟨h1, h2⟩
      all_goals
        go_wp2_with fail
        go_loopw [10, 11, 12, 13, 14, 15, 16, 17] (fun jv _ _ _ _ _ _ _ wr => ∃ j : Nat, j ≤ pn ∧ j ≤ 100 ∧ jv = .int .i64 j ∧ Below wo.heap.size wo wr) (fun jv _ _ _ _ _ _ _ _ => 100 - (intOf jv).toNat)
        case atStart => exact ⟨0, Nat.zero_le _, by omega, rfl, Below.refl _ _⟩
        case round =>
          obtain ⟨j, hjn, hj1, rfl, hbq⟩ := hrel
          have HBQ := Lib.hid hbq
          have HWQ := Lib.hid (HBR.out.trans (hbq.mono HBR.out.size))
          clear hbq
          by_cases h3 : j < pn
          rotate_left
          · go_wp2
            go_ret
            exact ⟨rfl, HWQ.out⟩
          by_cases h4 : j < 100
          rotate_left
          · go_wp2
            go_ret
            exact ⟨rfl, HWQ.out⟩
          obtain ⟨pb, poff, rfl, hpc⟩ := (HPS.out.below HWQ.out).2.2.1 (by omega)
          obtain ⟨p0, p1⟩ := hpc j h3
          have HPM := Lib.hid (HLO.out (ps.getD j (0, 0)) (by rw [List.getD_eq_getElem?_getD, List.getElem?_eq_getElem (by rw [HPL.out]; exact h3)]; exact List.getElem_mem _))
          clear hpc
          generalize ps.getD j (0, 0) = p at *
          obtain ⟨a, b⟩ := p
          simp only at p0 p1 HPM
          have j0 : (0 : Int) ≤ (j : Int) := by omega
          have j1 : (j : Int) < (pn : Int) := by omega
          have j2 : (j : Int) < 100 := by omega
          obtain ⟨X, hX⟩ : ∃ X, wr.heap.size = X := ⟨_, rfl⟩
          obtain ⟨w4, hw4⟩ : ∃ w4, wr.alloc (.cells #[.int .i64 a, .int .i64 b] 28) = w4 := ⟨_, rfl⟩
          have KB := Lib.hid (show Blk w4 X #[.int .i64 a, .int .i64 b] 28 by rw [← hw4, ← hX]; exact Blk.new wr _ _)
          have HB4 := Lib.hid (show Below wo.heap.size wo w4 by rw [← hw4]; exact HBQ.out.alloc HBQ.out.size _)
          have HW4 := Lib.hid hw4
          have HXX := Lib.hid hX
          clear hw4 hX
          have c0 := KB.out.cell 0 _ rfl
          have c1 := KB.out.cell 1 _ rfl
          go_wp2_with fail
          rw [HW4.out, HXX.out]
          have HLa := Lib.hid (HLOG.out.below HB4.out)
          have HRa := Lib.hid (HREF.out.below HB4.out)
          refine (HLa.out.term_dr a).mono ?_
          rintro e w5 ⟨rfl, hw5⟩
          have HS5 := Lib.hid (show Still w4 w5 by obtain ⟨z, rfl⟩ := hw5; exact still_drewN _ _)
          clear hw5 c0 c1
          have d0 := (KB.out.still HS5.out).cell 0 _ rfl
          go_wp2_with fail
          refine ((HRa.out.still HS5.out).term_dr a).mono ?_
          rintro e w6 ⟨rfl, hw6⟩
          have HS6 := Lib.hid (HS5.out.trans (show Still w5 w6 by obtain ⟨z, rfl⟩ := hw6; exact still_drewN _ _))
          clear hw6 d0
          have e0 := (KB.out.still HS6.out).cell 0 _ rfl
          have e1 := (KB.out.still HS6.out).cell 1 _ rfl
          generalize termV s a = tv at *
          generalize termB s a = tb at *
          have HGE := Lib.hid ((HLa.out.still HS6.out).get_any hvc (by omega) (data_le HOK.out HPR.out.im.es) a b)
          go_wp2_with fail
          refine HGE.out.mono ?_
          rintro e w7 ⟨v7, ys, rfl, hye, hyr, hyd, hyb⟩
          obtain ⟨YA, yc, rfl, _⟩ := row_slice hyr
          have HYE := Lib.hid hye
          have HYR := Lib.hid (row_rdE hyr hyd.dat)
          have HB7 := Lib.hid ((HB4.out.trans (below_still HS6.out HB4.out.size)).trans (hyb.mono (HB4.out.trans (below_still HS6.out HB4.out.size)).size))
          have KB7 := Lib.hid ((KB.out.still HS6.out).below hyb)
          clear hye hyr hyd hyb e0 e1
          have f0 := KB7.out.cell 0 _ rfl
          have f1 := KB7.out.cell 1 _ rfl
          have HRG := Lib.hid (Lr.get_any (HREF.out.below HB7.out) HPR.out.rm.dat (HBR.out.trans (HB7.out.mono HBR.out.size)) (by omega) a b HPM.out)
          go_wp2_with fail
          refine HRG.out.mono ?_
          rintro e w8 ⟨v8, us, rfl, hue, hur, hud, hub⟩
          obtain ⟨UA, uc, rfl, _⟩ := row_slice hur
          have HW8 := Lib.hid (HB7.out.trans (hub.mono HB7.out.size))
          have HSA := Lib.hid (same_yes YA ys.length yc ys UA us.length uc us w8 (HYR.out.below hub) (row_rdE hur (hud.below (HBR.out.trans (HW8.out.mono HBR.out.size)))) (by rw [hue, HYE.out]))
          have KB8 := Lib.hid (KB7.out.below hub)
          clear hue hur hud hub f0 f1
          go_wp2_with fail
          refine HSA.out.mono ?_
          rintro e w9 ⟨rfl, hs9⟩
          have HB9 := Lib.hid (HW8.out.trans (below_still hs9 HW8.out.size))
          have KB9 := Lib.hid (KB8.out.still hs9)
          clear hs9
          have g0 := KB9.out.cell 0 (.int .i64 a) rfl
          have g1 := KB9.out.cell 1 (.int .i64 b) rfl
          go_wp2_with fail
          go_region_held3 (fun w' => w'.cell? ⟨X, 0, none⟩ = some (.int .i64 a) ∧ w'.cell? ⟨X, 1, none⟩ = some (.int .i64 b)) (first | exact ⟨by assumption, by assumption⟩ | go_keep) ((first
            | (go_at_call 19; refine (back_any g s VA xs.length vc xs a b _ ((HLOG.out.below HB9.out).still (Still.refl _).drew) HOK.out HPM.out).mono ?_; rintro e z1 ⟨u, rfl, hu, hz1⟩; have HU := Lib.hid hu; have HZ1 := Lib.hid (HB9.out.drew.trans (hz1.mono HB9.out.size)); have KZ1 := Lib.hid (Blk.below (KB9.out.still (Still.refl _).drew) hz1); have y0 := KZ1.out.cell 0 (.int .i64 a) rfl; have y1 := KZ1.out.cell 1 (.int .i64 b) rfl; clear hu hz1)
            | (go_at_call 20; refine (Lr.back_any (HREF.out.below HZ1.out) HOK.out a b HPM.out).mono ?_; rintro e z2 ⟨u2, rfl, hu2, hz2⟩; have huu := BackU.one hu2 HU.out; subst huu; have HZ2 := Lib.hid (HZ1.out.trans (below_still hz2 HZ1.out.size)); have KZ2 := Lib.hid (KZ1.out.still hz2); have y2 := KZ2.out.cell 0 (.int .i64 a) rfl; have y3 := KZ2.out.cell 1 (.int .i64 b) rfl; clear hu2 hz2)
            | (go_at_call 21; refine ((HLOG.out.below HZ2.out).newer_dr a b).mono ?_; rintro e z3 ⟨rfl, hz3⟩; have HS3 := Lib.hid (show Still z2 z3 by obtain ⟨q, rfl⟩ := hz3; exact still_drewN _ _); have HZ3 := Lib.hid (HZ2.out.trans (below_still HS3.out HZ2.out.size)); have KZ3 := Lib.hid (KZ2.out.still HS3.out); have y4 := KZ3.out.cell 0 (.int .i64 a) rfl; have y5 := KZ3.out.cell 1 (.int .i64 b) rfl; clear hz3)
            | (go_at_call 22; refine ((HREF.out.below HZ3.out).newer_dr a b).mono ?_; rintro e z4 ⟨rfl, hz4⟩; have HS4 := Lib.hid (show Still z3 z4 by obtain ⟨q, rfl⟩ := hz4; exact still_drewN _ _); have HZ4 := Lib.hid (HZ3.out.trans (below_still HS4.out HZ3.out.size)); have KZ4 := Lib.hid (KZ3.out.still HS4.out); have y6 := KZ4.out.cell 0 (.int .i64 a) rfl; have y7 := KZ4.out.cell 1 (.int .i64 b) rfl; clear hz4)))
          go_wp2
          go_roundw
          case rel => exact ⟨j + 1, by omega, by omega, by go_num, by first | exact HZ4.out | exact HZ4.out.drew⟩
          case measure => simp [intOf]; omega
end Go.Proofs.Ytafjgaapefhggaa.Rg
