/-
  Layer 8: RlogKept. Conditions: the argument can be read.
-/
import Derived.Test.YtimplhdliaggfaaRlgCpt
import Derived.Test.YtimplhdliaggfaaRlgKmt
import Derived.Test.YtimplhdliaggfaaRlgSno
import Derived.Test.YtimplhdliaggfaaRlgP
import Derived.BigQuiet
namespace Go.Proofs.Ytimplhdliaggfaa.Rg
open Go.RowKit Go.Proofs.Ytimplhdliaggfaa.Fld
set_option linter.unusedVariables false

theorem run_one (b off n cap k : Nat) (hk : k < n) (hn : n ≤ cap) (hc : cap ≤ 9223372036854775807) (W : World) : (Instr.slice 29 (.slice (some ⟨b, off, none⟩) n cap) (some (.int .i64 (k : Int))) (some (.int .i64 ((k : Int) + 1))) none).run Try.prog W = .ok (.slice (some ⟨b, off + k * 4, none⟩) 1 (cap - k)) W := by
  have h0 : ¬ cap = k := by omega
  have h1 : (0 : Int) ≤ (k : Int) := by omega
  have h2 : (k : Int) ≤ (k : Int) + 1 := by omega
  have h3 : (k : Int) + 1 ≤ (cap : Int) := by omega
  go_simp
theorem RdE.one {w : World} {b off n cap : Nat} {xs : List EA} (h : RdE w (some ⟨b, off, none⟩) n xs) (k : Nat) (hk : k < n) : RdE w (some ⟨b, off + k * 4, none⟩) 1 [xs.getD k ea0] := by
  have h1 := h.tail k (by omega) (n + 1) (by omega)
  rw [if_neg (by omega)] at h1
  have h2 := h1.cutP 1 (by omega)
  have hl : k < xs.length := by have := h.len; omega
  have e : (xs.drop k).take 1 = [xs.getD k ea0] := by
    rw [List.drop_eq_getElem_cons hl, List.getD_eq_getElem?_getD, List.getElem?_eq_getElem hl]
    rfl
  rwa [e] at h2
set_option maxRecDepth 100000 in
set_option maxHeartbeats 6400000 in
theorem kept_walk (A : Option Addr) (n cap : Nat) (l : List Stp) (w : World) (hr : RdSt w A n l) : Calls Try.prog 3 #[.slice A n cap] w fun e w' => e = .returned (.bool true) ∧ Below w.heap.size w w' := by
  have HZ := Lib.hid (fresh_ok w 0 0 w (Below.refl _ _) (by decide) (by decide))
  have HR := Lib.hid hr
  have HL := Lib.hid hr.1
  have hm := hr.2.1
  unfold maxLen at hm
  clear hr
  go_enter Try.func3, Try.ntmps3
  go_wp2_with fail
  refine HZ.out.mono ?_
  rintro e w2 ⟨g, r, rfl, hp, hb2, _, _⟩
  have HP2 := Lib.hid hp
  have HB2 := Lib.hid hb2
  clear hp hb2
  go_wp2_with fail
  refine (much_any A n cap l w2 (HR.out.below HB2.out)).mono ?_
  rintro e w3 ⟨mb, rfl, rfl, hmu⟩
  cases mb with
  | true =>
    go_wp2
    go_ret
    exact ⟨rfl, HB2.out⟩
  | false =>
  have HMU := Lib.hid (hmu rfl)
  clear hmu
  go_wp2_with fail
  go_loopw [7] (fun iv wr => ∃ (i : Nat) (s : St) (v : Value) (xs : List EA) (rv : Value) (rs : List EA), i ≤ n ∧ i ≤ 100 ∧ iv = .int .i64 i ∧ Pr w wr g v s xs r rv s rs ∧ xs.length ≤ sumN (l.take i)) (fun iv _ => 100 - (intOf iv).toNat)
  case atStart => exact ⟨0, _, _, _, _, _, Nat.zero_le _, by omega, rfl, HP2.out, by simp⟩
  case round =>
    obtain ⟨i, s, v, xs, rv, rs, hin, hi1', rfl, hp, hxs⟩ := hrel
    have HPR := Lib.hid hp
    have HXS := Lib.hid hxs
    have HBR := Lib.hid hp.rm.old
    clear hp hxs
    obtain ⟨wa, hwa⟩ : ∃ wa, wa = wr := ⟨_, rfl⟩
    subst hwa
    have HMM := Lib.hid (sumN_mono l i 100)
    by_cases hgo : i < n ∧ i < 100
    · obtain ⟨h1, h2⟩ := hgo
      have hil : i < l.length := by have := HL.out; omega
      obtain ⟨f1, f2, f3⟩ := few_at HMU.out i hil h2
      have HF1 := Lib.hid f1
      have hxl : xs.length ≤ 5000 := by have := HXS.out; omega
      have HXO := Lib.hid (HR.out.2.2.2 _ (List.getElem_mem hil))
      have hxn : l[i].n ≤ 5000 := f3
      clear f1 f3
      obtain ⟨zb, off, rfl, hc⟩ := HR.out.at4 (Below.refl _ _) i hil
      have HCE := Lib.hid (fun W (hW : Below w.heap.size w W) => show W.cell? ⟨zb, off + i * 4 + 0, none⟩ = some (.int .i64 l[i].d) ∧ W.cell? ⟨zb, off + i * 4 + 1, none⟩ = some (.int .i64 l[i].i) ∧ W.cell? ⟨zb, off + i * 4 + 2, none⟩ = some (.int .i64 l[i].t) ∧ W.cell? ⟨zb, off + i * 4 + 3, none⟩ = some (.slice l[i].A l[i].n l[i].c) from by
        have q0 := hc 0 (.int .i64 l[i].d) (by omega) rfl
        have q1 := hc 1 (.int .i64 l[i].i) (by omega) rfl
        have q2 := hc 2 (.int .i64 l[i].t) (by omega) rfl
        have q3 := hc 3 (.slice l[i].A l[i].n l[i].c) (by omega) rfl
        exact ⟨(hW.cell (lt_of_cell q0)).trans q0, (hW.cell (lt_of_cell q1)).trans q1, (hW.cell (lt_of_cell q2)).trans q2, (hW.cell (lt_of_cell q3)).trans q3⟩)
      clear hc
      generalize l[i] = x at *
      obtain ⟨VA, vc, rfl, hLo, hvc, _, hvn, _⟩ := HPR.out.im.slice
      have HLO := Lib.hid hLo
      have HOK := Lib.hid HPR.out.im.ok
      have hb0 := HPR.out.im.ok.b0
      have hbl := HPR.out.im.ok.bl
      have hac := HPR.out.im.ok.ac
      have hba := HPR.out.im.ok.ba
      have hcl := HPR.out.im.ok.cl
      have HN := Lib.hid HPR.out.im.n
      have hsb : s.base ≤ 1099511627776 := by unfold St.last at hbl; omega
      have z1 : IntKind.i64.wrap (s.com - (s.base + 1)) = s.com - (s.base + 1) := IntWalk.i64_in _ (by omega)
      have z2 : IntKind.i64.wrap (s.com - (s.base + 1) + 1) = s.com - s.base := (IntWalk.i64_in _ (by omega)).trans (by omega)
      have HCM := Lib.hid (committed_any g s.base s.bt s.com s.app (.slice VA xs.length vc) wa hLo.lb)
      have HFI := Lib.hid (first_any g s.base s.bt s.com s.app (.slice VA xs.length vc) wa hLo.lb hb0 hsb)
      have HGE := Lib.hid (hLo.get_any hvc (by omega) (data_le HOK.out HPR.out.im.es) (s.base + 1) (s.com - s.base))
      rw [getE_com HOK.out] at HGE
      clear hLo
      have k0 : (0 : Int) ≤ (i : Int) := by omega
      have k1 : (i : Int) < (n : Int) := by omega
      have k2 : (i : Int) < 100 := by omega
      go_wp2_with fail
      refine HCM.out.mono ?_
      rintro e w4 ⟨rfl, rfl⟩
      go_wp2_with fail
      refine HFI.out.mono ?_
      rintro e w4 ⟨rfl, rfl⟩
      go_wp2_with fail
      refine HFI.out.mono ?_
      rintro e w4 ⟨rfl, rfl⟩
      go_wp2_with fail
      refine HGE.out.mono ?_
      rintro e w5 ⟨v5, ys, rfl, hye, hyr, hyd, hyb⟩
      obtain ⟨YA, yc, rfl, _, hyc, hycm, _⟩ := row_slice hyr
      have HYE := Lib.hid hye
      have HYR := Lib.hid hyr
      have HYD := Lib.hid hyd
      have HYB := Lib.hid hyb
      have HPW5 := Lib.hid (HPR.out.below hyb)
      have HBW5 := Lib.hid (HBR.out.trans (hyb.mono HBR.out.size))
      clear hye hyr hyd hyb HCM HFI HGE z1 z2
      obtain ⟨q0, q1, q2, q3⟩ := HCE.out _ HBW5.out
      rw [Nat.add_zero] at q0
      have HDO := Lib.hid (do_any w g (.slice VA xs.length vc) s xs r rv rs x w5 HPW5.out HXO.out (by omega) (by omega))
      have HXL := Lib.hid HXO.out.rd.len
      unfold stpV at HDO
      obtain ⟨N, hN⟩ : ∃ N, ys.length = N := ⟨_, rfl⟩
      have HNN := Lib.hid hN
      rw [hN] at hyc ⊢
      go_wp2_with fail
      refine HDO.out.mono ?_
      rintro e w6 ⟨rfl, v6, xs6, rv6, rs6, hp6, hf6⟩
      clear q0 q1 q2 q3 HDO
      have HP6 := Lib.hid hp6
      have HXS6 := Lib.hid (len_do HPR.out.im hp6.im HXL.out)
      have HRY := Lib.hid (told_kept HPR.out.im HYB.out HYR.out HYD.out (S := g :: (Value.slice VA xs.length vc).ownBlock.toList ++ r :: rv.ownBlock.toList) (fun j hj => by
        rcases List.mem_append.1 hj with h | h
        · exact ⟨(HPR.out.im.foot j h).2, fun cs => HPW5.out.im.not8 j h cs⟩
        · exact ⟨(HPR.out.rm.foot j h).2, fun cs => HPW5.out.rm.not8 j h cs⟩) hf6)
      rw [hN] at HRY
      clear hN
      have HKP := Lib.hid (kp_do HOK.out x)
      obtain ⟨s', hs'⟩ : ∃ s', stDo x s = s' := ⟨_, rfl⟩
      have HSD := Lib.hid hs'
      rw [hs'] at HP6 HKP
      clear hs' hp6 hf6
      have HOK6 := Lib.hid HP6.out.im.ok
      obtain ⟨ZA, zc, rfl, hLo6, hzc, _⟩ := HP6.out.im.slice
      have HLO6 := Lib.hid hLo6
      have c0 := HP6.out.im.ok.b0
      have cbl := HP6.out.im.ok.bl
      have cac := HP6.out.im.ok.ac
      have cba := HP6.out.im.ok.ba
      have ccl := HP6.out.im.ok.cl
      have ccom := HKP.out.com
      have csb : s'.base ≤ 1099511627776 := by unfold St.last at cbl; omega
      have csl : s'.last ≤ 1099511627776 := cbl
      clear hLo6
      have HCM := Lib.hid (fun W (hW : Below w6.heap.size w6 W) => committed_any g s'.base s'.bt s'.com s'.app (.slice ZA xs6.length zc) W (HLO6.out.below hW).lb)
      have HAP := Lib.hid (fun W (hW : Below w6.heap.size w6 W) => applied_any g s'.base s'.bt s'.com s'.app (.slice ZA xs6.length zc) W (HLO6.out.below hW).lb)
      have HFI := Lib.hid (fun W (hW : Below w6.heap.size w6 W) => first_any g s'.base s'.bt s'.com s'.app (.slice ZA xs6.length zc) W (HLO6.out.below hW).lb c0 csb)
      have z1 : IntKind.i64.wrap (s'.app + 1) = s'.app + 1 := IntWalk.i64_in _ (by omega)
      have y1 : decide (s'.com < s.com) = false := by simp; omega
      have y2 : decide (s'.com < s'.app) = false := by simp; omega
      have y3 : decide (s'.last < s'.com) = false := by simp; omega
      have y4 : decide (s'.app + 1 < s'.base + 1) = false := by simp; omega
      go_wp2_with fail
      refine (HCM.out _ (Below.refl _ _)).mono ?_
      rintro e w7 ⟨rfl, rfl⟩
      go_wp2_with fail
      refine (HAP.out _ (Below.refl _ _)).mono ?_
      rintro e w7 ⟨rfl, rfl⟩
      go_wp2_with fail
      refine (HCM.out _ (Below.refl _ _)).mono ?_
      rintro e w7 ⟨rfl, rfl⟩
      go_wp2_with fail
      refine (HCM.out _ (Below.refl _ _)).mono ?_
      rintro e w7 ⟨rfl, rfl⟩
      go_wp2_with fail
      refine HLO6.out.last_dr.mono ?_
      rintro e w7 ⟨rfl, hw7⟩
      have HB7 := Lib.hid (show Below w6.heap.size w6 w7 by obtain ⟨z, rfl⟩ := hw7; exact below_still (still_drewN _ _) (Nat.le_refl _))
      clear hw7
      go_wp2_with fail
      refine (HFI.out _ HB7.out).mono ?_
      rintro e w8 ⟨rfl, rfl⟩
      go_wp2_with fail
      refine (HAP.out _ HB7.out).mono ?_
      rintro e w8 ⟨rfl, rfl⟩
      go_wp2_with fail
      have HX6 := Lib.hid (show xs6.length ≤ 1000000 by have := HXS6.out; omega)
      have HNC := Lib.hid (show N ≤ (s.com - s.base).toNat by
        have h1 := congrArg List.length HYE.out
        rw [ens_len, HNN.out, List.length_take] at h1
        omega)
      have HYX := Lib.hid (show ∀ k, k < N → (ys.getD k ea0).e = s.es.getD k en0 from fun k hk => by
        have hkc := HNC.out
        rw [← ens_at ys k (by rw [HNN.out]; exact hk), HYE.out, List.getD_eq_getElem?_getD, List.getElem?_take, if_pos (by omega), ← List.getD_eq_getElem?_getD])
      have hnc := HNC.out
      have hnb : N ≤ 1000000 := by unfold St.last at hbl; have h1 := congrArg List.length HYE.out; rw [ens_len, HNN.out, List.length_take, HN.out] at h1; omega
      have hycm' : yc ≤ 9223372036854775807 := by unfold maxLen at hycm; omega
      clear y1 y2 y3 y4 HCM HAP
      go_loopw [10] (fun kv wr => ∃ k : Nat, k ≤ N ∧ kv = .int .i64 k ∧ Below w7.heap.size w7 wr) (fun kv _ => N - (intOf kv).toNat)
      case atStart => exact ⟨0, Nat.zero_le _, rfl, Below.refl _ _⟩
      case round =>
        obtain ⟨k, hk, rfl, hb⟩ := hrel
        obtain ⟨wo, hwo⟩ : ∃ wo, wo = wr := ⟨_, rfl⟩
        subst hwo
        have HBK := Lib.hid hb
        have HB6 := Lib.hid (HB7.out.trans (hb.mono HB7.out.size))
        clear hb
        by_cases hlt : k < N
        · obtain ⟨b, off2, rfl, g0, g1, _⟩ := (HRY.out.below HB6.out).elem k hlt
          have HRO := Lib.hid (fun W (hW : Below wo.heap.size wo W) => ((HRY.out.below HB6.out).below hW).one (cap := yc) k hlt)
          have HKO := Lib.hid (kept_one HOK.out HOK6.out HKP.out k (by omega))
          rw [← HYX.out k hlt] at HKO
          generalize ys.getD k ea0 = y at *
          obtain ⟨hix, hkeep⟩ := HKO.out
          rw [hix] at g0
          have HGO := Lib.hid (fun W (hW : Below wo.heap.size wo W) => (hW.cell (lt_of_cell g0)).trans g0)
          obtain ⟨p, hp⟩ : ∃ p, s.base + 1 + (k : Int) = p := ⟨_, rfl⟩
          rw [hp] at g0 HGO hkeep
          have HGE := Lib.hid ((HLO6.out.below HB6.out).get_any hzc HX6.out (data_le HOK6.out HP6.out.im.es) p 1)
          have hsl := run_one b off2 N yc k hlt hyc hycm'
          have k0 : (0 : Int) ≤ (k : Int) := by omega
          have k1 : (k : Int) < (N : Int) := by omega
          have kw : IntKind.i64.wrap ((k : Int) + 1) = (k : Int) + 1 := IntWalk.i64_in _ (by omega)
          clear hix
          by_cases hpb : s'.base < p
          · have HKE := Lib.hid (hkeep hpb)
            clear hkeep
            rw [HKE.out] at HGE
            have p1 : decide (s'.base + 1 ≤ p) = true := by simp; omega
            go_wp2_with fail
            refine HGE.out.mono ?_
            rintro e w9 ⟨v9, us, rfl, hue, hur, hud, hub⟩
            obtain ⟨UA, uc, rfl, _⟩ := row_slice hur
            have HSA := Lib.hid (same_yes UA us.length uc us (some ⟨b, off2 + k * 4, none⟩) 1 (yc - k) [y] w9 (row_rdE hur hud.dat) (HRO.out _ hub) (by rw [hue]; rfl))
            have HUB := Lib.hid hub
            clear hue hur hud hub g0 g1
            go_wp2_with fail
            refine HSA.out.mono ?_
            rintro e w10 ⟨rfl, hs10⟩
            have HBA := Lib.hid (HUB.out.trans (below_still hs10 HUB.out.size))
            clear hs10 HSA
            have g0 := HGO.out _ HBA.out
            have HFQ := Lib.hid (fun j => (first_any g s'.base s'.bt s'.com s'.app (.slice ZA xs6.length zc) (w10.drewN j) ((HLO6.out.below (HB6.out.trans ((HBA.out.trans (below_still (still_drewN _ _) HBA.out.size)).mono HB6.out.size))).lb) c0 csb).mono (R' := fun e w'' => e = .returned (.int .i64 (s'.base + 1)) ∧ ∃ m, w'' = w10.drewN m) fun _ _ ⟨he, hw⟩ => ⟨he, j, hw.symm⟩)
            go_wp2_with fail
            go_quiet ((go_at_call 9; exact HFQ.out _))
            clear g0
            go_wp2
            go_roundw
            case rel => exact ⟨k + 1, by omega, by go_num, HBK.out.trans ((HBA.out.trans (below_still (still_drewN _ _) HBA.out.size)).mono HBK.out.size)⟩
            case measure => simp [intOf]; omega
          · have HKE := Lib.hid (getE_low (s := s') p 1 (by omega))
            clear hkeep
            rw [HKE.out] at HGE
            have p1 : decide (s'.base + 1 ≤ p) = false := by simp; omega
            go_wp2_with fail
            refine HGE.out.mono ?_
            rintro e w9 ⟨v9, us, rfl, hue, hur, hud, hub⟩
            obtain ⟨UA, uc, rfl, _⟩ := row_slice hur
            have hul : us.length = 0 := by have := congrArg List.length hue; rw [ens_len] at this; exact this
            have HSA := Lib.hid (same_no UA us.length uc (some ⟨b, off2 + k * 4, none⟩) 1 (yc - k) w9 (by omega))
            have HBA := Lib.hid hub
            clear hue hur hud hub g0 g1 hul
            go_wp2_with fail
            refine HSA.out.mono ?_
            rintro e w10 ⟨rfl, rfl⟩
            have g0 := HGO.out _ HBA.out
            have HFQ := Lib.hid (fun j => (first_any g s'.base s'.bt s'.com s'.app (.slice ZA xs6.length zc) (w9.drewN j) ((HLO6.out.below (HB6.out.trans ((HBA.out.trans (below_still (still_drewN _ _) HBA.out.size)).mono HB6.out.size))).lb) c0 csb).mono (R' := fun e w'' => e = .returned (.int .i64 (s'.base + 1)) ∧ ∃ m, w'' = w9.drewN m) fun _ _ ⟨he, hw⟩ => ⟨he, j, hw.symm⟩)
            go_wp2_with fail
            go_quiet ((go_at_call 9; exact HFQ.out _))
            clear g0
            go_wp2
            go_roundw
            case rel => exact ⟨k + 1, by omega, by go_num, HBK.out.trans ((HBA.out.trans (below_still (still_drewN _ _) HBA.out.size)).mono HBK.out.size)⟩
            case measure => simp [intOf]; omega
        · obtain rfl : k = N := by omega
          have z2 : IntKind.i64.wrap (s'.base + 1 - 1) = s'.base := (IntWalk.i64_in _ (by omega)).trans (by omega)
          have z2' : s'.base + 1 - 1 = s'.base := by omega
          have HTB := Lib.hid (show termB s' s'.base = true by rw [termB_iff]; unfold St.last; omega)
          have HTV := Lib.hid (show termV s' s'.base = entT s' 0 by unfold termV; rw [if_pos HTB.out, show (s'.base - s'.base).toNat = 0 by omega])
          have HTE := Lib.hid ((HLO6.out.below HB6.out).term_dr s'.base)
          rw [HTB.out, HTV.out] at HTE
          go_wp2_with fail
          refine (HFI.out _ HB6.out).mono ?_
          rintro e w8 ⟨rfl, rfl⟩
          go_wp2_with fail
          refine HTE.out.mono ?_
          rintro e w8 ⟨rfl, hw8⟩
          have HB8 := Lib.hid (show Below w6.heap.size w6 w8 by obtain ⟨z, rfl⟩ := hw8; exact HB6.out.trans (below_still (still_drewN _ _) HB6.out.size))
          clear hw8
          have hel : s'.es.length ≤ 100000 := by have h1 := HP6.out.im.n; have h2 := HXS6.out; omega
          have HGE := Lib.hid ((HLO6.out.below HB8.out).get_any hzc HX6.out (data_le HOK6.out HP6.out.im.es) (s'.base + 1) 100000)
          rw [getE_all hel] at HGE
          go_wp2_with fail
          refine (HFI.out _ HB8.out).mono ?_
          rintro e w9 ⟨rfl, rfl⟩
          go_wp2_with fail
          refine HGE.out.mono ?_
          rintro e w9 ⟨v9, us, rfl, hue, hur, hud, hub⟩
          obtain ⟨UA, uc, rfl, _⟩ := row_slice hur
          have HUR := Lib.hid (row_rdE hur hud.dat)
          have HUE := Lib.hid hue
          have HB9 := Lib.hid (HB8.out.trans (hub.mono HB8.out.size))
          obtain ⟨M, hM⟩ : ∃ M, us.length = M := ⟨_, rfl⟩
          have HMM2 := Lib.hid hM
          rw [hM] at HUR ⊢
          have hml : M = s'.es.length := by rw [← hM, ← ens_len, hue]
          clear hue hur hud hub hM HGE HTE
          go_wp2_with fail
          go_loopw [13, 16] (fun tv kv wr => ∃ k : Nat, k ≤ M ∧ kv = .int .i64 k ∧ tv = .int .i64 (entT s' k) ∧ wr = w9) (fun _ kv _ => M - (intOf kv).toNat)
          case atStart => exact ⟨0, Nat.zero_le _, rfl, rfl, rfl⟩
          case round =>
            obtain ⟨j, hj, rfl, rfl, rfl⟩ := hrel
            by_cases hjl : j < M
            · obtain ⟨b, off2, rfl, g0, g1, _⟩ := HUR.out.elem j hjl
              have HTU := Lib.hid (term_up HOK6.out j (by omega))
              have hje : (us.getD j ea0).e = s'.es.getD j en0 := by rw [← ens_at us j (by rw [HMM2.out]; exact hjl), HUE.out]
              rw [← hje] at HTU
              have HTN := Lib.hid HTU.out.2
              have hup := HTU.out.1
              clear hje
              generalize us.getD j ea0 = y at *
              have y1 : decide (y.e.term < entT s' j) = false := by simp; omega
              have k0 : (0 : Int) ≤ (j : Int) := by omega
              have k1 : (j : Int) < (M : Int) := by omega
              generalize entT s' j = tj at *
              go_wp2
              go_roundw
              case rel => exact ⟨j + 1, by omega, by go_num, by rw [HTN.out], trivial⟩
              case measure => simp [intOf]; omega
            · obtain rfl : j = M := by omega
              go_wp2
              go_roundw
              case rel => exact ⟨i + 1, s', _, xs6, rv6, rs6, by omega, by omega, by go_num, HP6.out.below HB9.out, by rw [HF1.out]; have := HXS6.out; have := HXS.out; omega⟩
              case measure => simp [intOf]; omega
    · have hex : ¬ i < n ∨ (i < n ∧ ¬ i < 100) := by omega
      clear hgo
      rcases hex with h1 | ⟨h1, h2⟩
      all_goals
        go_wp2
        go_ret
        exact ⟨rfl, HBR.out⟩
end Go.Proofs.Ytimplhdliaggfaa.Rg
