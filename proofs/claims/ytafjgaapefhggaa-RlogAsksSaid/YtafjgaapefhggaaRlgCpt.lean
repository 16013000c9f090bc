/-
  Layer 8: RlogCompacts. Conditions: the arguments can be read.
-/
import Derived.Test.YtafjgaapefhggaaRlgScr
namespace Go.Proofs.Ytafjgaapefhggaa.Rg
open Go.RowKit Go.Proofs.Ytafjgaapefhggaa.Fld
set_option linter.unusedVariables false

theorem RdSt.below {w w' : World} {A : Option Addr} {n : Nat} {l : List Stp} (h : RdSt w A n l) (hb : Below w.heap.size w w') : RdSt w' A n l :=
  ⟨h.1, h.2.1, fun hp => by
      obtain ⟨b', off, hA, hc⟩ := h.2.2.1 hp
      exact ⟨b', off, hA, fun i hi j hj => by
        have h1 := hc i hi j hj
        have h2 : (l[i].cells[j]?).isSome = true := by rw [List.getElem?_eq_getElem (by show j < 4; exact hj)]; rfl
        obtain ⟨v, hv⟩ := Option.isSome_iff_exists.1 h2
        rw [hv] at h1 ⊢
        exact (hb.cell (lt_of_cell h1)).trans h1⟩, fun a ha => (h.2.2.2 a ha).below hb⟩
theorem Pr.still {W0 w w' : World} {g : Nat} {v : Value} {s s' : St} {xs : List EA} {r : Nat} {rv : Value} {rs : List EA} (h : Pr W0 w g v s xs r rv s' rs) (hs : Still w w') : Pr W0 w' g v s xs r rv s' rs := h.below (below_still hs (Nat.le_refl _))
theorem getE_drop {s : St} (k : Nat) (hk : k ≤ s.es.length) (hl : s.es.length ≤ 100000) : getE s (s.base + k + 1) 100000 = s.es.drop k := by
  unfold getE
  split
  · next hc =>
    unfold St.last at hc
    rw [List.drop_eq_nil_of_le (by omega)]
  · rw [show (s.base + (k : Int) + 1 - s.base - 1).toNat = k by omega, List.take_of_length_le (by rw [List.length_drop]; show s.es.length - k ≤ 100000; omega)]
/-- entries that were told before a change of the log -/
theorem told_kept {w5 w6 w8 : World} {lo g : Nat} {v : Value} {s : St} {xs : List EA} {LA : Option Addr} {lc : Nat} {ys : List EA} (h : Im lo w5 g s v xs) (hb : Below w5.heap.size w5 w6) (hr : w6.ownsRow w5.heap.size 46 4 (.slice LA ys.length lc) ys.length (rowE ys)) (hd : DatO w5.heap.size w6 ys) {S : List Nat} (hS : ∀ i ∈ S, i < w5.heap.size ∧ ∀ cs, ¬ Blk w6 i cs 5) (hf : Dk.Fr S w6 w8) : RdE w8 LA ys.length ys := by
  have hr8 : w8.ownsRow w5.heap.size 46 4 (.slice LA ys.length lc) ys.length (rowE ys) := row_of hr (fun i hi => hf.block i (row_lo hr i hi).2 (fun hm => by have := (hS i hm).1; have := (row_lo hr i hi).1; omega))
  exact row_rdE hr8 (hd.not8 hf (fun i hi => (hS i hi).2)).dat
set_option maxRecDepth 100000 in
set_option maxHeartbeats 3200000 in
theorem compacts_walk (A : Option Addr) (n cap : Nat) (l : List Stp) (i0 : Int) (w : World) (hr : RdSt w A n l) (hi0 : -9223372036854775808 ≤ i0) (hi1 : i0 ≤ 9223372036854775807) : Calls Try.prog 9 #[.slice A n cap, .int .i64 i0] w fun e w' => e = .returned (.bool true) ∧ Below w.heap.size w w' := by
  have HZ := Lib.hid (fresh_ok w 0 0 w (Below.refl _ _) (by decide) (by decide))
  have HR := Lib.hid hr
  have HL := Lib.hid hr.1
  have hm := hr.2.1
  unfold maxLen at hm
  clear hr
  go_enter Try.func9, Try.ntmps9
  go_wp2_with fail
  refine HZ.out.mono ?_
  rintro e w2 ⟨g, r, rfl, hp, hb2, _, _⟩
  have HP2 := Lib.hid hp
  have HB2 := Lib.hid hb2
  clear hp hb2
  go_wp2_with fail
  refine (much_any A n cap l w2 (HR.out.below HB2.out)).mono ?_
  rintro e w3 ⟨mb, rfl, rfl, hmu⟩
  cases mb with
  | true =>
    go_wp2
    go_ret
    exact ⟨rfl, HB2.out⟩
  | false =>
  have HMU := Lib.hid (hmu rfl)
  clear hmu
  go_wp2_with fail
  go_loopw [9] (fun iv wr => ∃ (i : Nat) (s : St) (v : Value) (xs : List EA) (rv : Value) (rs : List EA), i ≤ n ∧ i ≤ 100 ∧ iv = .int .i64 i ∧ Pr w wr g v s xs r rv s rs ∧ xs.length ≤ sumN (l.take i)) (fun iv _ => 100 - (intOf iv).toNat)
  case atStart => exact ⟨0, _, _, _, _, _, Nat.zero_le _, by omega, rfl, HP2.out, by simp⟩
  case round =>
    obtain ⟨i, s, v, xs, rv, rs, hin, hi1', rfl, hp, hxs⟩ := hrel
    have HPR := Lib.hid hp
    have HXS := Lib.hid hxs
    have HBR := Lib.hid hp.rm.old
    clear hp hxs
    have HMM := Lib.hid (sumN_mono l i 100)
    by_cases hgo : i < n ∧ i < 100
    · obtain ⟨h1, h2⟩ := hgo
      have hil : i < l.length := by have := HL.out; omega
      obtain ⟨zb, off, rfl, hc⟩ := HR.out.at4 HBR.out i hil
      have q0 := hc 0 (.int .i64 l[i].d) (by omega) rfl
      have q1 := hc 1 (.int .i64 l[i].i) (by omega) rfl
      have q2 := hc 2 (.int .i64 l[i].t) (by omega) rfl
      have q3 := hc 3 (.slice l[i].A l[i].n l[i].c) (by omega) rfl
      obtain ⟨f1, f2, f3⟩ := few_at HMU.out i hil h2
      have HF1 := Lib.hid f1
      have hxl : xs.length ≤ 5000 := by have := HXS.out; omega
      have HXO := Lib.hid (HR.out.2.2.2 _ (List.getElem_mem hil))
      clear hc f1
      generalize l[i] = x at *
      have HDO := Lib.hid (do_any w g v s xs r rv rs x wr HPR.out HXO.out (by omega) (by omega))
      have HXL := Lib.hid HXO.out.rd.len
      unfold stpV at HDO
      have k0 : (0 : Int) ≤ (i : Int) := by omega
      have k1 : (i : Int) < (n : Int) := by omega
      have k2 : (i : Int) < 100 := by omega
      rw [Nat.add_zero] at q0
      go_wp2_with fail
      refine HDO.out.mono ?_
      rintro e w4 ⟨rfl, v', xs', rv', rs', hp4, hf4⟩
      have HP4 := Lib.hid hp4
      have HXS4 := Lib.hid (len_do HPR.out.im hp4.im HXL.out)
      clear hp4 hf4
      go_wp2
      go_roundw
      case rel => exact ⟨i + 1, stDo x s, v', xs', rv', rs', by omega, by omega, by go_num, HP4.out, by rw [HF1.out]; have := HXS4.out; have := HXS.out; omega⟩
      case measure => simp [intOf]; omega
    · have hex : ¬ i < n ∨ (i < n ∧ ¬ i < 100) := by omega
      have hxl : xs.length ≤ 5000 := by
        have h1 := HMU.out i (by have := HL.out; omega) hi1'
        have := HXS.out
        omega
      clear hgo
      obtain ⟨VA, vc, rfl, hLo, hvc, _, hvn, _⟩ := HPR.out.im.slice
      have HLO := Lib.hid hLo
      have HOK := Lib.hid HPR.out.im.ok
      have hb0 := HPR.out.im.ok.b0
      have hbl := HPR.out.im.ok.bl
      have hac := HPR.out.im.ok.ac
      have hba := HPR.out.im.ok.ba
      have hcl := HPR.out.im.ok.cl
      have HN := Lib.hid HPR.out.im.n
      have hsb : s.base ≤ 1099511627776 := by unfold St.last at hbl; omega
      have HFI := Lib.hid (fun W (hW : Below wr.heap.size wr W) => first_any g s.base s.bt s.com s.app (.slice VA xs.length vc) W (hLo.below hW).lb hb0 hsb)
      have HAP := Lib.hid (fun W (hW : Below wr.heap.size wr W) => applied_any g s.base s.bt s.com s.app (.slice VA xs.length vc) W (hLo.below hW).lb)
      clear hLo
      have HCO := Lib.hid (fun W (hW : Below wr.heap.size wr W) => compact_any w.heap.size g s (.slice VA xs.length vc) xs i0 W (HPR.out.im.below hW))
      by_cases hbad : i0 < s.base ∨ s.app < i0
      · have HC := Lib.hid (show cptC s i0 = 7 by unfold cptC; rw [if_neg (by omega)])
        have HS := Lib.hid (show stCpt s i0 = s by unfold stCpt; rw [if_neg (by omega)])
        rw [HC.out, HS.out] at HCO
        rcases hbad with hb | hb
        · rcases hex with h1 | ⟨h1, h2⟩
          all_goals
            go_wp2_with fail
            refine (HFI.out _ (Below.refl _ _)).mono ?_
            rintro e w4 ⟨rfl, rfl⟩
            go_wp2_with fail
            refine (HCO.out _ (Below.refl _ _)).mono ?_
            rintro e w5 ⟨v', xs', rfl, hd⟩
            have HP5 := Lib.hid (HPR.out.prog hd)
            clear hd
            go_wp2
            go_ret
            exact ⟨rfl, HP5.out.rm.old⟩
        · have hnb : ¬ i0 < s.base := by omega
          rcases hex with h1 | ⟨h1, h2⟩
          all_goals
            go_wp2_with fail
            refine (HFI.out _ (Below.refl _ _)).mono ?_
            rintro e w4 ⟨rfl, rfl⟩
            go_wp2_with fail
            refine (HAP.out _ (Below.refl _ _)).mono ?_
            rintro e w4 ⟨rfl, rfl⟩
            go_wp2_with fail
            refine (HCO.out _ (Below.refl _ _)).mono ?_
            rintro e w5 ⟨v', xs', rfl, hd⟩
            have HP5 := Lib.hid (HPR.out.prog hd)
            clear hd
            go_wp2
            go_ret
            exact ⟨rfl, HP5.out.rm.old⟩
      obtain ⟨k, hk⟩ : ∃ k : Nat, i0 = s.base + k := ⟨(i0 - s.base).toNat, by omega⟩
      subst hk
      have hkl : k ≤ s.es.length := by unfold St.last at hcl; omega
      have hel : s.es.length ≤ 100000 := by have := HN.out; omega
      have HC := Lib.hid (show cptC s (s.base + k) = 0 by unfold cptC; rw [if_pos (by omega)])
      have HS := Lib.hid (show stCpt s (s.base + k) = { s with base := s.base + k, bt := entT s k, es := s.es.drop k } by unfold stCpt; rw [if_pos (by omega), show (s.base + (k : Int) - s.base).toNat = k by omega])
      rw [HC.out, HS.out] at HCO
      have HTB := Lib.hid (show termB s (s.base + k) = true by rw [termB_iff]; omega)
      have HTV := Lib.hid (show termV s (s.base + k) = entT s k by unfold termV; rw [if_pos HTB.out, show (s.base + (k : Int) - s.base).toNat = k by omega])
      have HTE := Lib.hid (HLO.out.term_dr (s.base + k))
      rw [HTB.out, HTV.out] at HTE
      have HGE := Lib.hid (fun W (hW : Below wr.heap.size wr W) => (HLO.out.below hW).get_any hvc (by omega) (data_le HOK.out HPR.out.im.es) (s.base + k + 1) 100000)
      rw [getE_drop k hkl hel] at HGE
      have hnb : ¬ s.base + (k : Int) < s.base := by omega
      have hna : ¬ s.app < s.base + (k : Int) := by omega
      have hkb : s.base + (k : Int) ≤ 1099511627776 := by omega
      clear hbad
      have hT : ∃ T, entT s k = T := ⟨_, rfl⟩
      obtain ⟨T, hTe⟩ := hT
      rw [hTe] at HTE HCO
      have HSL := Lib.hid (show ({ s with base := s.base + k, bt := T, es := s.es.drop k } : St).last = s.last by unfold St.last; rw [List.length_drop]; simp only; omega)
      have HTB' := Lib.hid (show termB ({ s with base := s.base + k, bt := T, es := s.es.drop k } : St) (s.base + k) = true by rw [termB_iff]; unfold St.last; simp only; omega)
      have HTV' := Lib.hid (show termV ({ s with base := s.base + k, bt := T, es := s.es.drop k } : St) (s.base + k) = T by unfold termV entT; rw [if_pos HTB'.out, if_pos (by simp only; omega)])
      have HGA := Lib.hid (show getE ({ s with base := s.base + k, bt := T, es := s.es.drop k } : St) (s.base + k + 1) 100000 = s.es.drop k from getE_all (s := { s with base := s.base + k, bt := T, es := s.es.drop k }) (by rw [List.length_drop]; omega))
      have HB2' := Lib.hid (show ({ s with base := s.base + k, bt := T, es := s.es.drop k } : St).base = s.base + k from rfl)
      generalize hs' : ({ s with base := s.base + k, bt := T, es := s.es.drop k } : St) = s' at *
      clear hs' hTe
      rcases hex with h1 | ⟨h1, h2⟩
      all_goals
        go_wp2_with fail
        refine (HFI.out _ (Below.refl _ _)).mono ?_
        rintro e w4 ⟨rfl, rfl⟩
        go_wp2_with fail
        refine (HAP.out _ (Below.refl _ _)).mono ?_
        rintro e w4 ⟨rfl, rfl⟩
        go_wp2_with fail
        refine HTE.out.mono ?_
        rintro e w4 ⟨rfl, hw4⟩
        have HB4 := Lib.hid (show Below w4.heap.size wr w4 ∧ w4.heap.size = wr.heap.size by obtain ⟨z, rfl⟩ := hw4; exact ⟨below_still (still_drewN _ _) (Nat.le_refl _), rfl⟩)
        have HW4 := Lib.hid (show Below wr.heap.size wr w4 by have := HB4.out.1; rwa [HB4.out.2] at this)
        clear hw4
        go_wp2_with fail
        refine (HGE.out _ HW4.out).mono ?_
        rintro e w5 ⟨v5, ys, rfl, hye, hyr, hyd, hyb⟩
        obtain ⟨YA, yc, rfl, _⟩ := row_slice hyr
        have HYE := Lib.hid hye
        have HYR := Lib.hid hyr
        have HYD := Lib.hid hyd
        have HYB := Lib.hid hyb
        have HW5 := Lib.hid (HW4.out.trans (hyb.mono (by rw [HB4.out.2]; exact Nat.le_refl _)))
        clear hye hyr hyd hyb
        go_wp2_with fail
        refine (HLO.out.below HW5.out).last_dr.mono ?_
        rintro e w6 ⟨rfl, hw6⟩
        have HS6 := Lib.hid (show Still w5 w6 by obtain ⟨z, rfl⟩ := hw6; exact still_drewN _ _)
        have HW6 := Lib.hid (HW5.out.trans (below_still HS6.out HW5.out.size))
        clear hw6
        go_wp2_with fail
        refine (HCO.out _ HW6.out).mono ?_
        rintro e w7 ⟨v7, xs7, rfl, hd7⟩
        have HD7 := Lib.hid hd7
        have HP7 := Lib.hid ((HPR.out.below HW6.out).prog hd7)
        clear hd7
        obtain ⟨ZA, zc, rfl, hLo7, hzc, _, _, _⟩ := HP7.out.im.slice
        have HLO7 := Lib.hid hLo7
        have hx7 : xs7.length ≤ 1000000 := by have h1 := HP7.out.im.n; have h2 := HPR.out.im.n; have := HSL.out; have h3 := HP7.out.im.ok.b0; unfold St.last at this; rw [HB2'.out] at this; omega
        clear hLo7
        have HRY := Lib.hid (told_kept (HPR.out.im.below HW4.out) HYB.out HYR.out HYD.out (S := g :: (Value.slice VA xs.length vc).ownBlock.toList) (fun i hi => ⟨((HPR.out.im.below HW4.out).foot i hi).2, fun cs => (HPR.out.im.below HW5.out).not8 i hi cs⟩) ((fr_still HS6.out).same HD7.out.fr))
        have HT7 := Lib.hid (HLO7.out.term_dr (s.base + k))
        rw [HTB'.out, HTV'.out] at HT7
        go_wp2_with fail
        refine HT7.out.mono ?_
        rintro e w8 ⟨rfl, hw8⟩
        have HS8 := Lib.hid (show Still w7 w8 by obtain ⟨z, rfl⟩ := hw8; exact still_drewN _ _)
        clear hw8
        have HG8 := Lib.hid ((HLO7.out.still HS8.out).get_any hzc hx7 (data_le HP7.out.im.ok HP7.out.im.es) (s.base + k + 1) 100000)
        rw [HGA.out] at HG8
        go_wp2_with fail
        refine HG8.out.mono ?_
        rintro e w9 ⟨v9, us, rfl, hue, hur, hud, hub⟩
        obtain ⟨UA, uc, rfl, _⟩ := row_slice hur
        have HUR := Lib.hid (row_rdE hur hud.dat)
        have HUB := Lib.hid hub
        have HSA := Lib.hid (same_yes UA us.length uc us YA ys.length yc ys w9 HUR.out ((HRY.out.still HS8.out).below hub) (by rw [hue, HYE.out]))
        have HP9 := Lib.hid ((HP7.out.still HS8.out).below hub)
        have HLO9 := Lib.hid ((HLO7.out.still HS8.out).below hub)
        clear hue hur hud hub
        go_wp2_with fail
        refine HSA.out.mono ?_
        rintro e w10 ⟨rfl, hs10⟩
        have HP10 := Lib.hid (HP9.out.still hs10)
        have HLO10 := Lib.hid (HLO9.out.still hs10)
        clear hs10
        have HF10 := Lib.hid (first_any g s'.base s'.bt s'.com s'.app (.slice ZA xs7.length zc) w10 HLO10.out.lb HLO10.out.b0 (by rw [HB2'.out]; omega))
        rw [HB2'.out] at HF10
        have HLL := Lib.hid HLO10.out.last_dr
        rw [HSL.out] at HLL
        go_wp2_with fail
        refine HF10.out.mono ?_
        rintro e w11 ⟨rfl, rfl⟩
        go_wp2_with fail
        refine HLL.out.mono ?_
        rintro e w12 ⟨rfl, hw12⟩
        have HS12 := Lib.hid (show Still w10 w12 by obtain ⟨z, rfl⟩ := hw12; exact still_drewN _ _)
        clear hw12
        go_wp2
        go_ret
        exact ⟨by simp, (HP10.out.still HS12.out).rm.old⟩
end Go.Proofs.Ytafjgaapefhggaa.Rg
