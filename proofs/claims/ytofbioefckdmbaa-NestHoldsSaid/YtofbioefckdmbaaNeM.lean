/-
  Layer 14: the document's own Limits. Conditions: the parts can be read, each a float's bits; no more of them than there is room.
-/
import Derived.Test.YtofbioefckdmbaaNeJ
namespace Go.Proofs.Ytofbioefckdmbaa.Ne
open Go.RowKit Go.Proofs.Ytofbioefckdmbaa.Qu
open Go.Proofs.Ytofbioefckdmbaa.Fld (past lt_of_cell)
open Go.Proofs.Ytofbioefckdmbaa.Fr (RdF LV lvErr lvErr_in LV_bd level_any reflevel_any Lvl)
set_option linter.unusedVariables false

set_option maxRecDepth 100000 in
set_option maxHeartbeats 3200000 in
theorem rlims_any (s : Int) (A : Option Addr) (n cap : Nat) (zs : List Nat) (w : World) (hr : RdF w A n zs) (hz : ∀ i, i < n → zs.getD i 0 < 18446744073709551616) (hn : n ≤ cap) (hm : cap ≤ 9223372036854775807) :
    Calls Try.prog 12 #[.int .i64 s, .slice A n cap] w (TwoI w (limsV s zs) (limsE s zs)) := by
  have HR := Lib.hid hr
  have HZ := Lib.hid hz
  have HL := Lib.hid hr.1
  obtain ⟨E, hE⟩ : ∃ E, limsE s zs = E := ⟨_, rfl⟩
  obtain ⟨K, hK⟩ : ∃ K, limsV s zs = K := ⟨_, rfl⟩
  have HE := Lib.hid hE
  have HK := Lib.hid hK
  rw [hE, hK]
  have HBAD := Lib.hid (fun (h : badP s zs) => (show E = 1 ∧ K = [] from ⟨by rw [← hE]; unfold limsE; rw [if_pos h], by rw [← hK]; unfold limsV; rw [if_pos h]⟩))
  clear hE hK hr hz
  by_cases h0 : 0 ≤ s ∧ s ≤ 10000
  · obtain ⟨h01, h02⟩ := h0
    have h0 : True := trivial
    by_cases h1 : n < 1
    · have HF := Lib.hid (HBAD.out (by unfold badP; have := HL.out; omega))
      clear h0
      go_enter Try.func12, Try.ntmps12
      go_wp2
      go_ret2
      exact TwoI.none (Below.refl _ _) HF.out.2 (by rw [HF.out.1]; rfl)
    by_cases h2 : 8 < n
    · have HF := Lib.hid (HBAD.out (by unfold badP; have := HL.out; omega))
      clear h0
      go_enter Try.func12, Try.ntmps12
      go_wp2
      go_ret2
      exact TwoI.none (Below.refl _ _) HF.out.2 (by rw [HF.out.1]; rfl)
    have hno : ¬ badP s zs := by unfold badP; have := HL.out; omega
    have HF := Lib.hid (show E = 0 ∧ K = limL s zs n from ⟨by rw [← HE.out]; unfold limsE; rw [if_neg hno], by rw [← HK.out]; unfold limsV; rw [if_neg hno, HL.out]⟩)
    obtain ⟨b, off, hA, _⟩ := HR.out.2.2 (by omega)
    subst hA
    have HO := Lib.hid (ownI_one w s)
    obtain ⟨q, hq⟩ : ∃ q, n = q + 1 := ⟨n - 1, by omega⟩
    have HLV := Lib.hid (fun i (hi : i < n) (W : World) => reflevel_any (zs.getD i 0) (HZ.out i hi) s W)
    obtain ⟨b', off', hpe, hcl⟩ := HR.out.2.2 (by omega)
    cases hpe
    have HCL := Lib.hid hcl
    subst hq
    clear h0 hno hcl
    go_enter Try.func12, Try.ntmps12
    go_wp2
    go_loopw [6, 7] (fun v i wr => ∃ k : Nat, k ≤ q ∧ i = .int .i64 ((k + 1 : Nat) : Int) ∧ OwnI w wr v (limL s zs (k + 1))) (fun _ i _ => q + 1 - (intOf i).toNat)
    case atStart => exact ⟨0, by omega, rfl, by rw [limL_one]; exact HO.out⟩
    case round =>
      obtain ⟨k, hk, rfl, hown⟩ := hrel
      obtain ⟨g, cp, rfl⟩ := Ne.OwnI.some hown (by rw [limL_len]; omega)
      have q1 := (Ne.OwnI.put hown (i := k) (by rw [limL_len]; omega) 0).1
      rw [limL_at s zs (k + 1) k (by omega)] at q1
      rw [limL_len] at hown ⊢
      have HO1 := Lib.hid hown
      by_cases hlt : k < q
      · have hcell := HCL.out (k + 1) (by omega)
        have hc := (hown.1.cell (p := ⟨b, off + (k + 1), none⟩) (lt_of_cell hcell)).trans hcell
        have HLK := Lib.hid (HLV.out (k + 1) (by omega))
        have HSU := Lib.hid (lim_succ s zs k)
        have HLS := Lib.hid (limL_succ s zs (k + 1))
        have HLN := Lib.hid (limL_len s zs (k + 1))
        clear hcell hown
        unfold Lvl at HLK
        generalize zs.getD (k + 1) 0 = z at *
        generalize LV z s = y at *
        generalize lvErr s = e0 at *
        generalize hm1 : lim s zs (k + 1) = m1 at *
        have HM1 := Lib.hid hm1
        clear hm1
        generalize hp1 : lim s zs k = p1 at *
        have HP1 := Lib.hid hp1
        clear hp1
        obtain ⟨u, hu⟩ : ∃ u, k + 1 = u := ⟨_, rfl⟩
        have hw1 : (u : Int) - 1 = (k : Int) := by omega
        have u0 : (0 : Int) ≤ (u : Int) := by omega
        have u1 : (u : Int) < ((q + 1 : Nat) : Int) := by omega
        have u2 : (u : Int) < (q : Int) + 1 := by omega
        have k0 : (0 : Int) ≤ (k : Int) := by omega
        have k1 : (k : Int) < (u : Int) := by omega
        have HU := Lib.hid hu
        simp only [hu] at hc q1 ⊢
        rw [hu] at HO1 HLN HLS
        clear hu
        by_cases h5 : p1 < y
        · have HM := Lib.hid (show m1 = p1 by rw [HSU.out]; omega)
          go_wp2_with fail
          refine (HLK.out _).mono ?_
          rintro e w3 ⟨rfl, rfl⟩
          go_wp2_with (first | rw [hw1] | (at_builtin; refine wpList_append_ints rfl _ _ rfl w _ (limL s zs u) rfl (HO1.out.below (alloc_below _ _)) _ 1 1 [p1] rfl (fun h => by cases h) (rdI_one _ p1) (by rw [HLN.out]; omega) ?_; intro v4 w4 hO4 _; have HO4 := Lib.hid hO4; clear hO4))
          go_roundw
          case rel => exact ⟨k + 1, by omega, by rw [← HU.out]; go_num, by rw [HU.out, HLS.out, HM.out]; exact HO4.out⟩
          case measure => have := HU.out; simp [intOf]; omega
        · have HM := Lib.hid (show m1 = y by rw [HSU.out]; omega)
          go_wp2_with fail
          refine (HLK.out _).mono ?_
          rintro e w3 ⟨rfl, rfl⟩
          go_wp2_with (first | rw [hw1] | (at_builtin; refine wpList_append_ints rfl _ _ rfl w _ (limL s zs u) rfl (HO1.out.below (alloc_below _ _)) _ 1 1 [y] rfl (fun h => by cases h) (rdI_one _ y) (by rw [HLN.out]; omega) ?_; intro v4 w4 hO4 _; have HO4 := Lib.hid hO4; clear hO4))
          go_roundw
          case rel => exact ⟨k + 1, by omega, by rw [← HU.out]; go_num, by rw [HU.out, HLS.out, HM.out]; exact HO4.out⟩
          case measure => have := HU.out; simp [intOf]; omega
      · obtain rfl : k = q := by omega
        obtain ⟨A2, c2, hv2, hr2, _⟩ := HO1.out.form (by rw [limL_len]; omega)
        rw [limL_len] at hv2 hr2
        cases hv2
        have HR2 := Lib.hid hr2
        have HLN := Lib.hid (limL_len s zs (k + 1))
        clear hr2 hown q1
        go_wp2
        go_ret2
        exact ⟨_, _, by rw [HF.out.1, HF.out.2, HLN.out]; rfl, by rw [HF.out.2, HLN.out]; exact HR2.out, HO1.out.1⟩
  · have HF := Lib.hid (HBAD.out (by unfold badP; omega))
    by_cases h9 : s < 0
    · clear h0
      go_enter Try.func12, Try.ntmps12
      go_wp2
      go_ret2
      exact TwoI.none (Below.refl _ _) HF.out.2 (by rw [HF.out.1]; rfl)
    · have h8 : 10000 < s := by omega
      clear h0
      go_enter Try.func12, Try.ntmps12
      go_wp2
      go_ret2
      exact TwoI.none (Below.refl _ _) HF.out.2 (by rw [HF.out.1]; rfl)
end Go.Proofs.Ytofbioefckdmbaa.Ne
