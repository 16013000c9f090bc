/-
  Layer 14: Limits, the program's own and the document's. Conditions: the parts can be read, each a float's bits; no more of them than there is room.
-/
import Derived.Test.YtofbioefckdmbaaNeF
import Derived.Test.YtofbioefckdmbaaFareRise
import Derived.Test.YtofbioefckdmbaaFareLevR
import Derived.Test.YtofbioefckdmbaaFareOpen
namespace Go.Proofs.Ytofbioefckdmbaa.Ne
open Go.RowKit Go.Proofs.Ytofbioefckdmbaa.Qu
open Go.Proofs.Ytofbioefckdmbaa.Fld (past lt_of_cell)
open Go.Proofs.Ytofbioefckdmbaa.Fr (RdF LV lvErr lvErr_in LV_bd level_any reflevel_any Lvl)
set_option linter.unusedVariables false

def lim (s : Int) (zs : List Nat) : Nat → Int
  | 0 => s
  | k + 1 => min (lim s zs k) (LV (zs.getD (k + 1) 0) s)
theorem lim_zero (s : Int) (zs : List Nat) : lim s zs 0 = s := rfl
theorem lim_succ (s : Int) (zs : List Nat) (k : Nat) : lim s zs (k + 1) = min (lim s zs k) (LV (zs.getD (k + 1) 0) s) := rfl
def limL (s : Int) (zs : List Nat) (k : Nat) : List Int := (List.range k).map (lim s zs)
theorem limL_len (s : Int) (zs : List Nat) (k : Nat) : (limL s zs k).length = k := by simp [limL]
theorem limL_succ (s : Int) (zs : List Nat) (k : Nat) : limL s zs (k + 1) = limL s zs k ++ [lim s zs k] := by simp [limL, List.range_succ]
theorem limL_one (s : Int) (zs : List Nat) : limL s zs 1 = [s] := rfl
theorem limL_at (s : Int) (zs : List Nat) (k i : Nat) (h : i < k) : (limL s zs k).getD i 0 = lim s zs i := by simp [limL, h]
def badP (s : Int) (zs : List Nat) : Prop := s < 0 ∨ 10000 < s ∨ zs.length < 1 ∨ 8 < zs.length
instance (s : Int) (zs : List Nat) : Decidable (badP s zs) := by unfold badP; infer_instance
def limsE (s : Int) (zs : List Nat) : Int := if badP s zs then 1 else 0
def limsV (s : Int) (zs : List Nat) : List Int := if badP s zs then [] else limL s zs zs.length
theorem ownI_one (w : World) (s : Int) : OwnI w (w.alloc (.cells #[.int .i64 s] 3)) (.slice (some ⟨w.heap.size, 0, none⟩) 1 1) [s] :=
  ⟨alloc_below w _, by simp [vI], .inr ⟨w.heap.size, 1, #[.int .i64 s], rfl, Nat.le_refl _, heap_alloc_new w _, Nat.le_refl _, by unfold maxLen; omega, rfl, rfl⟩⟩
theorem run_fromF (b off n cap : Nat) (h1 : 1 ≤ n) (hn : n ≤ cap) (hm : cap ≤ 9223372036854775807) (W : World) : (Instr.slice 22 (.slice (some ⟨b, off, none⟩) n cap) (some (.int .i64 1)) none none).run Try.prog W = .ok (.slice (some (past ⟨b, off, none⟩ cap 1)) (n - 1) (cap - 1)) W := by
  unfold past
  by_cases h : cap = 1
  · obtain rfl : n = 1 := by omega
    subst h
    rw [if_pos rfl]
    go_simp
  · rw [if_neg h]
    have h2 : (1 : Int) ≤ (n : Int) := by omega
    have h3 : (n : Int) ≤ (cap : Int) := by omega
    go_simp
theorem fTail {w : World} {b off n cap : Nat} {zs : List Nat} (hr : RdF w (some ⟨b, off, none⟩) n zs) (h1 : 1 ≤ n) (hn : n ≤ cap) (i : Nat) (hi : i < n - 1) : ∃ b' off', some (past ⟨b, off, none⟩ cap 1) = some ⟨b', off', none⟩ ∧ w.cell? ⟨b', off' + i, none⟩ = some (.float .f64 (zs.getD (i + 1) 0)) := by
  obtain ⟨b', off', he, hc⟩ := hr.2.2 (by omega)
  cases he
  unfold past
  rw [if_neg (by omega)]
  refine ⟨b, off + 1, rfl, ?_⟩
  rw [Nat.add_assoc, Nat.add_comm 1 i]
  exact hc (i + 1) (by omega)
set_option maxRecDepth 100000 in
set_option maxHeartbeats 3200000 in
theorem lims_any (s : Int) (A : Option Addr) (n cap : Nat) (zs : List Nat) (w : World) (hr : RdF w A n zs) (hz : ∀ i, i < n → zs.getD i 0 < 18446744073709551616) (hn : n ≤ cap) (hm : cap ≤ 9223372036854775807) :
    Calls Try.prog 11 #[.int .i64 s, .slice A n cap] w (TwoI w (limsV s zs) (limsE s zs)) := by
  have HR := Lib.hid hr
  have HZ := Lib.hid hz
  have HL := Lib.hid hr.1
  obtain ⟨E, hE⟩ : ∃ E, limsE s zs = E := ⟨_, rfl⟩
  obtain ⟨K, hK⟩ : ∃ K, limsV s zs = K := ⟨_, rfl⟩
  have HE := Lib.hid hE
  have HK := Lib.hid hK
  rw [hE, hK]
  have HBAD := Lib.hid (fun (h : badP s zs) => (show E = 1 ∧ K = [] from ⟨by rw [← hE]; unfold limsE; rw [if_pos h], by rw [← hK]; unfold limsV; rw [if_pos h]⟩))
  have HCT := Lib.hid (fun (W : World) => count_any s W)
  clear hE hK hr hz
  by_cases h0 : 0 ≤ s ∧ s ≤ 10000
  · have HD := Lib.hid (dec_t h0)
    rw [HD.out] at HCT
    by_cases h1 : n < 1
    · have HF := Lib.hid (HBAD.out (by unfold badP; have := HL.out; omega))
      clear h0
      go_enter Try.func11, Try.ntmps11
      go_wp2_with fail
      refine (HCT.out _).mono ?_
      rintro e w1 ⟨rfl, rfl⟩
      go_wp2
      go_ret2
      exact TwoI.none (Below.refl _ _) HF.out.2 (by rw [HF.out.1]; rfl)
    by_cases h2 : 8 < n
    · have HF := Lib.hid (HBAD.out (by unfold badP; have := HL.out; omega))
      clear h0
      go_enter Try.func11, Try.ntmps11
      go_wp2_with fail
      refine (HCT.out _).mono ?_
      rintro e w1 ⟨rfl, rfl⟩
      go_wp2
      go_ret2
      exact TwoI.none (Below.refl _ _) HF.out.2 (by rw [HF.out.1]; rfl)
    have hno : ¬ badP s zs := by unfold badP; have := HL.out; omega
    have HF := Lib.hid (show E = 0 ∧ K = limL s zs n from ⟨by rw [← HE.out]; unfold limsE; rw [if_neg hno], by rw [← HK.out]; unfold limsV; rw [if_neg hno, HL.out]⟩)
    obtain ⟨b, off, hA, _⟩ := HR.out.2.2 (by omega)
    subst hA
    have HO := Lib.hid (ownI_one w s)
    have hsl := fun W => run_fromF b off n cap (by omega) hn hm W
    have HTA := Lib.hid (fun i (hi : i < n - 1) => fTail HR.out (by omega) hn i hi)
    obtain ⟨p, hp⟩ : ∃ p, past ⟨b, off, none⟩ cap 1 = p := ⟨_, rfl⟩
    rw [hp] at HTA
    simp only [hp] at hsl
    obtain ⟨q, hq⟩ : ∃ q, n = q + 1 := ⟨n - 1, by omega⟩
    have HLV := Lib.hid (fun i (hi : i < n) (W : World) => level_any (zs.getD i 0) (HZ.out i hi) s W)
    subst hq
    rw [Nat.add_sub_cancel] at hsl HTA
    clear h0 hno hp
    have HS0 := Lib.hid (show Value.int .i64 s = .int .i64 (lim s zs 0) from rfl)
    go_enter Try.func11, Try.ntmps11
    go_wp2_with fail
    refine (HCT.out _).mono ?_
    rintro e w1 ⟨rfl, rfl⟩
    go_wp2
    go_loopw [6, 7, 31] (fun t v i wr => ∃ k : Nat, k ≤ q ∧ i = .int .i64 (k : Int) ∧ t = .int .i64 (lim s zs k) ∧ OwnI w wr v (limL s zs (k + 1))) (fun _ _ i _ => q - (intOf i).toNat)
    case atStart => exact ⟨0, by omega, rfl, HS0.out, by rw [limL_one]; exact HO.out⟩
    case round =>
      obtain ⟨k, hk, rfl, rfl, hown⟩ := hrel
      have HO1 := Lib.hid hown
      by_cases hlt : k < q
      · obtain ⟨b', off', hpe, hcell⟩ := HTA.out k hlt
        cases hpe
        have hc := (hown.1.cell (p := ⟨b', off' + k, none⟩) (lt_of_cell hcell)).trans hcell
        have HLK := Lib.hid (HLV.out (k + 1) (by omega))
        have HSU := Lib.hid (lim_succ s zs k)
        have HLS := Lib.hid (limL_succ s zs (k + 1))
        have HLN := Lib.hid (limL_len s zs (k + 1))
        clear hcell hown
        have k0 : (0 : Int) ≤ (k : Int) := by omega
        have k1 : (k : Int) < (q : Int) := by omega
        unfold Lvl at HLK
        generalize zs.getD (k + 1) 0 = z at *
        generalize LV z s = y at *
        generalize lvErr s = e0 at *
        generalize hm1 : lim s zs (k + 1) = m1 at *
        have HM1 := Lib.hid hm1
        clear hm1
        generalize hp1 : lim s zs k = p1 at *
        have HP1 := Lib.hid hp1
        clear hp1
        by_cases h5 : y < p1
        · have HM := Lib.hid (show m1 = y by rw [HSU.out]; omega)
          go_wp2_with fail
          refine (HLK.out _).mono ?_
          rintro e w3 ⟨rfl, rfl⟩
          go_wp2_with (at_builtin; refine wpList_append_ints rfl _ _ rfl w _ (limL s zs (k + 1)) rfl (HO1.out.below (alloc_below _ _)) _ 1 1 [y] rfl (fun h => by cases h) (rdI_one _ y) (by rw [HLN.out]; omega) ?_; intro v4 w4 hO4 _; have HO4 := Lib.hid hO4; clear hO4)
          go_roundw
          case rel => exact ⟨k + 1, by omega, by go_num, by rw [HM1.out, HM.out], by rw [HLS.out, HM.out]; exact HO4.out⟩
          case measure => simp [intOf]; omega
        · have HM := Lib.hid (show m1 = p1 by rw [HSU.out]; omega)
          go_wp2_with fail
          refine (HLK.out _).mono ?_
          rintro e w3 ⟨rfl, rfl⟩
          go_wp2_with (at_builtin; refine wpList_append_ints rfl _ _ rfl w _ (limL s zs (k + 1)) rfl (HO1.out.below (alloc_below _ _)) _ 1 1 [p1] rfl (fun h => by cases h) (rdI_one _ p1) (by rw [HLN.out]; omega) ?_; intro v4 w4 hO4 _; have HO4 := Lib.hid hO4; clear hO4)
          go_roundw
          case rel => exact ⟨k + 1, by omega, by go_num, by rw [HM1.out, HM.out], by rw [HLS.out, HM.out]; exact HO4.out⟩
          case measure => simp [intOf]; omega
      · obtain rfl : k = q := by omega
        obtain ⟨A2, c2, hv2, hr2, _⟩ := HO1.out.form (by rw [limL_len]; omega)
        rw [limL_len] at hv2 hr2
        subst hv2
        have HR2 := Lib.hid hr2
        have HLN := Lib.hid (limL_len s zs (k + 1))
        clear hr2 hown
        go_wp2
        go_ret2
        exact ⟨A2, c2, by rw [HF.out.1, HF.out.2, HLN.out]; rfl, by rw [HF.out.2, HLN.out]; exact HR2.out, HO1.out.1⟩
  · have HD := Lib.hid (dec_f h0)
    rw [HD.out] at HCT
    have HF := Lib.hid (HBAD.out (by unfold badP; omega))
    clear h0
    go_enter Try.func11, Try.ntmps11
    go_wp2_with fail
    refine (HCT.out _).mono ?_
    rintro e w1 ⟨rfl, rfl⟩
    go_wp2
    go_ret2
    exact TwoI.none (Below.refl _ _) HF.out.2 (by rw [HF.out.1]; rfl)
end Go.Proofs.Ytofbioefckdmbaa.Ne
