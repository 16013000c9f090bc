/-
  That the law RecordCut answers true and leaves all memory that was there as it was. Conditions: the list can be read.
-/
import Derived.Test.YtlppcbmhbpefaaaRecFirstL
namespace Go.Proofs.Ytlppcbmhbpefaaa.Rc
open Go.RowKit
open Fld (Bytes val Rd RdL)
set_option linter.unusedVariables false

/-- records cut off anywhere -/
theorem cut_sc (ls : List (List Int)) (hs : Small ls) (j a : Nat) (hj : j ≤ ls.length) (h1 : (recs (ls.take j)).length ≤ a) (h2 : j < ls.length → a < endOf ls j) (h3 : a ≤ (recs ls).length) : Sc ((recs ls).take a) (ls.take j) := by
  have hsp := recs_split ls j
  have ht : (recs ls).take a = recs (ls.take j) ++ (recs (ls.drop j)).take (a - (recs (ls.take j)).length) := by
    rw [hsp, List.take_append, List.take_of_length_le h1]
  rw [ht]
  refine Sc.of (small_take hs j) ?_
  rcases Nat.lt_or_ge j ls.length with hlt | hge
  · have h4 := h2 hlt
    have ht4 : (ls.getD j []).length ≤ 65536 := hs _ (by rw [List.getD_eq_getElem?_getD, List.getElem?_eq_getElem hlt]; simp)
    unfold endOf at h4
    rw [recs_take ls j hlt, List.length_append] at h4
    have e0 : a - (recs (ls.take j)).length - (recd (ls.getD j [])).length = 0 := by omega
    rw [recs_drop ls j hlt, List.take_append, e0, List.take_zero, List.append_nil]
    exact first_cut _ _ ht4 (by omega)
  · rw [List.drop_of_length_le hge]
    exact first_none (fun h => by have := h.1; simp [recs] at this)
theorem ints_rd {w : World} {base k : Nat} {u : Value} {ls : List (List Int)} (h : w.ownsRow base 3 1 u k (endsV ls k)) : ∃ A c, u = .slice A k c ∧ (0 < k → ∃ g, A = some ⟨g, 0, none⟩ ∧ ∀ i, i < k → w.cell? ⟨g, i, none⟩ = some (.int .i64 ((endOf ls i : Nat) : Int))) := by
  obtain ⟨h1, h2⟩ := h
  rcases h2 with ⟨rfl, h0⟩ | ⟨g, cap, cur, rfl, hg, hh, hnc, hcm, hcs, hcu⟩
  · exact ⟨none, 0, by rw [h0], fun h => by omega⟩
  · refine ⟨_, cap, rfl, fun _ => ⟨g, rfl, fun i hi => ?_⟩⟩
    have h3 : (cur.toList.take (k * 1))[i]? = (endsV ls k)[i]? := by rw [hcu]
    rw [List.getElem?_take, if_pos (by omega), Array.getElem?_toList] at h3
    rw [cell_of_row w g i cur _ (0, 0) hh, h3]
    simp [endsV, hi]
def CutR (ls : List (List Int)) (M a : Nat) (k s : Value) : Prop := ∃ j : Nat, j ≤ M ∧ k = .int .i64 (j : Int) ∧ s = .int .i64 (((recs (ls.take j)).length : Nat) : Int) ∧ (recs (ls.take j)).length ≤ a
set_option maxRecDepth 100000 in
set_option maxHeartbeats 1600000 in
theorem cut_walk (A : Option Addr) (M c : Nat) (ls : List (List Int)) (x : Int) (hx0 : -9223372036854775808 ≤ x) (hx1 : x ≤ 9223372036854775807) (w : World) (hq : RdL w A M ls) (hMc : M ≤ c) (hA : A = none → c = 0) :
    Calls Try.prog 5 #[.slice A M c, .int .i64 x] w fun e w' => e = .returned (.bool true) ∧ Below w.heap.size w w' := by
  have hmM := hq.2.1
  unfold maxLen at hmM
  have HQ := Lib.hid hq
  have HL := Lib.hid hq.1
  have HA := Lib.hid hA
  clear hq hA
  go_enter Try.func5, Try.ntmps5
  go_wp2_with fail
  refine (awake_any _).mono ?_
  rintro e w1 ⟨rfl, hb1⟩
  have HB := Lib.hid hb1
  have HQ1 := Lib.hid (HQ.out.below hb1)
  clear hb1
  go_wp2_with fail
  refine (whole_any A M c ls _ HQ1.out).mono ?_
  rintro e w2 h2
  rcases h2 with ⟨v2, u2, rfl, hsm, hre, hO2, hrow2⟩ | ⟨rfl, hb2, _⟩
  · rw [HL.out] at hrow2
    obtain ⟨A2, c2, hv2, hs2, _⟩ := hO2.sl _ rfl
    subst hv2
    obtain ⟨A3, c3, hv3, he3⟩ := ints_rd hrow2
    subst hv3
    have HE3 := Lib.hid he3
    have HS2 := Lib.hid (Sl.of hs2)
    have HB2 := Lib.hid (HB.out.trans (hO2.1.mono HB.out.size))
    have HQ2 := Lib.hid (HQ1.out.below hO2.1)
    have HSM := Lib.hid hsm
    have h8 := recs_ge ls
    rw [HL.out] at h8
    clear hs2 hO2 hrow2 hsm he3
    generalize hU : (recs ls).length = U at *
    have HU := Lib.hid hU
    clear hU
    by_cases hneg : x < 0
    · go_wp2
      go_ret
      exact ⟨rfl, HB2.out⟩
    · obtain ⟨a, rfl⟩ : ∃ a : Nat, x = (a : Int) := ⟨x.toNat, by omega⟩
      obtain ⟨q, hq⟩ : ∃ q : Nat, q = a % (U + 1) := ⟨_, rfl⟩
      have hqU : q ≤ U := by have := Nat.mod_lt a (show 0 < U + 1 by omega); omega
      have HMOD := Lib.hid (show (a : Int) % ((U : Int) + 1) = (q : Int) by rw [hq]; push_cast; rfl)
      clear hq hneg
      have t1 : ((M : Int) != (M : Int)) = false := by simp
      have t2 : ¬ (U : Int) < 8 * (M : Int) := by omega
      have t3 : (0 : Int) ≤ (a : Int) := by omega
      go_wp2_with fail
      rw [HMOD.out]
      clear t1 t2 t3
      go_loop [9, 10] (fun k s => CutR ls M q k s) (fun k _ => M - (intOf k).toNat)
      case atStart => exact ⟨0, by omega, rfl, by rw [List.take_zero]; rfl, by rw [List.take_zero]; simp [recs]⟩
      case round =>
        obtain ⟨j, hj, rfl, rfl, hjq⟩ := hrel
        by_cases hlt : j < M ∧ endOf ls j ≤ q
        · obtain ⟨hlt, hle⟩ := hlt
          obtain ⟨g, rfl, hcell⟩ := HE3.out (by omega)
          have hcj := hcell j hlt
          clear hcell
          generalize hE : endOf ls j = E at *
          have HE := Lib.hid hE
          clear hE
          have j1 : (j : Int) < (M : Int) := by omega
          have j2 : (E : Int) ≤ (q : Int) := by omega
          generalize hR : (recs (ls.take j)).length = R at *
          clear hR
          go_wp2
          go_round
          case rel => exact ⟨j + 1, by omega, by go_num, by rw [← HE.out]; rfl, by have := HE.out; unfold endOf at this; omega⟩
          case measure => simp [intOf]; omega
        · have HSC := Lib.hid (cut_sc ls HSM.out j q (by rw [HL.out]; exact hj) hjq (fun h => by rw [HL.out] at h; omega) (by rw [HU.out]; exact hqU))
          have r1 := run_to_any A2 U c2 q HS2.out.2.2.2 (by have := HS2.out.2.1; omega)
          have r2 := run_toL A M c j HA.out (by omega)
          have HSL := Lib.hid (show Sl w2 A2 q c2 ((recs ls).take q) from ⟨HS2.out.1.cut q hqU, by have := HS2.out.2.1; omega, HS2.out.2.2.1, HS2.out.2.2.2⟩)
          have HQJ := Lib.hid (HQ2.out.cut j hj)
          have HTJ := Lib.hid (show (ls.take j).length = j by rw [List.length_take, HL.out]; omega)
          by_cases hjM : j < M
          case' pos =>
            obtain ⟨g, rfl, hcell⟩ := HE3.out (by omega)
            have hcj := hcell j hjM
            clear hcell
            have hgt : ¬ endOf ls j ≤ q := fun h => hlt ⟨hjM, h⟩
            generalize hE : endOf ls j = E at *
            clear hE hlt
            have j1 : (j : Int) < (M : Int) := by omega
            have j2 : ¬ (E : Int) ≤ (q : Int) := by omega
          case' neg =>
            have j1 : ¬ (j : Int) < (M : Int) := by omega
            clear hlt
          all_goals
            have hrr : (recs (ls.take j)).length ≤ 565544 := by omega
            generalize hR : (recs (ls.take j)).length = R at *
            have HR := Lib.hid hR
            clear hR
            go_wp2_with fail
            refine (scan_any A2 q c2 ((recs ls).take q) _ HSL.out (by omega)).mono ?_
            rintro e w6 ⟨ts, v, rfl, hsc, hrow, hb6⟩
            obtain rfl := hsc.uniq HSC.out
            obtain ⟨B, cb, hv, hrd, hcb, hBn⟩ := rows_rdl hrow (by rw [HTJ.out]; unfold maxLen; omega)
            subst hv
            rw [HR.out]
            rw [HTJ.out] at hrd
            rw [HTJ.out]
            have HRD := Lib.hid hrd
            have HQ6 := Lib.hid (HQJ.out.below hb6)
            have HB6 := Lib.hid (HB2.out.trans (hb6.mono HB2.out.size))
            have e1 : ((R : Int) == (R : Int)) = true := by simp
            clear hsc hrow hrd hb6 hBn r1
            go_wp2_with fail
            refine (same_any B A j cb c (ls.take j) _ HRD.out HQ6.out).mono ?_
            rintro e w7 ⟨rfl, k7, rfl⟩
            go_wp2
            go_ret
            exact ⟨rfl, below_drew HB6.out k7⟩
  · have HB2 := Lib.hid (HB.out.trans (hb2.mono HB.out.size))
    clear hb2
    go_wp2
    go_ret
    exact ⟨rfl, HB2.out⟩
end Go.Proofs.Ytlppcbmhbpefaaa.Rc
