/-
  That the law RecordFirst answers true and leaves all memory that was there as it was. Conditions: the slices can be read.
-/
import Derived.Test.YtlppcbmhbpefaaaRecAgain
namespace Go.Proofs.Ytlppcbmhbpefaaa.Rc
open Go.RowKit
open Fld (Bytes val Rd RdL)
set_option linter.unusedVariables false

theorem run_toL (A : Option Addr) (n cap u : Nat) (hA : A = none → cap = 0) (hu : u ≤ cap) (W : World) : (Instr.slice 28 (.slice A n cap) none (some (.int .i64 (u : Int))) none).run Try.prog W = .ok (.slice A u cap) W := by
  cases A with
  | some a =>
    have h1 : (0 : Int) ≤ (u : Int) := by omega
    have h3 : (u : Int) ≤ (cap : Int) := by omega
    go_simp
  | none =>
    obtain rfl := hA rfl
    obtain rfl : u = 0 := by omega
    go_simp
theorem below_drew {B : Nat} {a w : World} (h : Below B a w) (n : Nat) : Below B a (w.drewN n) := h.trans ⟨rfl, rfl, rfl, Nat.le_refl _, fun _ _ => rfl⟩
set_option maxRecDepth 100000 in
set_option maxHeartbeats 1600000 in
theorem first_walk (A : Option Addr) (M c : Nat) (ls : List (List Int)) (A1 : Option Addr) (n1 c1 : Nat) (zr : List Int) (w : World) (hq : RdL w A M ls) (hr : Rd w A1 n1 zr) (hA1 : A1 = none → c1 = 0) :
    Calls Try.prog 8 #[.slice A M c, .slice A1 n1 c1] w fun e w' => e = .returned (.bool true) ∧ Below w.heap.size w w' := by
  have hm := hr.2.1
  have hmM := hq.2.1
  unfold maxLen at hm hmM
  have HQ := Lib.hid hq
  have HR := Lib.hid hr
  have HA1 := Lib.hid hA1
  have HZ := Lib.hid hr.1
  have HL := Lib.hid hq.1
  clear hq hr hA1
  go_enter Try.func8, Try.ntmps8
  go_wp2_with fail
  refine (awake_any _).mono ?_
  rintro e w1 ⟨rfl, hb1⟩
  have HB := Lib.hid hb1
  have HQ1 := Lib.hid (HQ.out.below hb1)
  have HR1 := Lib.hid (HR.out.below hb1)
  clear hb1
  go_wp2_with fail
  refine (whole_any A M c ls _ HQ1.out).mono ?_
  rintro e w2 h2
  rcases h2 with ⟨v2, u2, rfl, hsm, hre, hO2, hrow2⟩ | ⟨rfl, hb2, _⟩
  · obtain ⟨A2, c2, hv2, hs2, _⟩ := hO2.sl _ rfl
    subst hv2
    have HS2 := Lib.hid hs2
    have HB2 := Lib.hid (HB.out.trans (hO2.1.mono HB.out.size))
    have HR2 := Lib.hid (HR1.out.below hO2.1)
    have HQ2 := Lib.hid (HQ1.out.below hO2.1)
    have HSM := Lib.hid hsm
    clear hs2 hO2 hrow2 hsm
    generalize hU : (recs ls).length = U at *
    have HU := Lib.hid hU
    clear hU
    by_cases hbig : 100000 < n1
    · have hbi : (100000 : Int) < (n1 : Int) := by omega
      go_wp2
      go_ret
      exact ⟨rfl, HB2.out⟩
    · have hbi : (n1 : Int) ≤ 100000 := by omega
      have HO3 := Lib.hid (Fld.Own.made w2 w2 (Below.refl _ _))
      have HS3 := Lib.hid (HS2.out.below HO3.out.1)
      unfold Fld.noneBlk at HO3 HS3
      go_wp2_with (refine Fld.wpList_append_rd rfl _ _ rfl w2 (.slice (some ⟨w2.heap.size, 0, none⟩) 0 0) [] rfl HO3.out A2 U c2 (recs ls) rfl HS3.out.2.2.2.1 HS3.out.1 (by simp; omega) ?_)
      intro v4 w4 hO4 _ _
      try rw [List.nil_append] at hO4
      have HO4 := Lib.hid hO4
      have HR4 := Lib.hid (HR2.out.below hO4.1)
      clear hO4 HO3 HS3
      go_wp2_with (refine Fld.wpList_append_rd rfl _ _ rfl w2 v4 (recs ls) rfl HO4.out A1 n1 c1 zr rfl HA1.out HR4.out (by rw [HU.out]; omega) ?_)
      intro v5 w5 hO5 _ _
      obtain ⟨A5, c5, hv5, hs5, _⟩ := hO5.sl (U + n1) (by rw [List.length_append, HU.out, HZ.out])
      subst hv5
      have HS5 := Lib.hid (Sl.of hs5)
      have HB5 := Lib.hid (HB2.out.trans (hO5.1.mono HB2.out.size))
      have HQ5 := Lib.hid (HQ2.out.below hO5.1)
      clear hs5 hO5
      go_wp2_with fail
      refine (scan_any A5 (U + n1) c5 (recs ls ++ zr) _ HS5.out (by omega)).mono ?_
      rintro e w6 ⟨ts, v, rfl, hsc, hrow, hb6⟩
      obtain ⟨us, hts⟩ : ∃ us, ts = ls ++ us := by
        obtain ⟨s, e, hst, hf⟩ := hsc
        obtain ⟨us, h, _⟩ := ahead ls ts zr s HSM.out hst hf e
        exact ⟨us, h⟩
      have hul := hsc.used.2
      rw [HS5.out.1.1] at hul
      have h8 := recs_ge ts
      have hUU : U ≤ (recs ts).length := by rw [hts, recs_append, List.length_append, HU.out]; omega
      have hMM : M ≤ ts.length := by rw [hts, List.length_append, HL.out]; omega
      obtain ⟨B, cb, hv, hrd, hcb, hBn⟩ := rows_rdl hrow (by unfold maxLen; omega)
      subst hv
      have hcut := hrd.cut M hMM
      rw [show ts.take M = ls by rw [hts, ← HL.out]; simp] at hcut
      have HCUT := Lib.hid hcut
      have HQ6 := Lib.hid (HQ5.out.below hb6)
      have HB6 := Lib.hid (HB5.out.trans (hb6.mono HB5.out.size))
      have r1 := run_toL B ts.length cb M hBn (by omega)
      clear hsc hrow hrd hts hcut hb6 hBn
      generalize hV : (recs ts).length = V at *
      generalize hT : ts.length = T at *
      clear hV hT
      have t1 : ¬ (V : Int) < (U : Int) := by omega
      have t2 : ¬ (T : Int) < (M : Int) := by omega
      have t1' : decide (V < U) = false := by simp; omega
      have t2' : decide (T < M) = false := by simp; omega
      go_wp2_with fail
      refine (same_any B A M cb c ls _ HCUT.out HQ6.out).mono ?_
      rintro e w7 ⟨rfl, k7, rfl⟩
      go_wp2
      go_ret
      exact ⟨rfl, below_drew HB6.out k7⟩
  · have HB2 := Lib.hid (HB.out.trans (hb2.mono HB.out.size))
    clear hb2
    go_wp2
    go_ret
    exact ⟨rfl, HB2.out⟩
end Go.Proofs.Ytlppcbmhbpefaaa.Rc
