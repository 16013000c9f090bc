/-
  That the laws RecordAgain and RecordFirst answer true and leave all memory that was there as it was. Conditions: the slices can be read.
-/
import Derived.Test.YtlppcbmhbpefaaaRecWhole
namespace Go.Proofs.Ytlppcbmhbpefaaa.Rc
open Go.RowKit
open Fld (Bytes val Rd RdL conv_str str)
set_option linter.unusedVariables false

theorem run_to_any (A : Option Addr) (n cap u : Nat) (hA : A = none → cap = 0) (hu : u ≤ cap) (W : World) : (Instr.slice 22 (.slice A n cap) none (some (.int .i64 (u : Int))) none).run Try.prog W = .ok (.slice A u cap) W := by
  cases A with
  | some a => exact run_to a n cap u hu W
  | none =>
    obtain rfl := hA rfl
    obtain rfl : u = 0 := by omega
    go_simp
set_option maxRecDepth 100000 in
set_option maxHeartbeats 1600000 in
theorem again_walk (A : Option Addr) (n cap : Nat) (zs : List Int) (w : World) (hs : Sl w A n cap zs) :
    Calls Try.prog 7 #[.slice A n cap] w fun e w' => e = .returned (.bool true) ∧ Below w.heap.size w w' := by
  have hm := hs.1.2.1
  unfold maxLen at hm
  have HS := Lib.hid hs
  clear hs
  by_cases hb : 500000 < n
  · have hbi : (500000 : Int) < (n : Int) := by omega
    go_enter Try.func7, Try.ntmps7
    go_wp2_with fail
    refine (awake_any _).mono ?_
    rintro e w1 ⟨rfl, hb1⟩
    have HB := Lib.hid hb1
    clear hb1
    go_wp2
    go_ret
    exact ⟨rfl, HB.out⟩
  · have hbi : (n : Int) ≤ 500000 := by omega
    go_enter Try.func7, Try.ntmps7
    go_wp2_with fail
    refine (awake_any _).mono ?_
    rintro e w1 ⟨rfl, hb1⟩
    have HB := Lib.hid hb1
    have HS1 := Lib.hid (HS.out.below hb1)
    clear hb1
    go_wp2_with fail
    refine (scan_any A n cap zs _ HS1.out (by omega)).mono ?_
    rintro e w2 ⟨ts, v, rfl, hsc, hrow, hb2⟩
    have hul := hsc.used.2
    rw [HS.out.1.1] at hul
    have h8 := recs_ge ts
    obtain ⟨B, cb, hv, hrd, _, _⟩ := rows_rdl hrow (by unfold maxLen; omega)
    subst hv
    have HSC := Lib.hid hsc
    have HRD := Lib.hid hrd
    have HB2 := Lib.hid (HB.out.trans (hb2.mono HB.out.size))
    have HS2 := Lib.hid (HS1.out.below hb2)
    clear hsc hrow hrd hb2
    have HUT := Lib.hid HSC.out.used.1
    have HSMALL := Lib.hid (show Small ts by obtain ⟨_, _, h, _⟩ := HSC.out; exact h)
    generalize hU : (recs ts).length = U at *
    have HU := Lib.hid hU
    clear hU
    go_wp2_with fail
    refine (whole_any B ts.length cb ts _ HRD.out).mono ?_
    rintro e w3 h3
    rcases h3 with ⟨v3, u3, rfl, _, _, hO3, _⟩ | ⟨_, _, hneg⟩
    · obtain ⟨A3, c3, hv3, hs3, _⟩ := hO3.sl U HU.out
      subst hv3
      have HB3 := Lib.hid (HB2.out.trans (hO3.1.mono HB2.out.size))
      have HS3 := Lib.hid (HS2.out.below hO3.1)
      have r1 := run_to_any A n cap U HS.out.2.2.2 (by have := HS.out.2.1; omega)
      have q1 := fun i => conv_str (hs3.1.drewN i) c3
      have hrt := HS3.out.1.cut U hul
      rw [HUT.out] at hrt
      have q2 := fun i => conv_str (hrt.drewN i) cap
      have hss : ((str (recs ts)).toList == (str (recs ts)).toList) = true := by simp
      clear hs3 hO3 hrt
      generalize str (recs ts) = s at *
      have j0 : (0 : Int) ≤ (U : Int) := by omega
      have j1 : (U : Int) ≤ (n : Int) := by omega
      go_wp2_with fail
      go_quiet (fail)
      go_wp2
      go_ret
      exact ⟨rfl, HB3.out.trans (c := w3.drewN nq) ⟨rfl, rfl, rfl, Nat.le_refl _, fun _ _ => rfl⟩⟩
    · exact absurd ⟨HSMALL.out, by rw [HU.out]; omega⟩ hneg
end Go.Proofs.Ytlppcbmhbpefaaa.Rc
