/-
  Layer 13: Find of the program. Conditions: the groups can be read; the text has at most 2^63 - 1 bytes.
-/
import Derived.Test.YtnmmpiddmckghaaDoorSeR
import Derived.Test.YtnmmpiddmckghaaDoorSeC
import Derived.BigQuiet
import Derived.Deep.QuietTactic
import Derived.Deep.RegionWith
namespace Go.Proofs.YtnmmpiddmckghaaDoor.Se
open Go.RowKit Go.Proofs.YtnmmpiddmckghaaDoor.Qu Go.Proofs.YtnmmpiddmckghaaDoor.Fld
set_option linter.unusedVariables false

set_option maxRecDepth 100000 in
set_option maxHeartbeats 3200000 in
theorem find_any (r : Int) (A : Option Addr) (n c : Nat) (gs : List Int) (s : ByteArray) (hsz : s.size ≤ 9223372036854775807) (w : World) (hr : RdI w A n gs) :
    Calls Tryd.prog 20 #[layV r A n c, .string s] w fun e w' => e = .returned (.tuple #[.int .i64 (fndN r gs s.data.toList), .int .i64 (fndE r gs s.data.toList)]) ∧ Below w.heap.size w w' := by
  have hb := alloc_below w (layO r A n c)
  have hr' := RdI.below hr hb
  have HK := layO_blk w r A n c
  unfold layO at *
  obtain ⟨W, hW⟩ : ∃ W, w.alloc (.cells #[.int .i64 r, .slice A n c] 24) = W := ⟨_, rfl⟩
  rw [hW] at hb hr' HK
  have HW := Lib.hid hW
  have HB := Lib.hid hb
  have HRD := Lib.hid (fun (w2 : World) (h2 : Below W.heap.size W w2) => hr'.below h2)
  have HX := Lib.hid (fun (w2 : World) (h2 : Below W.heap.size W w2) => (⟨(HK.below h2).cell 0 _ rfl, (HK.below h2).cell 1 _ rfl⟩ : w2.cell? ⟨w.heap.size, 0, none⟩ = some (.int .i64 r) ∧ w2.cell? ⟨w.heap.size, 1, none⟩ = some (.slice A n c)))
  have HBW := Lib.hid (Below.refl W.heap.size W)
  have HR1 := Lib.hid (fun (w2 : World) (h2 : RdI w2 A n gs) => right_any r A n c gs w2 h2)
  have HRE := Lib.hid (fun (w2 : World) => read_any s hsz w2)
  have HFE := Lib.hid (show fndE r gs s.data.toList = if layOk r gs = true then (match rd 0 s.data.toList with
    | some (a, b) => if (a : Int) < r ∧ (b : Int) < gs.sum then 0 else 2
    | none => 2) else 1 from rfl)
  have HFN := Lib.hid (show fndN r gs s.data.toList = if fndE r gs s.data.toList = 0 then (match rd 0 s.data.toList with
    | some (a, b) => (a : Int) * gs.sum + b
    | none => 0) else 0 from rfl)
  have HIS := Lib.hid (fun p h => (rd_is (s := s.data.toList) (p := p) h).2)
  generalize fndE r gs s.data.toList = E at *
  generalize fndN r gs s.data.toList = F at *
  generalize rd 0 s.data.toList = T at *
  have hgl := hr.1
  clear hr hr' HK hb hW
  obtain ⟨c0, c1⟩ := HX.out _ (Below.refl _ _)
  cases hL : layOk r gs with
  | false =>
    rw [hL] at HR1 HFE
    have HE := Lib.hid (show E = 1 ∧ F = 0 by refine ⟨HFE.out, ?_⟩; rw [HFN.out, HFE.out]; rfl)
    clear HFE HFN hL HIS
    unfold layV at *
    go_enter Tryd.func20, Tryd.ntmps20
    go_wp2_with (first | rw [HW.out] | fail)
    refine (HR1.out _ (HRD.out _ HBW.out)).mono ?_
    rintro e w2 ⟨rfl, hb2⟩
    have HB2 := Lib.hid (HB.out.trans (hb2.mono HB.out.size))
    clear hb2
    go_wp2
    go_ret2
    exact ⟨by rw [HE.out.1, HE.out.2]; rfl, HB2.out⟩
  | true =>
    rw [hL] at HR1 HFE
    obtain ⟨k1, k2, k3, k4, k5, k6, k7⟩ := lay_of hL
    have HA := Lib.hid (fun (w2 : World) (h2 : RdI w2 A n gs) => across_any r A n c gs w2 h2 k5 (by omega))
    unfold layV at *
    clear hL k5
    generalize gs.sum = S at *
    go_enter Tryd.func20, Tryd.ntmps20
    go_wp2_with (first | rw [HW.out] | fail)
    refine (HR1.out _ (HRD.out _ HBW.out)).mono ?_
    rintro e w2 ⟨rfl, hb2⟩
    have HBW := Lib.hid (HBW.out.trans hb2)
    clear hb2 c0 c1
    obtain ⟨c0, c1⟩ := HX.out _ HBW.out
    go_wp2_with fail
    refine (HRE.out _).mono ?_
    rintro e w3 ⟨rfl, hb3⟩
    have HBW := Lib.hid (HBW.out.trans (hb3.mono HBW.out.size))
    clear hb3 c0 c1
    obtain ⟨c0, c1⟩ := HX.out _ HBW.out
    have HB3 := Lib.hid (HB.out.trans (HBW.out.mono HB.out.size))
    cases T with
    | none =>
      have HE := Lib.hid (show E = 2 ∧ F = 0 by refine ⟨HFE.out, ?_⟩; rw [HFN.out, HFE.out]; rfl)
      unfold readV
      go_wp2
      go_ret2
      exact ⟨by rw [HE.out.1, HE.out.2]; rfl, HB3.out⟩
    | some p =>
      obtain ⟨a, b⟩ := p
      obtain ⟨p1, p2⟩ := HIS.out (a, b) rfl
      simp only at p1 p2
      unfold readV
      simp only []
      by_cases ha : r ≤ (a : Int)
      · have HE := Lib.hid (show E = 2 ∧ F = 0 by
          have h : E = 2 := by rw [HFE.out]; simp only [if_true]; rw [if_neg (by omega)]
          exact ⟨h, by rw [HFN.out, h]; rfl⟩)
        go_wp2
        go_ret2
        exact ⟨by rw [HE.out.1, HE.out.2]; rfl, HB3.out⟩
      have ha' : ¬ r ≤ (a : Int) := ha
      go_wp2_with fail
      refine (HA.out _ (HRD.out _ HBW.out)).mono ?_
      rintro e w4 ⟨rfl, hb4⟩
      have HBW := Lib.hid (HBW.out.trans (hb4.mono HBW.out.size))
      clear hb4 c0 c1
      obtain ⟨c0, c1⟩ := HX.out _ HBW.out
      have HB4 := Lib.hid (HB.out.trans (HBW.out.mono HB.out.size))
      by_cases hbS : S ≤ (b : Int)
      · have HE := Lib.hid (show E = 2 ∧ F = 0 by
          have h : E = 2 := by rw [HFE.out]; simp only [if_true]; rw [if_neg (by omega)]
          exact ⟨h, by rw [HFN.out, h]; rfl⟩)
        go_wp2
        go_ret2
        exact ⟨by rw [HE.out.1, HE.out.2]; rfl, HB4.out⟩
      have HE := Lib.hid (show E = 0 ∧ F = (a : Int) * S + b by
        have h : E = 0 := by rw [HFE.out]; simp only [if_true]; rw [if_pos ⟨by omega, by omega⟩]
        exact ⟨h, by rw [HFN.out, h]; rfl⟩)
      have m1 : 0 ≤ (a : Int) * S := Int.mul_nonneg (by omega) (by omega)
      have m2 : (a : Int) * S ≤ 60 * 10 := Int.mul_le_mul (by omega) k6 (by omega) (by omega)
      go_wp2_with fail
      refine (HA.out _ (HRD.out _ HBW.out)).mono ?_
      rintro e w5 ⟨rfl, hb5⟩
      have HB5 := Lib.hid (HB4.out.trans (hb5.mono HB4.out.size))
      clear hb5
      go_wp2
      go_ret2
      exact ⟨by rw [HE.out.1, HE.out.2]; rfl, HB5.out⟩
end Go.Proofs.YtnmmpiddmckghaaDoor.Se
