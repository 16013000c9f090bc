/-
  Layer 8: RlogNews. Conditions: the numbers fit an int.
-/
import Derived.Test.YtafjgaapefhggaaRlgT
import Derived.Test.YtafjgaapefhggaaRlgV
namespace Go.Proofs.Ytafjgaapefhggaa.Rg
open Go.RowKit Go.Proofs.Ytafjgaapefhggaa.Fld
set_option linter.unusedVariables false

set_option maxRecDepth 100000 in
set_option maxHeartbeats 1600000 in
theorem news_walk (b t : Int) (w : World) : Calls Try.prog 3 #[.int .i64 b, .int .i64 t] w fun e w' => e = .returned (.bool true) ∧ Below w.heap.size w w' := by
  have HZ := Lib.hid (fun W (hW : Below w.heap.size w W) => fresh_ok w 0 0 W hW (by decide) (by decide))
  by_cases hv : okN b = true ∧ okN t = true
  · have HF := Lib.hid (fresh_ok w b t w (Below.refl _ _) hv.1 hv.2)
    clear hv
    go_enter Try.func3, Try.ntmps3
    go_wp2_with fail
    refine HF.out.mono ?_
    rintro e w1 ⟨g, r, rfl, hp, hb1, _, _⟩
    have HP := Lib.hid hp
    have HB1 := Lib.hid hb1
    clear hp hb1
    go_wp2_with fail
    refine (HZ.out _ HB1.out).mono ?_
    rintro e w2 ⟨g2, r2, rfl, _, hb2, _, _⟩
    have HB2 := Lib.hid hb2
    clear hb2
    have HAL := Lib.hid (alike_any w g (.slice none 0 0) (st0 b t) [] r (.slice none 0 0) [] w2 (HP.out.below HB2.out) (by simp))
    go_wp2_with fail
    refine HAL.out.mono ?_
    rintro e w3 ⟨rfl, hb3⟩
    have HB3 := Lib.hid hb3
    clear hb3
    go_wp2
    go_ret
    exact ⟨rfl, (HB1.out.trans (HB2.out.mono HB1.out.size)).trans (HB3.out.mono (Nat.le_trans HB1.out.size HB2.out.size))⟩
  · have HF := Lib.hid (fresh_bad b t w (by
      cases h1 : okN b with
      | false => exact .inl rfl
      | true =>
        cases h2 : okN t with
        | false => exact .inr rfl
        | true => exact absurd ⟨h1, h2⟩ hv))
    clear hv
    go_enter Try.func3, Try.ntmps3
    go_wp2_with fail
    refine HF.out.mono ?_
    rintro e w1 ⟨rfl, rfl⟩
    go_wp2_with fail
    refine (HZ.out _ (Below.refl _ _)).mono ?_
    rintro e w2 ⟨g2, r2, rfl, _, hb2, _, _⟩
    have HB2 := Lib.hid hb2
    clear hb2
    go_wp2
    go_ret
    exact ⟨rfl, HB2.out⟩
end Go.Proofs.Ytafjgaapefhggaa.Rg
