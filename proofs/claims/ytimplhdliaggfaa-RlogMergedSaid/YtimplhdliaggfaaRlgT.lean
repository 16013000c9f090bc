/-
  Layer 8: fresh: both logs made. Conditions: none but older memory.
-/
import Derived.Test.YtimplhdliaggfaaRlgS
namespace Go.Proofs.Ytimplhdliaggfaa.Rg
open Go.RowKit Go.Proofs.Ytimplhdliaggfaa.Fld
set_option linter.unusedVariables false

set_option maxRecDepth 100000 in
set_option maxHeartbeats 1600000 in
theorem fresh_ok (W0 : World) (b t : Int) (w : World) (hb0 : Below W0.heap.size W0 w) (hb : okN b = true) (ht : okN t = true) : Calls Try.prog 5 #[.int .i64 b, .int .i64 t] w fun e w' => ∃ g r, e = .returned (.tuple #[.pointer (some ⟨g, 0, none⟩), .pointer (some ⟨r, 0, none⟩), .bool true]) ∧ Pr W0 w' g (.slice none 0 0) (st0 b t) [] r (.slice none 0 0) (st0 b t) [] ∧ Below w.heap.size w w' ∧ w.heap.size ≤ g ∧ w.heap.size ≤ r := by
  have HN := Lib.hid (new_ok W0.heap.size b t w hb0.size hb ht)
  have HRN := Lib.hid (fun W (hW : Below W0.heap.size W0 W) => rnew_ok W0 b t W hW hb ht)
  have HB0 := Lib.hid hb0
  clear hb ht hb0
  go_enter Try.func5, Try.ntmps5
  go_wp2_with fail
  refine HN.out.mono ?_
  rintro e w1 ⟨g, rfl, hg, him, hb1⟩
  have HG := Lib.hid hg
  have HIM := Lib.hid him
  have HB1 := Lib.hid hb1
  clear hg him hb1
  go_wp2_with fail
  refine (HRN.out _ (HB0.out.trans (HB1.out.mono HB0.out.size))).mono ?_
  rintro e w2 ⟨r, rfl, hr, hrm, hb2⟩
  have HR := Lib.hid hr
  have HRM := Lib.hid hrm
  have HB2 := Lib.hid hb2
  clear hr hrm hb2
  go_wp2
  go_ret3
  exact ⟨g, r, rfl, Pr.new HIM.out HRM.out HB2.out HR.out, HB1.out.trans (HB2.out.mono HB1.out.size), HG.out, Nat.le_trans HB1.out.size HR.out⟩
set_option maxRecDepth 100000 in
set_option maxHeartbeats 1600000 in
theorem fresh_bad (b t : Int) (w : World) (h : okN b = false ∨ okN t = false) : Calls Try.prog 5 #[.int .i64 b, .int .i64 t] w fun e w' => e = .returned (.tuple #[.pointer none, .pointer none, .bool true]) ∧ w = w' := by
  have HN := Lib.hid (new_bad b t w h)
  have HRN := Lib.hid (rnew_bad b t w h)
  clear h
  go_enter Try.func5, Try.ntmps5
  go_wp2_with fail
  refine HN.out.mono ?_
  rintro e w1 ⟨rfl, rfl⟩
  go_wp2_with fail
  refine HRN.out.mono ?_
  rintro e w1 ⟨rfl, rfl⟩
  go_wp2
  go_ret3
  exact ⟨rfl, rfl⟩
end Go.Proofs.Ytimplhdliaggfaa.Rg
