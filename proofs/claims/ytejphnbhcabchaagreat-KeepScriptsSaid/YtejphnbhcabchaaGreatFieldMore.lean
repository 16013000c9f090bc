/-
  What the functions Int and Text of package field, and the document's own, make for whatever they are called with: the codes of XFieldMath, in memory of the call's own. Conditions: as each theorem states.
-/
import Derived.Test.YtejphnbhcabchaaGreatFieldMake
namespace Go.Proofs.YtejphnbhcabchaaGreat.Fld
open Go.RowKit

theorem wrap_neg (x : Int) (h0 : -9223372036854775808 ≤ x) (h : x < 0) : IntKind.u64.wrap (-IntKind.u64.wrap x) = ((-x).toNat : Int) := by
  simp only [IntKind.wrap_u64]
  omega

set_option maxHeartbeats 800000 in
theorem text_any (A : Option Addr) (n cap : Nat) (zs : List Int) (w : World) (hr : Rd w A n zs) (hA : A = none → cap = 0) (hn : n ≤ 140737488351232) : Calls Tryz.prog 61 #[.slice A n cap] w (Made w (textC zs)) := by
  have HR := Lib.hid hr
  have HA := Lib.hid hA
  have HL := Lib.hid hr.1
  have HK := Lib.hid (digs_len8 n (by omega))
  clear hr hA
  have HN := Lib.hid (number_any n (by omega) w)
  go_enter Tryz.func61, Tryz.ntmps61
  go_wp2_with fail
  refine HN.out.mono ?_
  rintro e w' ⟨v, rfl, hO⟩
  have HO := Lib.hid hO
  have HR1 := Lib.hid (HR.out.below hO.1)
  clear hO
  go_wp2_with (refine wpList_append_rd rfl _ _ rfl w _ (code n) rfl HO.out A n cap zs rfl HA.out HR1.out (by have := HK.out; rw [code_len]; omega) ?_)
  intro v1 w1 hO1 _ _
  have HO2 := Lib.hid hO1
  clear hO1
  go_wp2
  go_ret
  exact ⟨_, rfl, by rw [textC, HL.out]; exact HO2.out⟩
set_option maxHeartbeats 800000 in
theorem reftext_any (A : Option Addr) (n cap : Nat) (zs : List Int) (w : World) (hr : Rd w A n zs) (hA : A = none → cap = 0) (hn : n ≤ 140737488351232) : Calls Tryz.prog 64 #[.slice A n cap] w (Made w (textC zs)) := by
  have HR := Lib.hid hr
  have HA := Lib.hid hA
  have HL := Lib.hid hr.1
  have HK := Lib.hid (digs_len8 n (by omega))
  clear hr hA
  have HN := Lib.hid (refnumber_any n (by omega) w)
  go_enter Tryz.func64, Tryz.ntmps64
  go_wp2_with fail
  refine HN.out.mono ?_
  rintro e w' ⟨v, rfl, hO⟩
  have HO := Lib.hid hO
  have HR1 := Lib.hid (HR.out.below hO.1)
  clear hO
  go_wp2_with (refine wpList_append_rd rfl _ _ rfl w _ (code n) rfl HO.out A n cap zs rfl HA.out HR1.out (by have := HK.out; rw [code_len]; omega) ?_)
  intro v1 w1 hO1 _ _
  have HO2 := Lib.hid hO1
  clear hO1
  go_wp2
  go_ret
  exact ⟨_, rfl, by rw [textC, HL.out]; exact HO2.out⟩
end Go.Proofs.YtejphnbhcabchaaGreat.Fld
