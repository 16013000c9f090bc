/-
  That the laws FieldNumbers, FieldInts and FieldTexts answer true and leave all memory that was there as it was. Conditions: as each theorem states.
-/
import Derived.Test.YtiegihopjhbliaaFieldMore
import Derived.Deep.RegionWith
import Derived.Deep.QuietTactic
import Derived.BigQuiet
namespace Go.Proofs.Ytiegihopjhbliaa.Fld
open Go.RowKit

def IsTrue (w : World) (e : Ending) (w' : World) : Prop := e = .returned (.bool true) ∧ Below w.heap.size w w'

set_option maxHeartbeats 800000 in
theorem numbers_walk (n : Nat) (hn : n < 18446744073709551616) (w : World) : Calls Try.prog 3 #[.int .u64 (n : Int)] w (IsTrue w) := by
  go_enter Try.func3, Try.ntmps3
  go_wp2_with fail
  refine (number_any n hn _).mono ?_
  rintro e w1 ⟨v1, rfl, hO1⟩
  obtain ⟨A1, c1, hv1, hr1, _⟩ := hO1.drew.form _ (code_len n)
  subst hv1
  have HB1 := Lib.hid hO1.drew.1
  have HR1 := Lib.hid hr1
  have q0 := conv_str hr1 c1
  clear hO1 hr1
  go_wp2_with fail
  go_region_with ((go_at_call 14; refine (refnumber_any n hn _).mono ?_; rintro e w2 ⟨v2, rfl, hO2⟩; obtain ⟨A2, c2, hv2, hr2, _⟩ := hO2.form _ (code_len n); subst hv2; have q2 := conv_str hr2 c2; have q1 := conv_str (HR1.out.below hO2.1) c1; have HB2 := Lib.hid (HB1.out.trans (hO2.1.mono HB1.out.size)); clear hr2 hO2))
  all_goals go_wp2
  all_goals go_ret
  all_goals exact ⟨rfl, HB2.out⟩

set_option maxHeartbeats 800000 in
theorem ints_walk (x : Int) (h0 : -9223372036854775808 ≤ x) (h1 : x ≤ 9223372036854775807) (w : World) : Calls Try.prog 4 #[.int .i64 x] w (IsTrue w) := by
  go_enter Try.func4, Try.ntmps4
  go_wp2_with fail
  refine (int_any x h0 h1 _).mono ?_
  rintro e w1 ⟨v1, rfl, hO1⟩
  obtain ⟨A1, c1, hv1, hr1, _⟩ := hO1.drew.form _ (intC_len x)
  subst hv1
  have HB1 := Lib.hid hO1.drew.1
  have HR1 := Lib.hid hr1
  have q0 := conv_str hr1 c1
  clear hO1 hr1
  go_wp2_with fail
  go_region_with ((go_at_call 16; refine (refint_any x h0 h1 _).mono ?_; rintro e w2 ⟨v2, rfl, hO2⟩; obtain ⟨A2, c2, hv2, hr2, _⟩ := hO2.form _ (intC_len x); subst hv2; have q2 := conv_str hr2 c2; have q1 := conv_str (HR1.out.below hO2.1) c1; have HB2 := Lib.hid (HB1.out.trans (hO2.1.mono HB1.out.size)); clear hr2 hO2))
  all_goals go_wp2
  all_goals go_ret
  all_goals exact ⟨rfl, HB2.out⟩

set_option maxHeartbeats 800000 in
theorem texts_walk (A : Option Addr) (n cap : Nat) (zs : List Int) (w : World) (hr : Rd w A n zs) (hA : A = none → cap = 0) (hn : n ≤ 140737488351232) : Calls Try.prog 5 #[.slice A n cap] w (IsTrue w) := by
  have HR := Lib.hid hr
  have HA := Lib.hid hA
  have HL := Lib.hid (textC_len zs)
  rw [hr.1] at HL
  clear hr hA
  go_enter Try.func5, Try.ntmps5
  go_wp2_with fail
  refine (text_any A n cap zs _ HR.out HA.out hn).mono ?_
  rintro e w1 ⟨v1, rfl, hO1⟩
  obtain ⟨A1, c1, hv1, hr1, _⟩ := hO1.drew.form _ HL.out
  subst hv1
  have HB1 := Lib.hid hO1.drew.1
  have HR1 := Lib.hid hr1
  have q0 := conv_str hr1 c1
  clear hO1 hr1
  go_wp2_with fail
  go_region_with ((go_at_call 18; refine (reftext_any A n cap zs _ (HR.out.below HB1.out) HA.out hn).mono ?_; rintro e w2 ⟨v2, rfl, hO2⟩; obtain ⟨A2, c2, hv2, hr2, _⟩ := hO2.form _ HL.out; subst hv2; have q2 := conv_str hr2 c2; have q1 := conv_str (HR1.out.below hO2.1) c1; have HB2 := Lib.hid (HB1.out.trans (hO2.1.mono HB1.out.size)); clear hr2 hO2))
  all_goals go_wp2
  all_goals go_ret
  all_goals exact ⟨rfl, HB2.out⟩
end Go.Proofs.Ytiegihopjhbliaa.Fld
