/-
  That the laws FieldOrder and FieldApart answer true and leave all memory that was there as it was. Conditions: as each theorem states.
-/
import Derived.Test.YtiegihopjhbliaaFieldMore
import Derived.Deep.QuietTactic
import Derived.BigQuiet
namespace Go.Proofs.Ytiegihopjhbliaa.Fld
open Go.RowKit

theorem code_str (n : Nat) : (str (code n)).toList ≠ [] := by
  rw [str_list, code]
  simp
theorem code_eq (a b : Nat) : decide (code a = code b) = ((a : Int) == (b : Int)) := by
  rw [Bool.eq_iff_iff]
  simp only [decide_eq_true_eq, beq_iff_eq]
  exact ⟨fun h => by rw [code_inj a b h], fun h => by rw [show a = b by omega]⟩
set_option maxHeartbeats 800000 in
theorem order_walk (a b : Nat) (ha : a < 18446744073709551616) (hb : b < 18446744073709551616) (w : World) : Calls Try.prog 10 #[.int .u64 (a : Int), .int .u64 (b : Int)] w fun e w' => e = .returned (.bool true) ∧ Below w.heap.size w w' := by
  have HE := Lib.hid ((str_eq (code_bytes a ha) (code_bytes b hb)).trans (code_eq a b))
  have HL := Lib.hid ((str_less (code_bytes a ha) (code_bytes b hb)).trans (lex_code a b))
  have HZ := Lib.hid (code_str a)
  go_enter Try.func10, Try.ntmps10
  go_wp2_with fail
  refine (number_any a ha _).mono ?_
  rintro e w1 ⟨v1, rfl, hO1⟩
  obtain ⟨A1, c1, hv1, hr1, _⟩ := hO1.form _ (code_len a)
  subst hv1
  have HB1 := Lib.hid hO1.1
  have q1 := conv_str hr1 c1
  clear hO1 hr1
  go_wp2_with fail
  refine (number_any b hb _).mono ?_
  clear q1
  rintro e w2 ⟨v2, rfl, hO2⟩
  obtain ⟨A2, c2, hv2, hr2, _⟩ := hO2.form _ (code_len b)
  subst hv2
  have HB2 := Lib.hid (HB1.out.trans (hO2.1.mono HB1.out.size))
  have q2 := conv_str hr2 c2
  clear hO2 hr2
  generalize str (code a) = s at *
  generalize str (code b) = t at *
  have z1 : ¬ s.toList = [] := HZ.out
  have z2 : s.toList.isEmpty = false := by simpa using HZ.out
  have z3 := HE.out
  have z4 := HL.out
  go_wp2
  go_ret
  exact ⟨by simp, HB2.out⟩

theorem min_two (n1 n2 : Nat) : ∃ N : Nat, N = min n1 n2 ∧
    ∀ w : World, (Builtin.min_ #[3, 3] 3 #[.int .i64 (n1 : Int), .int .i64 (n2 : Int)]).run Try.prog w = .ok (.int .i64 (N : Int)) w := by
  refine ⟨min n1 n2, rfl, fun w => ?_⟩
  simp [Builtin.min_, Builtin.min2]
  congr 1
  split <;> omega
set_option maxHeartbeats 800000 in
theorem apart_walk (a b : Int) (ha0 : -9223372036854775808 ≤ a) (ha1 : a ≤ 9223372036854775807) (hb0 : -9223372036854775808 ≤ b) (hb1 : b ≤ 9223372036854775807) (w : World) : Calls Try.prog 11 #[.int .i64 a, .int .i64 b] w fun e w' => e = .returned (.bool true) ∧ Below w.heap.size w w' := by
  have HP := Lib.hid (intC_apart a b ha0 ha1 hb0 hb1)
  have HX := Lib.hid (intC_bytes a ha0 ha1)
  have HY := Lib.hid (intC_bytes b hb0 hb1)
  have l1 := intC_len a
  have l2 := intC_len b
  have k1 := digs_len8 a.natAbs (by omega)
  have k2 := digs_len8 b.natAbs (by omega)
  rw [l1, l2] at HP
  have L1 := Lib.hid l1
  have L2 := Lib.hid l2
  clear l1 l2
  generalize (digs a.natAbs).length = m1 at *
  generalize (digs b.natAbs).length = m2 at *
  obtain ⟨N, hN, hmin⟩ := min_two (m1 + 1) (m2 + 1)
  have HPN := Lib.hid (HP.out N hN)
  clear HP
  have n1 : N ≤ m1 + 1 := by omega
  have n2 : N ≤ m2 + 1 := by omega
  clear hN
  push_cast at hmin
  have e1 : ((m1 : Int) + 1 == 0) = false := by simp; omega
  have e2 : ((m2 : Int) + 1 == 0) = false := by simp; omega
  go_enter Try.func11, Try.ntmps11
  go_wp2_with fail
  refine (int_any a ha0 ha1 _).mono ?_
  rintro e w1 ⟨v1, rfl, hO1⟩
  obtain ⟨A1, c1, hv1, hs1, _⟩ := hO1.sl _ L1.out
  subst hv1
  have HB1 := Lib.hid hO1.1
  have HS1 := Lib.hid hs1
  clear hO1 hs1
  go_wp2_with fail
  refine (int_any b hb0 hb1 _).mono ?_
  rintro e w2 ⟨v2, rfl, hO2⟩
  obtain ⟨A2, c2, hv2, hs2, _⟩ := hO2.sl _ L2.out
  subst hv2
  have HB2 := Lib.hid (HB1.out.trans (hO2.1.mono HB1.out.size))
  have HS2 := Lib.hid hs2
  have HS3 := Lib.hid (HS1.out.below hO2.1)
  clear hO2 hs2 HS1 HB1
  have q1 := fun k => conv_str ((HS3.out.1.cut N n1).drewN k) c1
  have q2 := fun k => conv_str ((HS2.out.1.cut N n2).drewN k) c2
  have j1 : (N : Int) ≤ (c1 : Int) := by have := HS3.out.2.1; omega
  have j2 : (N : Int) ≤ (c2 : Int) := by have := HS2.out.2.1; omega
  have j0 : (0 : Int) ≤ (N : Int) := by omega
  have HEQ := Lib.hid (show ((str ((intC a).take N)).toList == (str ((intC b).take N)).toList) = (a == b) by rw [str_eq (bytes_take HX.out N) (bytes_take HY.out N), Bool.eq_iff_iff]; simp only [decide_eq_true_eq, beq_iff_eq]; exact HPN.out)
  generalize str ((intC a).take N) = s at *
  generalize str ((intC b).take N) = t at *
  have z := HEQ.out
  go_wp2_with fail
  go_quiet (fail)
  go_wp2
  go_ret
  exact ⟨by simp, ⟨HB2.out.os, HB2.out.tape, HB2.out.output, HB2.out.size, HB2.out.block⟩⟩
end Go.Proofs.Ytiegihopjhbliaa.Fld
