/-
  What the functions Key and Of of package fare, and the document's own, answer for whatever they are called with. Conditions: as each theorem states.
-/
import Derived.Test.YtidjpemdapimjaaChecked
import Derived.Test.YtidjpemdapimjaaFareMath
import Derived.WalkKit
import Derived.WalkLawsBesides
import Derived.LoopTactic
import Derived.Outline
import Derived.IntWalk
import Derived.Lib.Hide
import Derived.Laws.Externs
namespace Go.Proofs.Ytidjpemdapimjaa.Fr
open Go.RowKit

/-- The place of a float in the order of all, by its bits; the bits at a place. -/
def key (x : Nat) : Nat := if x < 9223372036854775808 then x + 9223372036854775808 else 18446744073709551615 - x
def bitsAt (k : Nat) : Nat := if k < 9223372036854775808 then 18446744073709551615 - k else k - 9223372036854775808

theorem key_lt (x : Nat) (h : x < 18446744073709551616) : key x < 18446744073709551616 := by unfold key; split <;> omega
theorem bitsAt_lt (x : Nat) (h : x < 18446744073709551616) : bitsAt x < 18446744073709551616 := by unfold bitsAt; split <;> omega
theorem key_bitsAt (k : Nat) (h : k < 18446744073709551616) : key (bitsAt k) = k := by unfold key bitsAt; split <;> split <;> omega
theorem bitsAt_key (k : Nat) (h : k < 18446744073709551616) : bitsAt (key k) = k := by unfold key bitsAt; split <;> split <;> omega

theorem run_bits (x : Nat) (w : World) : (callFunc 15 #[.float .f64 x]).run Try.prog w = .ok (.value (.int .u64 (x : Int))) w := by
  rw [run_callFunc_extern Try.func15 (by kernel_rfl) (by kernel_rfl) (by kernel_rfl) (e := Extern.MathFloatBits.float64bits) (by kernel_rfl)]
  rfl
theorem run_from (n : Int) (w : World) : (callFunc 25 #[.int .u64 n]).run Try.prog w = .ok (.value (.float .f64 n.toNat)) w := by
  rw [run_callFunc_extern Try.func25 (by kernel_rfl) (by kernel_rfl) (by kernel_rfl) (e := Extern.MathFloatBits.float64frombits) (by kernel_rfl)]
  rfl

theorem of_low (k : Nat) (h : k < 9223372036854775808) (w : World) : (callFunc 25 #[.int .u64 (18446744073709551615 - (k : Int))]).run Try.prog w = .ok (.value (.float .f64 (bitsAt k))) w := by
  rw [run_from, show (18446744073709551615 - (k : Int)).toNat = bitsAt k by unfold bitsAt; rw [if_pos h]; omega]
theorem of_high (k : Nat) (h : ¬ k < 9223372036854775808) (w : World) : (callFunc 25 #[.int .u64 ((k : Int) - 9223372036854775808)]).run Try.prog w = .ok (.value (.float .f64 (bitsAt k))) w := by
  rw [run_from, show ((k : Int) - 9223372036854775808).toNat = bitsAt k by unfold bitsAt; rw [if_neg h]; omega]

theorem retk {a b : Int} (h : a = b) : Ending.returned (.int .u64 a) = .returned (.int .u64 b) := by rw [h]
theorem retf {a b : Nat} (h : a = b) : Ending.returned (.float .f64 a) = .returned (.float .f64 b) := by rw [h]

set_option maxHeartbeats 400000 in
theorem key_any (x : Nat) (hx : x < 18446744073709551616) (w : World) : Calls Try.prog 12 #[.float .f64 x] w fun e w' => e = .returned (.int .u64 (key x : Int)) ∧ w = w' := by
  have hr := run_bits x
  by_cases h : x < 9223372036854775808
  · have HS : Hid (((x : Int) + 9223372036854775808) = (key x : Int)) := Lib.hid (by unfold key; rw [if_pos h]; omega)
    have h1 : (x : Int) < 9223372036854775808 := by omega
    have h0 : (0 : Int) ≤ x := by omega
    clear h
    go_enter Try.func12, Try.ntmps12
    go_wp2
    go_ret
    exact ⟨retk HS.out, rfl⟩
  · have HS : Hid ((18446744073709551615 - (x : Int)) = (key x : Int)) := Lib.hid (by unfold key; rw [if_neg h]; omega)
    have h1 : ¬ (x : Int) < 9223372036854775808 := by omega
    have h0 : (0 : Int) ≤ x := by omega
    have h2 : (x : Int) ≤ 18446744073709551615 := by omega
    clear h
    go_enter Try.func12, Try.ntmps12
    go_wp2
    go_ret
    exact ⟨retk HS.out, rfl⟩

set_option maxHeartbeats 400000 in
theorem refkey_any (x : Nat) (hx : x < 18446744073709551616) (w : World) : Calls Try.prog 14 #[.float .f64 x] w fun e w' => e = .returned (.int .u64 (key x : Int)) ∧ w = w' := by
  have hr := run_bits x
  by_cases h : x < 9223372036854775808
  · have HS : Hid (((x : Int) + 9223372036854775808) = (key x : Int)) := Lib.hid (by unfold key; rw [if_pos h]; omega)
    have h1 : (x : Int) < 9223372036854775808 := by omega
    have h0 : (0 : Int) ≤ x := by omega
    clear h
    go_enter Try.func14, Try.ntmps14
    go_wp2
    go_ret
    exact ⟨retk HS.out, rfl⟩
  · have HS : Hid ((18446744073709551615 - (x : Int)) = (key x : Int)) := Lib.hid (by unfold key; rw [if_neg h]; omega)
    have h1 : ¬ (x : Int) < 9223372036854775808 := by omega
    have h0 : (0 : Int) ≤ x := by omega
    have h2 : (x : Int) ≤ 18446744073709551615 := by omega
    clear h
    go_enter Try.func14, Try.ntmps14
    go_wp2
    go_ret
    exact ⟨retk HS.out, rfl⟩

set_option maxHeartbeats 400000 in
theorem of_any (k : Nat) (hk : k < 18446744073709551616) (w : World) : Calls Try.prog 13 #[.int .u64 (k : Int)] w fun e w' => e = .returned (.float .f64 (bitsAt k)) ∧ w = w' := by
  have h0 : (0 : Int) ≤ k := by omega
  have h2 : (k : Int) ≤ 18446744073709551615 := by omega
  by_cases h : k < 9223372036854775808
  · have hr := of_low k h
    have h1 : (k : Int) < 9223372036854775808 := by omega
    clear h
    generalize bitsAt k = r at *
    generalize (k : Int) = K at *
    clear hk
    go_enter Try.func13, Try.ntmps13
    go_wp2
    go_ret
    exact ⟨rfl, rfl⟩
  · have hr := of_high k h
    have h1 : 9223372036854775808 ≤ (k : Int) := by omega
    clear h
    generalize bitsAt k = r at *
    generalize (k : Int) = K at *
    clear hk
    go_enter Try.func13, Try.ntmps13
    go_wp2
    go_ret
    exact ⟨rfl, rfl⟩

set_option maxHeartbeats 400000 in
theorem refof_any (k : Nat) (hk : k < 18446744073709551616) (w : World) : Calls Try.prog 16 #[.int .u64 (k : Int)] w fun e w' => e = .returned (.float .f64 (bitsAt k)) ∧ w = w' := by
  have h0 : (0 : Int) ≤ k := by omega
  have h2 : (k : Int) ≤ 18446744073709551615 := by omega
  by_cases h : k < 9223372036854775808
  · have hr := of_low k h
    have h1 : (k : Int) < 9223372036854775808 := by omega
    clear h
    generalize bitsAt k = r at *
    generalize (k : Int) = K at *
    clear hk
    go_enter Try.func16, Try.ntmps16
    go_wp2
    go_ret
    exact ⟨rfl, rfl⟩
  · have hr := of_high k h
    have h1 : 9223372036854775808 ≤ (k : Int) := by omega
    clear h
    generalize bitsAt k = r at *
    generalize (k : Int) = K at *
    clear hk
    go_enter Try.func16, Try.ntmps16
    go_wp2
    go_ret
    exact ⟨rfl, rfl⟩
end Go.Proofs.Ytidjpemdapimjaa.Fr
