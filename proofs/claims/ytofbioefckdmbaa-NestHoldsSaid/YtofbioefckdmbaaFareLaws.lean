/-
  That the laws FareKeys, FareOrders, FareBack, FareNext and FareRanks answer true and change nothing. Conditions: as each theorem states.
-/
import Derived.Test.YtofbioefckdmbaaFareOrd
import Derived.Below
namespace Go.Proofs.Ytofbioefckdmbaa.Fr
open Go.RowKit

theorem below_same {w w' : World} (h : w = w') : Below w.heap.size w w' := by subst h; exact Below.refl _ _
def IsTrue (w : World) (e : Ending) (w' : World) : Prop := e = .returned (.bool true) ∧ w = w'

theorem ordF_one : ordF 4607182418800017408 0 = 1 := ordI_gt (by decide)
theorem rk_one : rk 4607182418800017408 0 = 1 := ordI_gt (by decide)
/-- The bits at a place that is told as a whole number. -/
def at_ (k : Int) : Nat := bitsAt k.toNat
theorem at_lt (k : Int) (h0 : 0 ≤ k) (h1 : k ≤ 18446744073709551615) : at_ k < 18446744073709551616 := bitsAt_lt _ (by omega)
theorem key_at (k : Int) (h0 : 0 ≤ k) (h1 : k ≤ 18446744073709551615) : (key (at_ k) : Int) = k := by
  unfold at_; rw [key_bitsAt _ (by omega)]; omega
/-- three that stand in order -/
theorem ordI_three (a b c : Int) : ∃ x y z, ordI a b = x ∧ ordI b c = y ∧ ordI a c = z ∧ -1 ≤ z ∧ -1 ≤ x ∧ x ≤ 1 ∧ (x ≤ 0 → y ≤ 0 → z ≤ 0) ∧ (x = 0 → y = 0 → z = 0) ∧ (x < 0 → y ≤ 0 → ¬ z = 0) ∧ ordI b a = -x := by
  refine ⟨_, _, _, rfl, rfl, rfl, ?_⟩
  unfold ordI
  split <;> split <;> split <;> (try split) <;> (try split) <;> (try split) <;> (try split) <;> omega

theorem sv_key (x : Nat) (h : x < 18446744073709551616) : (0 ≤ sv x ∧ (key x : Int) = sv x + 9223372036854775808) ∨ (sv x ≤ 0 ∧ (key x : Int) = sv x + 9223372036854775807) := by
  unfold sv sgn ng rg key
  by_cases h1 : x < 9223372036854775808
  · rw [if_pos h1, show (x / 2 ^ 63 % 2 == 1) = false by simp; omega]
    left
    simp
    omega
  · rw [if_neg h1, show (x / 2 ^ 63 % 2 == 1) = true by simp; omega]
    right
    simp
    omega
theorem same_order (x y : Nat) (hx : x < 18446744073709551616) (hy : y < 18446744073709551616) (n1 : nn x = false) (n2 : nn y = false) (h : ¬ (sv x = 0 ∧ sv y = 0)) : rk x y = ordF x y := by
  have k1 := sv_key x hx
  have k2 := sv_key y hy
  unfold rk ordF rv
  rw [n1, n2]
  simp only [Bool.false_eq_true, if_false]
  unfold ordI
  split <;> split <;> (try split) <;> (try split) <;> omega

/-- What the walk of FareOne meets of two floats. -/
theorem ways3 (a b : Nat) (ha : a < 18446744073709551616) (hb : b < 18446744073709551616) : ∃ A B C D : Bool, (FloatKind.f64.format.order a a == some .eq) = A ∧ (FloatKind.f64.format.order b b == some .eq) = B ∧
    (FloatKind.f64.format.order a 0 != some .eq) = C ∧ (FloatKind.f64.format.order b 0 != some .eq) = D ∧ (A = true → B = true → (C = true ∨ D = true) → rk a b = ordF a b) := by
  refine ⟨_, _, _, _, f_eq a a, f_eq b b, f_ne a 0, f_ne b 0, fun h1 h2 h3 => ?_⟩
  simp at h1 h2
  refine same_order a b ha hb h1 h2 ?_
  have e : nn 0 = false := by decide
  have z : sv 0 = 0 := by decide
  simp [h1, h2, e, z] at h3
  omega

end Go.Proofs.Ytofbioefckdmbaa.Fr
