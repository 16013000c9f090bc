/-
  That the laws FareKeys, FareOrders, FareBack, FareNext and FareRanks answer true and change nothing. Conditions: as each theorem states.
-/
import Derived.Test.YtidjpemdapimjaaFareOrd
import Derived.Below
namespace Go.Proofs.Ytidjpemdapimjaa.Fr
open Go.RowKit

theorem below_same {w w' : World} (h : w = w') : Below w.heap.size w w' := by subst h; exact Below.refl _ _
def IsTrue (w : World) (e : Ending) (w' : World) : Prop := e = .returned (.bool true) ∧ w = w'

theorem ordF_one : ordF 4607182418800017408 0 = 1 := ordI_gt (by decide)
theorem rk_one : rk 4607182418800017408 0 = 1 := ordI_gt (by decide)
theorem order_one (w : World) : Calls Try.prog 17 #[.float .f64 4607182418800017408, .float .f64 0] w fun e w' => e = .returned (.int .i64 1) ∧ w = w' :=
  (order_any _ _ (by decide) (by decide) w).mono fun e w' ⟨he, hw⟩ => ⟨by rw [he, ordF_one], hw⟩
theorem rank_one (w : World) : Calls Try.prog 18 #[.float .f64 4607182418800017408, .float .f64 0] w fun e w' => e = .returned (.int .i64 1) ∧ w = w' :=
  (rank_any _ _ w).mono fun e w' ⟨he, hw⟩ => ⟨by rw [he, rk_one], hw⟩
theorem key_one (w : World) : Calls Try.prog 12 #[.float .f64 4607182418800017408] w fun e w' => e = .returned (.int .u64 13830554455654793216) ∧ w = w' :=
  (key_any _ (by decide) w).mono fun e w' ⟨he, hw⟩ => ⟨by rw [he]; rfl, hw⟩

/-- The bits at a place that is told as a whole number. -/
def at_ (k : Int) : Nat := bitsAt k.toNat
theorem at_lt (k : Int) (h0 : 0 ≤ k) (h1 : k ≤ 18446744073709551615) : at_ k < 18446744073709551616 := bitsAt_lt _ (by omega)
theorem key_at (k : Int) (h0 : 0 ≤ k) (h1 : k ≤ 18446744073709551615) : (key (at_ k) : Int) = k := by
  unfold at_; rw [key_bitsAt _ (by omega)]; omega
theorem of_at (k : Int) (h0 : 0 ≤ k) (h1 : k ≤ 18446744073709551615) (w : World) : Calls Try.prog 13 #[.int .u64 k] w fun e w' => e = .returned (.float .f64 (at_ k)) ∧ w = w' := by
  have := of_any k.toNat (by omega) w
  rwa [show ((k.toNat : Nat) : Int) = k by omega] at this
theorem refof_at (k : Int) (h0 : 0 ≤ k) (h1 : k ≤ 18446744073709551615) (w : World) : Calls Try.prog 16 #[.int .u64 k] w fun e w' => e = .returned (.float .f64 (at_ k)) ∧ w = w' := by
  have := refof_any k.toNat (by omega) w
  rwa [show ((k.toNat : Nat) : Int) = k by omega] at this
theorem keyof_at (k : Int) (h0 : 0 ≤ k) (h1 : k ≤ 18446744073709551615) (w : World) : Calls Try.prog 12 #[.float .f64 (at_ k)] w fun e w' => e = .returned (.int .u64 k) ∧ w = w' :=
  (key_any _ (at_lt k h0 h1) w).mono fun e w' ⟨he, hw⟩ => ⟨by rw [he, key_at k h0 h1], hw⟩
theorem order_at (a b : Int) (h0 : 0 ≤ a) (h1 : a ≤ 18446744073709551615) (g0 : 0 ≤ b) (g1 : b ≤ 18446744073709551615) (w : World) : Calls Try.prog 17 #[.float .f64 (at_ a), .float .f64 (at_ b)] w fun e w' => e = .returned (.int .i64 (ordI a b)) ∧ w = w' :=
  (order_any _ _ (at_lt a h0 h1) (at_lt b g0 g1) w).mono fun e w' ⟨he, hw⟩ => ⟨by rw [he]; unfold ordF; rw [key_at a h0 h1, key_at b g0 g1], hw⟩

set_option maxHeartbeats 800000 in
theorem keys_walk (x : Nat) (k : Int) (hx : x < 18446744073709551616) (h0 : 0 ≤ k) (h1 : k ≤ 18446744073709551615) (w : World) : Calls Try.prog 3 #[.float .f64 x, .int .u64 k] w (IsTrue w) := by
  have hr := run_bits (at_ k)
  go_enter Try.func3, Try.ntmps3
  go_wp2_with (first | (go_at_call 12; refine (key_any _ hx _).mono ?_; rintro e w' ⟨rfl, rfl⟩) | (go_at_call 14; refine (refkey_any _ hx _).mono ?_; rintro e w' ⟨rfl, rfl⟩) | (go_at_call 13; refine (of_at _ h0 h1 _).mono ?_; rintro e w' ⟨rfl, rfl⟩) | (go_at_call 16; refine (refof_at _ h0 h1 _).mono ?_; rintro e w' ⟨rfl, rfl⟩))
  go_ret
  exact ⟨by simp, rfl⟩

set_option maxHeartbeats 800000 in
theorem orders_walk (x y : Nat) (hx : x < 18446744073709551616) (hy : y < 18446744073709551616) (w : World) : Calls Try.prog 4 #[.float .f64 x, .float .f64 y] w (IsTrue w) := by
  go_enter Try.func4, Try.ntmps4
  go_wp2_with (first | (go_at_call 17; ((with_reducible refine (order_one _).mono ?_); rintro e w' ⟨rfl, rfl⟩)) | (go_at_call 17; refine (order_any _ _ hx hy _).mono ?_; rintro e w' ⟨rfl, rfl⟩) | (go_at_call 19; refine (reforder_any _ _ hx hy _).mono ?_; rintro e w' ⟨rfl, rfl⟩) | (go_at_call 18; ((with_reducible refine (rank_one _).mono ?_); rintro e w' ⟨rfl, rfl⟩)) | (go_at_call 18; refine (rank_any _ _ _).mono ?_; rintro e w' ⟨rfl, rfl⟩) | (go_at_call 20; refine (refrank_any _ _ _).mono ?_; rintro e w' ⟨rfl, rfl⟩))
  go_ret
  exact ⟨by simp, rfl⟩

set_option maxHeartbeats 800000 in
theorem next_walk (k : Int) (h0 : 0 ≤ k) (h1 : k ≤ 18446744073709551615) (w : World) : Calls Try.prog 11 #[.int .u64 k] w (IsTrue w) := by
  by_cases h : k = 18446744073709551615
  · subst h
    go_enter Try.func11, Try.ntmps11
    go_wp2_with (go_at_call 17; ((with_reducible refine (order_one _).mono ?_); rintro e w' ⟨rfl, rfl⟩))
    go_ret
    exact ⟨rfl, rfl⟩
  · have h2 : k + 1 ≤ 18446744073709551615 := by omega
    have h3 : 0 ≤ k + 1 := by omega
    have h4 : (k == 18446744073709551615) = false := by simpa using h
    have HS := Lib.hid (ordI_lt (show k < k + 1 by omega))
    clear h
    go_enter Try.func11, Try.ntmps11
    go_wp2_with (first | (go_at_call 17; ((with_reducible refine (order_one _).mono ?_); rintro e w' ⟨rfl, rfl⟩)) | (go_at_call 17; refine (order_at _ _ h0 h1 h3 h2 _).mono ?_; rintro e w' ⟨rfl, rfl⟩; rw [HS.out]) | (go_at_call 13; ((with_reducible refine (of_at _ h0 h1 _).mono ?_); rintro e w' ⟨rfl, rfl⟩)) | (go_at_call 13; refine (of_at _ h3 h2 _).mono ?_; rintro e w' ⟨rfl, rfl⟩) | (go_at_call 12; ((with_reducible refine (keyof_at _ h0 h1 _).mono ?_); rintro e w' ⟨rfl, rfl⟩)) | (go_at_call 12; refine (keyof_at _ h3 h2 _).mono ?_; rintro e w' ⟨rfl, rfl⟩))
    go_ret
    exact ⟨by simp; omega, rfl⟩

set_option maxHeartbeats 800000 in
theorem back_walk (a b : Int) (h0 : 0 ≤ a) (h1 : a ≤ 18446744073709551615) (g0 : 0 ≤ b) (g1 : b ≤ 18446744073709551615) (w : World) : Calls Try.prog 7 #[.int .u64 a, .int .u64 b] w (IsTrue w) := by
  rcases Int.lt_trichotomy a b with h | h | h
  · have HS := Lib.hid (ordI_lt h)
    have h3 : ¬ b < a := by omega
    go_enter Try.func7, Try.ntmps7
    go_wp2_with (first | (go_at_call 13; refine (of_at _ (by assumption) (by assumption) _).mono ?_; rintro e w' ⟨rfl, rfl⟩) | (go_at_call 12; ((with_reducible refine (key_one _).mono ?_); rintro e w' ⟨rfl, rfl⟩)) | (go_at_call 12; refine (keyof_at _ (by assumption) (by assumption) _).mono ?_; rintro e w' ⟨rfl, rfl⟩) | (go_at_call 17; refine (order_at _ _ h0 h1 g0 g1 _).mono ?_; rintro e w' ⟨rfl, rfl⟩; rw [HS.out]))
    go_ret
    exact ⟨by simp, rfl⟩
  · have HS := Lib.hid (ordI_eq h)
    have h2 : ¬ a < b := by omega
    have h3 : ¬ b < a := by omega
    clear h
    go_enter Try.func7, Try.ntmps7
    go_wp2_with (first | (go_at_call 13; refine (of_at _ (by assumption) (by assumption) _).mono ?_; rintro e w' ⟨rfl, rfl⟩) | (go_at_call 12; ((with_reducible refine (key_one _).mono ?_); rintro e w' ⟨rfl, rfl⟩)) | (go_at_call 12; refine (keyof_at _ (by assumption) (by assumption) _).mono ?_; rintro e w' ⟨rfl, rfl⟩) | (go_at_call 17; refine (order_at _ _ h0 h1 g0 g1 _).mono ?_; rintro e w' ⟨rfl, rfl⟩; rw [HS.out]))
    go_ret
    exact ⟨by simp, rfl⟩
  · have HS := Lib.hid (ordI_gt h)
    have h3 : ¬ a < b := by omega
    go_enter Try.func7, Try.ntmps7
    go_wp2_with (first | (go_at_call 13; refine (of_at _ (by assumption) (by assumption) _).mono ?_; rintro e w' ⟨rfl, rfl⟩) | (go_at_call 12; ((with_reducible refine (key_one _).mono ?_); rintro e w' ⟨rfl, rfl⟩)) | (go_at_call 12; refine (keyof_at _ (by assumption) (by assumption) _).mono ?_; rintro e w' ⟨rfl, rfl⟩) | (go_at_call 17; refine (order_at _ _ h0 h1 g0 g1 _).mono ?_; rintro e w' ⟨rfl, rfl⟩; rw [HS.out]))
    go_ret
    exact ⟨by simp, rfl⟩

/-- three that stand in order -/
theorem ordI_three (a b c : Int) : ∃ x y z, ordI a b = x ∧ ordI b c = y ∧ ordI a c = z ∧ -1 ≤ z ∧ -1 ≤ x ∧ x ≤ 1 ∧ (x ≤ 0 → y ≤ 0 → z ≤ 0) ∧ (x = 0 → y = 0 → z = 0) ∧ (x < 0 → y ≤ 0 → ¬ z = 0) ∧ ordI b a = -x := by
  refine ⟨_, _, _, rfl, rfl, rfl, ?_⟩
  unfold ordI
  split <;> split <;> split <;> (try split) <;> (try split) <;> (try split) <;> (try split) <;> omega

set_option maxHeartbeats 800000 in
theorem ranks_walk (a b c : Nat) (w : World) : Calls Try.prog 10 #[.float .f64 a, .float .f64 b, .float .f64 c] w (IsTrue w) := by
  obtain ⟨x, y, z, e1, e2, e3, _, b0, b1, t1, t2, _, _⟩ := ordI_three (rv a) (rv b) (rv c)
  have E1 := Lib.hid (show rk a b = x from e1)
  have E2 := Lib.hid (show rk b c = y from e2)
  have E3 := Lib.hid (show rk a c = z from e3)
  have T1 := Lib.hid t1
  have T2 := Lib.hid t2
  clear e1 e2 e3 t1 t2
  go_enter Try.func10, Try.ntmps10
  go_wp2_with (go_at_call 18; ((first | (with_reducible refine (rank_one _).mono ?_) | (with_reducible refine (rank_any _ _ _).mono ?_)); rintro e w' ⟨rfl, rfl⟩; (first | rw [E1.out] | rw [E2.out] | rw [E3.out] | skip)))
  all_goals go_ret
  all_goals exact ⟨by have t1 := T1.out; have t2 := T2.out; first | (simp; done) | (simp; omega), rfl⟩

theorem sv_key (x : Nat) (h : x < 18446744073709551616) : (0 ≤ sv x ∧ (key x : Int) = sv x + 9223372036854775808) ∨ (sv x ≤ 0 ∧ (key x : Int) = sv x + 9223372036854775807) := by
  unfold sv sgn ng rg key
  by_cases h1 : x < 9223372036854775808
  · rw [if_pos h1, show (x / 2 ^ 63 % 2 == 1) = false by simp; omega]
    left
    simp
    omega
  · rw [if_neg h1, show (x / 2 ^ 63 % 2 == 1) = true by simp; omega]
    right
    simp
    omega
theorem same_order (x y : Nat) (hx : x < 18446744073709551616) (hy : y < 18446744073709551616) (n1 : nn x = false) (n2 : nn y = false) (h : ¬ (sv x = 0 ∧ sv y = 0)) : rk x y = ordF x y := by
  have k1 := sv_key x hx
  have k2 := sv_key y hy
  unfold rk ordF rv
  rw [n1, n2]
  simp only [Bool.false_eq_true, if_false]
  unfold ordI
  split <;> split <;> (try split) <;> (try split) <;> omega

/-- What the walk of FareOne meets of two floats. -/
theorem ways3 (a b : Nat) (ha : a < 18446744073709551616) (hb : b < 18446744073709551616) : ∃ A B C D : Bool, (FloatKind.f64.format.order a a == some .eq) = A ∧ (FloatKind.f64.format.order b b == some .eq) = B ∧
    (FloatKind.f64.format.order a 0 != some .eq) = C ∧ (FloatKind.f64.format.order b 0 != some .eq) = D ∧ (A = true → B = true → (C = true ∨ D = true) → rk a b = ordF a b) := by
  refine ⟨_, _, _, _, f_eq a a, f_eq b b, f_ne a 0, f_ne b 0, fun h1 h2 h3 => ?_⟩
  simp at h1 h2
  refine same_order a b ha hb h1 h2 ?_
  have e : nn 0 = false := by decide
  have z : sv 0 = 0 := by decide
  simp [h1, h2, e, z] at h3
  omega

end Go.Proofs.Ytidjpemdapimjaa.Fr
