/-
  That the law FareOne answers true and changes nothing. Conditions: as the theorem states.
-/
import Derived.Test.YtidjpemdapimjaaFareLaws
namespace Go.Proofs.Ytidjpemdapimjaa.Fr
open Go.RowKit

set_option maxHeartbeats 1600000 in
theorem one_walk (a b c : Nat) (ha : a < 18446744073709551616) (hb : b < 18446744073709551616) (hc : c < 18446744073709551616) (w : World) : Calls Try.prog 8 #[.float .f64 a, .float .f64 b, .float .f64 c] w (IsTrue w) := by
  obtain ⟨x, y, z, e1, e2, e3, z0, b0, b1, t1, t2, t3, e4⟩ := ordI_three (key a) (key b) (key c)
  obtain ⟨r, _, _, e5, d1, d2, d0, c0, c1, d3, d4, d5, e6⟩ := ordI_three (rv a) (rv b) (rv b)
  clear d0 d1 d2 d3 d4 d5
  obtain ⟨A, B, C, D, q1, q2, q3, q4, q5⟩ := ways3 a b ha hb
  rw [show rk a b = r from e5, show ordF a b = x from e1] at q5
  have E1 := Lib.hid (show ordF a b = x from e1)
  have E2 := Lib.hid (show ordF b c = y from e2)
  have E3 := Lib.hid (show ordF a c = z from e3)
  have E4 := Lib.hid (show ordF b a = -x from e4)
  have E5 := Lib.hid (show rk a b = r from e5)
  have E6 := Lib.hid (show rk b a = -r from e6)
  clear e1 e2 e3 e4 e5 e6 t2
  have hxyz : (x = -1 ∧ y ≤ 0 ∧ z = -1) ∨ (x = -1 ∧ 0 < y) ∨ (x = 0 ∧ y ≤ 0 ∧ z ≤ 0) ∨ (x = 0 ∧ 0 < y) ∨ x = 1 := by omega
  have hABCD : A = false ∨ (A = true ∧ B = false) ∨ (A = true ∧ B = true ∧ C = false ∧ D = false) ∨ (A = true ∧ B = true ∧ C = true ∧ r = x) ∨ (A = true ∧ B = true ∧ C = false ∧ D = true ∧ r = x) := by
    cases A <;> cases B <;> cases C <;> cases D <;> simp_all
  clear t1 t3 q5 b0 b1 z0
  rcases hABCD with rfl | ⟨rfl, rfl⟩ | ⟨rfl, rfl, rfl, rfl⟩ | ⟨rfl, rfl, rfl, rfl⟩ | ⟨rfl, rfl, rfl, rfl, rfl⟩ <;> rcases hxyz with ⟨rfl, h1, rfl⟩ | ⟨rfl, h1⟩ | ⟨rfl, h1, h2⟩ | ⟨rfl, h1⟩ | rfl
  all_goals
    go_enter Try.func8, Try.ntmps8
    go_wp2_with (first | (go_at_call 17; ((first | (with_reducible refine (order_one _).mono ?_) | (with_reducible refine (order_any _ _ (by assumption) (by assumption) _).mono ?_)); rintro e w' ⟨rfl, rfl⟩; (first | rw [E1.out] | rw [E2.out] | rw [E3.out] | rw [E4.out] | skip))) | (go_at_call 18; ((with_reducible refine (rank_any _ _ _).mono ?_); rintro e w' ⟨rfl, rfl⟩; (first | rw [E5.out] | rw [E6.out]))))
    go_ret
    exact ⟨rfl, rfl⟩
end Go.Proofs.Ytidjpemdapimjaa.Fr
