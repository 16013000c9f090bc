/-
  That the law FareRises answers true and changes no memory that was there. Conditions: as the theorem states.
-/
import Derived.Test.YtidjpemdapimjaaFareRise
namespace Go.Proofs.Ytidjpemdapimjaa.Fr
open Go.RowKit

theorem rise_facts (a b : Nat) (ha : a < 18446744073709551616) (hb : b < 18446744073709551616) (lo hi : Int) (h : lo ≤ hi) : ∃ x y z e g : Int, ∃ A B : Bool, LV a lo = x ∧ LV b lo = y ∧ LV a hi = z ∧ lvErr lo = e ∧ lvErr hi = g ∧
    (FloatKind.f64.format.order a b == some .lt) = A ∧ (FloatKind.f64.format.order b a == some .lt) = B ∧
    (e = 1 ∨ (e = 0 ∧ g = 1) ∨ (e = 0 ∧ g = 0 ∧ 0 ≤ x ∧ x ≤ lo ∧ z ≤ hi ∧ x ≤ z ∧ ((A = true ∧ B = false ∧ x ≤ y) ∨ (A = false ∧ B = true ∧ y ≤ x) ∨ (A = false ∧ B = false)))) := by
  refine ⟨_, _, _, _, _, _, _, rfl, rfl, rfl, rfl, rfl, rfl, rfl, ?_⟩
  by_cases h1 : lo < 0 ∨ 10000 < lo
  · exact Or.inl (LV_out (x := a) h1).2
  · by_cases h2 : 10000 < hi
    · exact Or.inr (Or.inl ⟨lvErr_in (by omega) (by omega), (LV_out (x := a) (Or.inr h2)).2⟩)
    · have b1 := LV_bd a ha lo (by omega) (by omega)
      have b2 := LV_bd a ha hi (by omega) (by omega)
      have b3 := LV_more a ha lo hi (by omega) h (by omega)
      refine Or.inr (Or.inr ⟨lvErr_in (by omega) (by omega), lvErr_in (by omega) (by omega), b1.1, b1.2, b2.2, b3, ?_⟩)
      have u1 := LV_up a b ha hb lo (by omega) (by omega)
      have u2 := LV_up b a hb ha lo (by omega) (by omega)
      have n : ¬ ((FloatKind.f64.format.order a b == some .lt) = true ∧ (FloatKind.f64.format.order b a == some .lt) = true) := by
        rw [f_lt, f_lt]
        simp
        intros
        omega
      cases hA : (FloatKind.f64.format.order a b == some .lt) <;> cases hB : (FloatKind.f64.format.order b a == some .lt) <;> simp_all

set_option maxHeartbeats 3200000 in
theorem rises_walk (a b : Nat) (p q : Int) (ha : a < 18446744073709551616) (hb : b < 18446744073709551616) (w : World) : Calls Try.prog 9 #[.float .f64 a, .float .f64 b, .agg #[.int .i64 p, .int .i64 q]] w (IsTrueB w) := by
  rcases Int.lt_trichotomy p q with hpq | hpq | hpq
  · obtain ⟨x, y, z, e, g, A, B, h1, h2, h3, h4, h5, h6, h7, h⟩ := rise_facts a b ha hb p q (by omega)
    have H1 := Lib.hid h1
    have H2 := Lib.hid h2
    have H3 := Lib.hid h3
    have H4 := Lib.hid h4
    have H5 := Lib.hid h5
    clear h1 h2 h3 h4 h5
    have hn : ¬ q < p := by omega
    rcases h with rfl | ⟨rfl, rfl⟩ | ⟨rfl, rfl, t1, t2, t3, t4, ⟨rfl, rfl, t5⟩ | ⟨rfl, rfl, t5⟩ | ⟨rfl, rfl⟩⟩
    all_goals
      go_enter Try.func9, Try.ntmps9
      go_wp2_with (go_at_call 21; ((first | (with_reducible refine (level_one _).mono ?_) | (with_reducible refine (level_call _ ha _ _ _ H1.out H4.out _).mono ?_) | (with_reducible refine (level_call _ hb _ _ _ H2.out H4.out _).mono ?_) | (with_reducible refine (level_call _ ha _ _ _ H3.out H5.out _).mono ?_)); rintro r w' ⟨rfl, rfl⟩))
      go_ret
      exact ⟨by simp, (Below.refl _ _).alloc (Nat.le_refl _) _⟩
  · subst hpq
    obtain ⟨x, y, z, e, g, A, B, h1, h2, h3, h4, h5, h6, h7, h⟩ := rise_facts a b ha hb p p (by omega)
    have H1 := Lib.hid h1
    have H2 := Lib.hid h2
    have H3 := Lib.hid h3
    have H4 := Lib.hid h4
    have H5 := Lib.hid h5
    clear h1 h2 h3 h4 h5
    obtain rfl : z = x := by rw [← H3.out, ← H1.out]
    obtain rfl : g = e := by rw [← H5.out, ← H4.out]
    rcases h with rfl | ⟨rfl, r⟩ | ⟨rfl, r, t1, t2, t3, t4, ⟨rfl, rfl, t5⟩ | ⟨rfl, rfl, t5⟩ | ⟨rfl, rfl⟩⟩
    any_goals (cases r; done)
    all_goals
      try clear r
      go_enter Try.func9, Try.ntmps9
      go_wp2_with (go_at_call 21; ((first | (with_reducible refine (level_one _).mono ?_) | (with_reducible refine (level_call _ ha _ _ _ H1.out H4.out _).mono ?_) | (with_reducible refine (level_call _ hb _ _ _ H2.out H4.out _).mono ?_) | (with_reducible refine (level_call _ ha _ _ _ H3.out H5.out _).mono ?_)); rintro r w' ⟨rfl, rfl⟩))
      go_ret
      exact ⟨by simp, (Below.refl _ _).alloc (Nat.le_refl _) _⟩
  · obtain ⟨x, y, z, e, g, A, B, h1, h2, h3, h4, h5, h6, h7, h⟩ := rise_facts a b ha hb q p (by omega)
    have H1 := Lib.hid h1
    have H2 := Lib.hid h2
    have H3 := Lib.hid h3
    have H4 := Lib.hid h4
    have H5 := Lib.hid h5
    clear h1 h2 h3 h4 h5
    have hn : ¬ p < q := by omega
    rcases h with rfl | ⟨rfl, rfl⟩ | ⟨rfl, rfl, t1, t2, t3, t4, ⟨rfl, rfl, t5⟩ | ⟨rfl, rfl, t5⟩ | ⟨rfl, rfl⟩⟩
    all_goals
      go_enter Try.func9, Try.ntmps9
      go_wp2_with (go_at_call 21; ((first | (with_reducible refine (level_one _).mono ?_) | (with_reducible refine (level_call _ ha _ _ _ H1.out H4.out _).mono ?_) | (with_reducible refine (level_call _ hb _ _ _ H2.out H4.out _).mono ?_) | (with_reducible refine (level_call _ ha _ _ _ H3.out H5.out _).mono ?_)); rintro r w' ⟨rfl, rfl⟩))
      go_ret
      exact ⟨by simp, (Below.refl _ _).alloc (Nat.le_refl _) _⟩
end Go.Proofs.Ytidjpemdapimjaa.Fr
