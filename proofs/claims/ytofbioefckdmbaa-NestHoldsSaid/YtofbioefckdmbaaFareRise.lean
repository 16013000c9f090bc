/-
  That the laws FareLevels and FareRises answer true and change no memory that was there. Conditions: as each theorem states.
-/
import Derived.Test.YtofbioefckdmbaaFareLevR
namespace Go.Proofs.Ytofbioefckdmbaa.Fr
open Go.RowKit

theorem LV_one : LV 4607182418800017408 1 = 1 ∧ lvErr 1 = 0 :=
  ⟨LV_all (by omega) (by omega) nn_one (by rw [sv_one]; decide) (by rw [sv_one]; omega), lvErr_in (by omega) (by omega)⟩

theorem level_call (x : Nat) (hx : x < 18446744073709551616) (s n e : Int) (hn : LV x s = n) (he : lvErr s = e) (w : World) : Calls Try.prog 23 #[.float .f64 x, .int .i64 s] w fun r w' => r = .returned (.tuple #[.int .i64 n, .int .i64 e]) ∧ w = w' :=
  (level_any x hx s w).mono fun r w' ⟨hr, hw⟩ => ⟨by rw [hr, hn, he]; rfl, hw⟩
theorem reflevel_call (x : Nat) (hx : x < 18446744073709551616) (s n e : Int) (hn : LV x s = n) (he : lvErr s = e) (w : World) : Calls Try.prog 24 #[.float .f64 x, .int .i64 s] w fun r w' => r = .returned (.tuple #[.int .i64 n, .int .i64 e]) ∧ w = w' :=
  (reflevel_any x hx s w).mono fun r w' ⟨hr, hw⟩ => ⟨by rw [hr, hn, he]; rfl, hw⟩
theorem level_one (w : World) : Calls Try.prog 23 #[.float .f64 4607182418800017408, .int .i64 1] w fun r w' => r = .returned (.tuple #[.int .i64 1, .int .i64 0]) ∧ w = w' :=
  level_call _ (by decide) 1 1 0 LV_one.1 LV_one.2 w

theorem LV_bd (x : Nat) (hx : x < 18446744073709551616) (s : Int) (h : 0 ≤ s) (g : s ≤ 10000) : 0 ≤ LV x s ∧ LV x s ≤ s := by
  rcases parts x hx with k1 | ⟨k1, _, _, k4⟩ | ⟨k1, _, _, k4⟩ | ⟨k1, _, _, _, _, k6, k7⟩ | ⟨k1, _, _, _, _, k6, k7⟩ | ⟨k1, _, _, _, _, k6, k7, k8⟩
  · rw [LV_none h g (Or.inl k1)]; omega
  · rw [LV_none h g (Or.inr k4)]; omega
  · rw [LV_none h g (Or.inr k4)]; omega
  · rw [LV_all h g k1 k6 k7]; omega
  · rw [LV_all h g k1 k6 k7]; omega
  · rw [LV_some h g k1 k6 k7]
    have := lv_le x s.toNat (Nat.le_of_lt k8) (by omega)
    omega
theorem LV_more (x : Nat) (hx : x < 18446744073709551616) (s t : Int) (h : 0 ≤ s) (hst : s ≤ t) (g : t ≤ 10000) : LV x s ≤ LV x t := by
  have hs : s ≤ 10000 := by omega
  have ht : 0 ≤ t := by omega
  rcases parts x hx with k1 | ⟨k1, _, _, k4⟩ | ⟨k1, _, _, k4⟩ | ⟨k1, _, _, _, _, k6, k7⟩ | ⟨k1, _, _, _, _, k6, k7⟩ | ⟨k1, _, _, _, _, k6, k7, k8⟩
  · rw [LV_none h hs (Or.inl k1), LV_none ht g (Or.inl k1)]; omega
  · rw [LV_none h hs (Or.inr k4), LV_none ht g (Or.inr k4)]; omega
  · rw [LV_none h hs (Or.inr k4), LV_none ht g (Or.inr k4)]; omega
  · rw [LV_all h hs k1 k6 k7, LV_all ht g k1 k6 k7]; omega
  · rw [LV_all h hs k1 k6 k7, LV_all ht g k1 k6 k7]; omega
  · rw [LV_some h hs k1 k6 k7, LV_some ht g k1 k6 k7]
    have := lv_mono (x := x) (y := x) (s := s.toNat) (t := t.toNat) (Nat.le_refl _) (by omega)
    omega
theorem LV_up (x y : Nat) (hx : x < 18446744073709551616) (hy : y < 18446744073709551616) (s : Int) (h : 0 ≤ s) (g : s ≤ 10000) (hl : (FloatKind.f64.format.order x y == some .lt) = true) : LV x s ≤ LV y s := by
  rw [f_lt] at hl
  simp at hl
  obtain ⟨⟨n1, n2⟩, hl⟩ := hl
  have by0 := LV_bd y hy s h g
  have bx0 := LV_bd x hx s h g
  by_cases h1 : sv x ≤ 0
  · rw [LV_none h g (Or.inr h1)]; omega
  · by_cases h2 : (oneB : Int) ≤ sv y
    · rw [LV_all h g n2 (by omega) h2]; omega
    · rw [LV_some h g n1 (by omega) (by omega), LV_some h g n2 (by omega) h2]
      have p1 := sv_pos x hx (by omega)
      have p2 := sv_pos y hy (by omega)
      have := lv_mono (x := x) (y := y) (s := s.toNat) (t := s.toNat) (by omega) (Nat.le_refl _)
      omega
end Go.Proofs.Ytofbioefckdmbaa.Fr
