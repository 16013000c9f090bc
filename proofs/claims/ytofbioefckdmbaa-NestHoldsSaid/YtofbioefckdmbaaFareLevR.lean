/-
  What the document's own Level answers for whatever it is called with; that the law FareLevels answers true and changes nothing. Conditions: as each theorem states.
-/
import Derived.Test.YtofbioefckdmbaaFareLevel
import Derived.Test.YtofbioefckdmbaaFareOpen
namespace Go.Proofs.Ytofbioefckdmbaa.Fr
open Go.RowKit

/-- The test of the document's loop: is the next whole number at most the product? -/
theorem step_test (x S n : Nat) (hx : x < oneB) (hS : S ≤ 10000) (hn : n < S) :
    (FloatKind.f64.format.order (fi (n + 1)) (pr x S) == some .lt || FloatKind.f64.format.order (fi (n + 1)) (pr x S) == some .eq) = decide (n + 1 ≤ lv x S) := by
  have hS' : S < 2 ^ 53 := by omega
  obtain ⟨h1, h2⟩ := pr_le x S (Nat.le_of_lt hx) hS'
  obtain ⟨_, h3⟩ := fi_of (n + 1) (by omega)
  have h4 := fi_le_pr x S (n + 1) (by omega)
  rw [f_lt, f_eq]
  generalize lv x S = L at *
  generalize pr x S = p at *
  generalize fi (n + 1) = f at *
  generalize fi S = g at *
  have t1 := rg_of p (by omega)
  have t2 := rg_of f (by omega)
  have n1 : nn p = false := by unfold nn; rw [t1.1]; simp; omega
  have n2 : nn f = false := by unfold nn; rw [t2.1]; simp; omega
  have s1 : sv p = (p : Int) := by unfold sv sgn; rw [t1.1, t1.2]; rfl
  have s2 : sv f = (f : Int) := by unfold sv sgn; rw [t2.1, t2.2]; rfl
  rw [n1, n2, s1, s2, Bool.eq_iff_iff]
  simp
  omega

set_option maxHeartbeats 800000 in
theorem reflevel_some (x S p L : Nat) (F : Nat → Nat) (hS : S ≤ 10000) (hle : L ≤ S) (n1 : (FloatKind.f64.format.order x x != some .eq) = false) (k2 : (FloatKind.f64.format.order x 0 == some .lt) = false) (k3 : (FloatKind.f64.format.order x 0 == some .eq) = false)
    (k4 : (FloatKind.f64.format.order x 4607182418800017408 == some .gt) = false) (k5 : (FloatKind.f64.format.order x 4607182418800017408 == some .eq) = false)
    (hF : Hid (∀ n : Nat, n ≤ 10000 → floatOfInt .f64 (n : Int) = F n)) (q2 : ∀ w, (binOp .mul 41 (.float .f64 x) (.float .f64 (F S))).run Try.prog w = .ok (.float .f64 p) w)
    (HT : Hid (∀ n : Nat, n < S → (FloatKind.f64.format.order (F (n + 1)) p == some .lt || FloatKind.f64.format.order (F (n + 1)) p == some .eq) = decide (n + 1 ≤ L))) (w : World) :
    Calls Try.prog 24 #[.float .f64 x, .int .i64 (S : Int)] w fun e w' => e = Lvl (L : Int) 0 ∧ w = w' := by
  have q1 := hF.out S hS
  go_enter Try.func24, Try.ntmps24
  go_wp2
  clear q1 q2
  go_loop [7] (fun t => ∃ n : Nat, t = .int .i64 (n : Int) ∧ n ≤ L) (fun t => S - (intOf t).toNat)
  case atStart => exact ⟨0, rfl, Nat.zero_le _⟩
  case round =>
    obtain ⟨n, rfl, hn⟩ := hrel
    by_cases hlt : n < S
    · have c1 := hF.out (n + 1) (by omega)
      rw [show ((n + 1 : Nat) : Int) = (n : Int) + 1 by omega] at c1
      have c2 := HT.out n hlt
      generalize F (n + 1) = f at *
      by_cases hL : n + 1 ≤ L
      · rw [decide_eq_true hL] at c2
        cases hc : (FloatKind.f64.format.order f p == some .lt) with
        | true =>
          clear c2
          go_wp2
          go_round
          case rel => exact ⟨n + 1, by go_num, hL⟩
          case measure => simp [intOf]; omega
        | false =>
          rw [hc, Bool.false_or] at c2
          go_wp2
          go_round
          case rel => exact ⟨n + 1, by go_num, hL⟩
          case measure => simp [intOf]; omega
      · rw [decide_eq_false hL, Bool.or_eq_false_iff] at c2
        obtain ⟨c3, c4⟩ := c2
        obtain rfl : n = L := by omega
        go_wp2
        go_ret2
        exact ⟨rfl, rfl⟩
    · obtain rfl : n = L := by omega
      go_wp2
      go_ret2
      exact ⟨rfl, rfl⟩

set_option maxHeartbeats 800000 in
theorem reflevel_any (x : Nat) (hx : x < 18446744073709551616) (s : Int) (w : World) : Calls Try.prog 24 #[.float .f64 x, .int .i64 s] w fun e w' => e = Lvl (LV x s) (lvErr s) ∧ w = w' := by
  have n1 := f_nan x
  by_cases h0 : s < 0
  · have HS := Lib.hid (LV_out (x := x) (Or.inl h0))
    go_enter Try.func24, Try.ntmps24
    go_wp2
    go_ret2
    exact ⟨by rw [HS.out.1, HS.out.2]; rfl, rfl⟩
  by_cases h1 : 10000 < s
  · have HS := Lib.hid (LV_out (x := x) (Or.inr h1))
    go_enter Try.func24, Try.ntmps24
    go_wp2
    go_ret2
    exact ⟨by rw [HS.out.1, HS.out.2]; rfl, rfl⟩
  have g0 : 0 ≤ s := by omega
  have g1 : s ≤ 10000 := by omega
  have HE := Lib.hid (lvErr_in g0 g1)
  rcases parts x hx with k1 | ⟨k1, k2, k3, k4⟩ | ⟨k1, k2, k3, k4⟩ | ⟨k1, k2, k3, k4, k5, k6, k7⟩ | ⟨k1, k2, k3, k4, k5, k6, k7⟩ | ⟨k1, k2, k3, k4, k5, k6, k7, k8⟩
  · have HS := Lib.hid (LV_none g0 g1 (Or.inl k1))
    rw [k1] at n1
    go_enter Try.func24, Try.ntmps24
    go_wp2
    go_ret2
    exact ⟨by rw [HS.out, HE.out]; rfl, rfl⟩
  · have HS := Lib.hid (LV_none g0 g1 (Or.inr k4))
    rw [k1] at n1
    clear k4
    go_enter Try.func24, Try.ntmps24
    go_wp2
    go_ret2
    exact ⟨by rw [HS.out, HE.out]; rfl, rfl⟩
  · have HS := Lib.hid (LV_none g0 g1 (Or.inr k4))
    rw [k1] at n1
    clear k4
    go_enter Try.func24, Try.ntmps24
    go_wp2
    go_ret2
    exact ⟨by rw [HS.out, HE.out]; rfl, rfl⟩
  · have HS := Lib.hid (LV_all g0 g1 k1 k6 k7)
    rw [k1] at n1
    clear k6 k7
    go_enter Try.func24, Try.ntmps24
    go_wp2
    go_ret2
    exact ⟨by rw [HS.out, HE.out]; rfl, rfl⟩
  · have HS := Lib.hid (LV_all g0 g1 k1 k6 k7)
    rw [k1] at n1
    clear k6 k7
    go_enter Try.func24, Try.ntmps24
    go_wp2
    go_ret2
    exact ⟨by rw [HS.out, HE.out]; rfl, rfl⟩
  · have HS := Lib.hid (LV_some g0 g1 k1 k6 k7)
    rw [k1] at n1
    obtain ⟨S, rfl⟩ : ∃ S : Nat, s = (S : Int) := ⟨s.toNat, by omega⟩
    have hS : S ≤ 10000 := by omega
    have h := reflevel_some x S (pr x S) (lv x S) fi hS (lv_le x S (Nat.le_of_lt k8) (by omega)) n1 k2 k3 k4 k5 (Lib.hid fun n hn => floatOfInt_fi n (by omega)) (run_mul_fi x S k8 (by omega)) (Lib.hid fun n hn => step_test x S n k8 hS hn) w
    refine h.mono fun e w' ⟨he, hw⟩ => ⟨?_, hw⟩
    rw [he, HE.out]
    have h2 := HS.out
    rw [Int.toNat_natCast] at h2
    rw [h2]
end Go.Proofs.Ytofbioefckdmbaa.Fr
