/-
  What the function Level of package fare, and the document's own, answer for whatever they are called with. Conditions: as each theorem states.
-/
import Derived.Test.YtofbioefckdmbaaFareLvl
namespace Go.Proofs.Ytofbioefckdmbaa.Fr
open Go.RowKit

def lvErr (s : Int) : Int := if s < 0 ∨ 10000 < s then 1 else 0
def LV (x : Nat) (s : Int) : Int := if s < 0 ∨ 10000 < s then 0 else if nn x = true ∨ sv x ≤ 0 then 0 else if (oneB : Int) ≤ sv x then s else (lv x s.toNat : Int)

/-- (n, an error's number) -/
def Lvl (n e : Int) : Ending := .returned (.tuple #[.int .i64 n, .int .i64 e])
theorem lvl_eq {n e n' e' : Int} (h : n = n') (g : e = e') : Lvl n e = Lvl n' e' := by rw [h, g]

theorem sv_one : sv 4607182418800017408 = (oneB : Int) := by decide
theorem nn_one : nn 4607182418800017408 = false := by decide
theorem sv_nought : sv 0 = 0 := by decide
theorem nn_nought : nn 0 = false := by decide
theorem sv_pos (x : Nat) (hx : x < 18446744073709551616) (h : 0 < sv x) : sv x = (x : Int) ∧ x < 9223372036854775808 := by
  unfold sv sgn at *
  by_cases h1 : x < 9223372036854775808
  · rw [show ng x = false by unfold ng; simp; omega] at *
    simp at *
    unfold rg at *
    omega
  · rw [show ng x = true by unfold ng; simp; omega] at *
    simp at *
    unfold rg at *
    omega

/-- The ways of a part. -/
theorem parts (x : Nat) (hx : x < 18446744073709551616) : nn x = true ∨
    (nn x = false ∧ (FloatKind.f64.format.order x 0 == some .lt) = true ∧ (FloatKind.f64.format.order x 0 == some .eq) = false ∧ sv x ≤ 0) ∨
    (nn x = false ∧ (FloatKind.f64.format.order x 0 == some .lt) = false ∧ (FloatKind.f64.format.order x 0 == some .eq) = true ∧ sv x ≤ 0) ∨
    (nn x = false ∧ (FloatKind.f64.format.order x 0 == some .lt) = false ∧ (FloatKind.f64.format.order x 0 == some .eq) = false ∧ (FloatKind.f64.format.order x 4607182418800017408 == some .gt) = true ∧ (FloatKind.f64.format.order x 4607182418800017408 == some .eq) = false ∧ 0 < sv x ∧ (oneB : Int) ≤ sv x) ∨
    (nn x = false ∧ (FloatKind.f64.format.order x 0 == some .lt) = false ∧ (FloatKind.f64.format.order x 0 == some .eq) = false ∧ (FloatKind.f64.format.order x 4607182418800017408 == some .gt) = false ∧ (FloatKind.f64.format.order x 4607182418800017408 == some .eq) = true ∧ 0 < sv x ∧ (oneB : Int) ≤ sv x) ∨
    (nn x = false ∧ (FloatKind.f64.format.order x 0 == some .lt) = false ∧ (FloatKind.f64.format.order x 0 == some .eq) = false ∧ (FloatKind.f64.format.order x 4607182418800017408 == some .gt) = false ∧ (FloatKind.f64.format.order x 4607182418800017408 == some .eq) = false ∧ 0 < sv x ∧ ¬ (oneB : Int) ≤ sv x ∧ x < oneB) := by
  have ho : (oneB : Int) = 4607182418800017408 := rfl
  rw [f_lt, f_eq, f_gt, f_eq, sv_one, nn_one, sv_nought, nn_nought]
  cases nn x with
  | true => simp
  | false =>
    simp
    rcases Int.lt_trichotomy (sv x) 0 with h | h | h
    · left; omega
    · right; left; omega
    · have hp := sv_pos x hx h
      right; right
      rcases Int.lt_trichotomy (sv x) (oneB : Int) with g | g | g
      · right; right; omega
      · right; left; omega
      · left; omega

theorem run_mul_fi (x S : Nat) (hx : x < oneB) (hS : S < 2 ^ 53) (w : World) : (binOp .mul 41 (.float .f64 x) (.float .f64 (fi S))).run Try.prog w = .ok (.float .f64 (pr x S)) w := by
  refine run_float_arith w .mul 41 .f64 x (fi S) (pr x S) ?_
  show Ieee.double.mul x (fi S) = some (pr x S)
  obtain ⟨h1, h2⟩ := pr_le x S (Nat.le_of_lt hx) hS
  rw [mul_fi x S (Nat.lt_trans hx (by decide)) hS]
  show some (min (pr x S) top) = _
  rw [Nat.min_eq_left (by omega)]
theorem lv_def (x s : Nat) : lv x s = V (pr x s) / un := by unfold lv; rfl
theorem run_int_of (p n : Nat) (h : (Ieee.double.read p).toInt .zero = some ((n : Nat) : Int)) (hn : n ≤ 10000) (w : World) : (convert 41 3 (.float .f64 p)).run Try.prog w = .ok (.int .i64 (n : Int)) w := by
  refine run_convert_float_int w 41 3 .f64 .i64 p (n : Int) (by kernel_rfl) Try.underlying3 ?_
  have e : (FloatKind.f64.decode p).toInt .zero = some ((n : Nat) : Int) := h
  unfold floatToIntVal
  rw [e]
  have h1 : IntKind.min .i64 ≤ (n : Int) ∧ (n : Int) ≤ IntKind.max .i64 := by
    simp only [IntKind.min, IntKind.max, IntKind.signed, IntKind.bits]
    simp
    omega
  simp [h1]
  omega
theorem run_int_pr (x S : Nat) (hx : x < oneB) (hS : S ≤ 10000) (w : World) : (convert 41 3 (.float .f64 (pr x S))).run Try.prog w = .ok (.int .i64 (lv x S : Int)) w := by
  have hS' : S < 2 ^ 53 := by omega
  obtain ⟨h1, h2⟩ := pr_le x S (Nat.le_of_lt hx) hS'
  have h3 := lv_le x S (Nat.le_of_lt hx) hS'
  have h4 := toInt_V (pr x S) (by omega)
  rw [← lv_def] at h4
  exact run_int_of (pr x S) (lv x S) h4 (by omega) w

theorem LV_out {x : Nat} {s : Int} (h : s < 0 ∨ 10000 < s) : LV x s = 0 ∧ lvErr s = 1 := by
  unfold LV lvErr; rw [if_pos h, if_pos h]; exact ⟨rfl, rfl⟩
theorem lvErr_in {s : Int} (h : 0 ≤ s) (g : s ≤ 10000) : lvErr s = 0 := by
  unfold lvErr; rw [if_neg (by omega)]
theorem LV_none {x : Nat} {s : Int} (h : 0 ≤ s) (g : s ≤ 10000) (k : nn x = true ∨ sv x ≤ 0) : LV x s = 0 := by
  unfold LV; rw [if_neg (by omega), if_pos k]
theorem LV_all {x : Nat} {s : Int} (h : 0 ≤ s) (g : s ≤ 10000) (k : nn x = false) (k' : 0 < sv x) (k2 : (oneB : Int) ≤ sv x) : LV x s = s := by
  unfold LV; rw [if_neg (by omega), if_neg (by rw [k]; simp; omega), if_pos k2]
theorem LV_some {x : Nat} {s : Int} (h : 0 ≤ s) (g : s ≤ 10000) (k : nn x = false) (k' : 0 < sv x) (k2 : ¬ (oneB : Int) ≤ sv x) : LV x s = (lv x s.toNat : Int) := by
  unfold LV; rw [if_neg (by omega), if_neg (by rw [k]; simp; omega), if_neg k2]

set_option maxHeartbeats 800000 in
theorem level_any (x : Nat) (hx : x < 18446744073709551616) (s : Int) (w : World) : Calls Try.prog 23 #[.float .f64 x, .int .i64 s] w fun e w' => e = Lvl (LV x s) (lvErr s) ∧ w = w' := by
  by_cases h0 : s < 0
  · have HS := Lib.hid (LV_out (x := x) (Or.inl h0))
    go_enter Try.func23, Try.ntmps23
    go_wp2
    go_ret2
    exact ⟨by rw [HS.out.1, HS.out.2]; rfl, rfl⟩
  by_cases h1 : 10000 < s
  · have HS := Lib.hid (LV_out (x := x) (Or.inr h1))
    go_enter Try.func23, Try.ntmps23
    go_wp2
    go_ret2
    exact ⟨by rw [HS.out.1, HS.out.2]; rfl, rfl⟩
  have g0 : 0 ≤ s := by omega
  have g1 : s ≤ 10000 := by omega
  have HE := Lib.hid (lvErr_in g0 g1)
  rcases parts x hx with k1 | ⟨k1, k2, k3, k4⟩ | ⟨k1, k2, k3, k4⟩ | ⟨k1, k2, k3, k4, k5, k6, k7⟩ | ⟨k1, k2, k3, k4, k5, k6, k7⟩ | ⟨k1, k2, k3, k4, k5, k6, k7, k8⟩
  · have HS := Lib.hid (LV_none g0 g1 (Or.inl k1))
    go_enter Try.func23, Try.ntmps23
    go_wp2_with (go_at_call 33; refine (nan_any _ _).mono ?_; rintro e w' ⟨rfl, rfl⟩)
    go_ret2
    exact ⟨by rw [HS.out, HE.out]; rfl, rfl⟩
  · have HS := Lib.hid (LV_none g0 g1 (Or.inr k4))
    clear k4
    go_enter Try.func23, Try.ntmps23
    go_wp2_with (go_at_call 33; refine (nan_any _ _).mono ?_; rintro e w' ⟨rfl, rfl⟩)
    go_ret2
    exact ⟨by rw [HS.out, HE.out]; rfl, rfl⟩
  · have HS := Lib.hid (LV_none g0 g1 (Or.inr k4))
    clear k4
    go_enter Try.func23, Try.ntmps23
    go_wp2_with (go_at_call 33; refine (nan_any _ _).mono ?_; rintro e w' ⟨rfl, rfl⟩)
    go_ret2
    exact ⟨by rw [HS.out, HE.out]; rfl, rfl⟩
  · have HS := Lib.hid (LV_all g0 g1 k1 k6 k7)
    clear k6 k7
    go_enter Try.func23, Try.ntmps23
    go_wp2_with (go_at_call 33; refine (nan_any _ _).mono ?_; rintro e w' ⟨rfl, rfl⟩)
    go_ret2
    exact ⟨by rw [HS.out, HE.out]; rfl, rfl⟩
  · have HS := Lib.hid (LV_all g0 g1 k1 k6 k7)
    clear k6 k7
    go_enter Try.func23, Try.ntmps23
    go_wp2_with (go_at_call 33; refine (nan_any _ _).mono ?_; rintro e w' ⟨rfl, rfl⟩)
    go_ret2
    exact ⟨by rw [HS.out, HE.out]; rfl, rfl⟩
  · have HS := Lib.hid (LV_some g0 g1 k1 k6 k7)
    obtain ⟨S, rfl⟩ : ∃ S : Nat, s = (S : Int) := ⟨s.toNat, by omega⟩
    have q1 := floatOfInt_fi S (by omega)
    have q2 := run_mul_fi x S k8 (by omega)
    have q3 := run_int_pr x S k8 (by omega)
    clear k6 k7
    go_enter Try.func23, Try.ntmps23
    go_wp2_with (go_at_call 33; refine (nan_any _ _).mono ?_; rintro e w' ⟨rfl, rfl⟩)
    go_ret2
    exact ⟨by rw [HS.out, HE.out]; rfl, rfl⟩
end Go.Proofs.Ytofbioefckdmbaa.Fr
