/-
  The level, as a number: what the product of a part and of seats is, and its whole part; that it rises. Conditions: as each theorem states.
-/
import Derived.Test.YtofbioefckdmbaaFareRound
import Derived.Test.YtofbioefckdmbaaFareOrd
namespace Go.Proofs.Ytofbioefckdmbaa.Fr
open Ieee

theorem top_eq : top = 2047 * 2 ^ 52 := by decide
theorem rg_of (x : Nat) (h : x ≤ top) : rg x = x ∧ ng x = false := by
  have ht : top = 9218868437227405312 := rfl
  unfold rg ng
  exact ⟨by omega, by simp; omega⟩

/-- The bits of one; what one is worth, in units of the least float: a power of two. -/
def oneB : Nat := 4607182418800017408
def un : Nat := V oneB
theorem un_pow (U : Nat) (hU : U = 1074) : un = 2 ^ U := by
  obtain ⟨e, he⟩ : ∃ e : Nat, e = 1022 := ⟨_, rfl⟩
  unfold un
  rw [show oneB = e * 2 ^ 52 + 2 ^ 52 by subst he; decide, V_at _ _ (by decide) (Or.inr (Nat.le_refl _)), ← Nat.pow_add, show 52 + e = U by omega]
theorem un_pos : 0 < un := by
  obtain ⟨U, hU⟩ : ∃ U : Nat, U = 1074 := ⟨_, rfl⟩
  rw [un_pow U hU]; exact Nat.two_pow_pos _

theorem int_rung (n : Nat) (h : n < 2 ^ 53) : ∃ r, V r = n * un ∧ r < top := by
  by_cases h0 : n = 0
  · exact ⟨0, by subst h0; rw [V_zero, Nat.zero_mul], by decide⟩
  · have a1 : n.log2 < 53 := (Nat.log2_lt h0).2 h
    have a2 := Nat.log2_self_le h0
    have a3 := lt_log2 n
    have p1 : 2 ^ n.log2 * 2 ^ (52 - n.log2) = 2 ^ 52 := by rw [← Nat.pow_add, show n.log2 + (52 - n.log2) = 52 by omega]
    have p2 : 2 ^ (n.log2 + 1) * 2 ^ (52 - n.log2) = 2 ^ 53 := by rw [← Nat.pow_add, show n.log2 + 1 + (52 - n.log2) = 53 by omega]
    have b1 : 2 ^ 52 ≤ n * 2 ^ (52 - n.log2) := by rw [← p1]; exact Nat.mul_le_mul_right _ a2
    have b2 : n * 2 ^ (52 - n.log2) < 2 ^ 53 := by rw [← p2]; exact Nat.mul_lt_mul_of_pos_right a3 (Nat.two_pow_pos _)
    obtain ⟨U, hU⟩ : ∃ U : Nat, U = 1074 := ⟨_, rfl⟩
    refine ⟨(U - (52 - n.log2)) * 2 ^ 52 + n * 2 ^ (52 - n.log2), ?_, ?_⟩
    · rw [V_at _ _ b2 (Or.inr b1), Nat.mul_assoc, ← Nat.pow_add, show 52 - n.log2 + (U - (52 - n.log2)) = U by omega, un_pow U hU]
    · rw [top_eq]; omega

/-- The bits of a whole number as a float. -/
def fi (n : Nat) : Nat := RR (n * un * 2 ^ 200)
theorem fi_of (n : Nat) (h : n < 2 ^ 53) : V (fi n) = n * un ∧ fi n < top := by
  obtain ⟨r, hr, ht⟩ := int_rung n h
  have : fi n = r := by unfold fi; rw [← hr, RR_V]
  rw [this]
  exact ⟨hr, ht⟩
theorem floatOfInt_fi (n : Nat) (h : n < 2 ^ 53) : floatOfInt .f64 (n : Int) = fi n := by
  have ht := (fi_of n h).2
  obtain ⟨U, hU⟩ : ∃ U : Nat, U = 1074 := ⟨_, rfl⟩
  show double.nearest (decide ((n : Int) < 0)) (n : Int).natAbs 0 = fi n
  rw [show decide ((n : Int) < 0) = false by simp, Int.natAbs_natCast, show (0 : Int) = -1274 + ((U + 200 : Nat) : Int) by omega, nearest_eq, Nat.pow_add, ← Nat.mul_assoc, ← un_pow U hU]
  unfold Format.word
  simp only [Bool.false_eq_true, if_false]
  unfold fi at ht ⊢
  omega

theorem read_pos (x : Nat) (h : x < top) : ∃ m e : Nat, double.read x = .number false m (-1074 + (e : Int)) ∧ m * 2 ^ e = V x ∧ e ≤ 2045 ∧ m < 2 ^ 53 := by
  obtain ⟨h1, h2⟩ := rg_of x (by omega)
  have := read_fin x (by omega)
  rwa [h1, h2] at this

theorem mul_fi (x s : Nat) (hx : x < top) (hs : s < 2 ^ 53) : double.mul x (fi s) = some (min (RR (V x * s * 2 ^ 200)) top) := by
  obtain ⟨hv, ht⟩ := fi_of s hs
  obtain ⟨m, i, e1, v1, _, _⟩ := read_pos x hx
  obtain ⟨n, j, e2, v2, _, hn⟩ := read_pos (fi s) ht
  rw [hv] at v2
  unfold Format.mul
  rw [e1, e2]
  simp only [Datum.product, Option.map_some, Bool.xor_false, Format.write]
  refine congrArg some ?_
  by_cases h0 : s = 0
  · subst h0
    rw [Nat.zero_mul] at v2
    have hn0 : n = 0 := by
      rcases Nat.mul_eq_zero.1 v2 with h | h
      · exact h
      · have := Nat.two_pow_pos j; omega
    subst hn0
    rw [Nat.mul_zero, Nat.mul_zero, Nat.zero_mul, show min (RR 0) top = 0 by decide]
    rfl
  · obtain ⟨J, hJ⟩ : ∃ J : Nat, J = 1021 := ⟨_, rfl⟩
    obtain ⟨K, hK⟩ : ∃ K : Nat, K = 874 := ⟨_, rfl⟩
    rw [un_pow (53 + J) (by omega)] at v2
    have hj : J < j := by
      apply Nat.lt_of_not_le
      intro hj
      have c1 : n * 2 ^ j < 2 ^ 53 * 2 ^ J :=
        Nat.lt_of_lt_of_le (Nat.mul_lt_mul_of_pos_right hn (Nat.two_pow_pos _)) (Nat.mul_le_mul_left _ (Nat.pow_le_pow_right (by decide) hj))
      rw [v2, ← Nat.pow_add] at c1
      have c2 : 1 * 2 ^ (53 + J) ≤ s * 2 ^ (53 + J) := Nat.mul_le_mul_right _ (by omega)
      rw [Nat.one_mul] at c2
      exact absurd (Nat.lt_of_le_of_lt c2 c1) (Nat.lt_irrefl _)
    rw [show (-1074 + (i : Int) + (-1074 + (j : Int))) = -1274 + ((i + j - K : Nat) : Int) by omega, nearest_eq]
    have hX : m * n * 2 ^ (i + j - K) = V x * s * 2 ^ 200 := by
      apply Nat.eq_of_mul_eq_mul_right (Nat.two_pow_pos K)
      have q1 : 2 ^ 200 * 2 ^ K = 2 ^ (53 + J) := by rw [← Nat.pow_add, show 200 + K = 53 + J by omega]
      have q2 : 2 ^ (i + j - K) * 2 ^ K = 2 ^ i * 2 ^ j := by rw [← Nat.pow_add, ← Nat.pow_add, show i + j - K + K = i + j by omega]
      rw [Nat.mul_assoc, q2, Nat.mul_assoc (V x * s), q1, Nat.mul_assoc (V x), ← v2, ← v1, Nat.mul_mul_mul_comm]
    rw [hX]
    unfold Format.word
    simp only [Bool.false_eq_true, if_false]

theorem toInt_V (p : Nat) (h : p < top) : (double.read p).toInt .zero = some ((V p / un : Nat) : Int) := by
  obtain ⟨m, e, e1, v1, _, _⟩ := read_pos p h
  obtain ⟨U, hU⟩ : ∃ U : Nat, U = 1074 := ⟨_, rfl⟩
  rw [e1]
  simp only [Datum.toInt, Datum.integral, cut_zero, signed, Nat.shiftLeft_eq]
  simp only [Bool.false_eq_true, if_false, Nat.pow_zero, Nat.mul_one]
  congr 2
  rw [← v1, un_pow U hU]
  by_cases h : e ≤ U
  · rw [show (-1074 + (e : Int)).toNat = 0 by omega, show (-(-1074 + (e : Int))).toNat = U - e by omega, Nat.pow_zero, Nat.mul_one, ← Nat.mul_div_mul_right m (2 ^ (U - e)) (Nat.two_pow_pos e), ← Nat.pow_add, show U - e + e = U by omega]
  · rw [show (-1074 + (e : Int)).toNat = e - U by omega, show (-(-1074 + (e : Int))).toNat = 0 by omega, Nat.pow_zero, Nat.div_one, ← Nat.mul_div_cancel (m * 2 ^ (e - U)) (Nat.two_pow_pos U), Nat.mul_assoc, ← Nat.pow_add, show e - U + U = e by omega]

/-- The product's bits, and the level. -/
def pr (x s : Nat) : Nat := RR (V x * s * 2 ^ 200)
def lv (x s : Nat) : Nat := V (pr x s) / un

theorem pr_le (x s : Nat) (hx : x ≤ oneB) (hs : s < 2 ^ 53) : pr x s ≤ fi s ∧ fi s < top := by
  obtain ⟨hv, ht⟩ := fi_of s hs
  refine ⟨?_, ht⟩
  have h1 : V x ≤ un := by
    unfold un
    rcases Nat.lt_or_ge x oneB with h | h
    · exact Nat.le_of_lt (V_lt h)
    · rw [show x = oneB by omega]; exact Nat.le_refl _
  unfold pr
  conv => rhs; rw [← RR_V (fi s), hv]
  exact RR_mono (Nat.mul_le_mul_right _ (by rw [Nat.mul_comm]; exact Nat.mul_le_mul_left _ h1))
theorem V_le {r s : Nat} (h : r ≤ s) : V r ≤ V s := by
  rcases Nat.lt_or_ge r s with h1 | h1
  · exact Nat.le_of_lt (V_lt h1)
  · rw [show r = s by omega]; exact Nat.le_refl _
theorem lv_le (x s : Nat) (hx : x ≤ oneB) (hs : s < 2 ^ 53) : lv x s ≤ s := by
  have h := V_le (pr_le x s hx hs).1
  rw [(fi_of s hs).1] at h
  unfold lv
  exact Nat.div_le_of_le_mul (by rw [Nat.mul_comm]; exact h)
theorem lv_mono {x y s t : Nat} (h : x ≤ y) (g : s ≤ t) : lv x s ≤ lv y t :=
  Nat.div_le_div_right (V_le (RR_mono (Nat.mul_le_mul_right _ (Nat.mul_le_mul (V_le h) g))))
theorem fi_le_pr (x s n : Nat) (hn : n < 2 ^ 53) : fi n ≤ pr x s ↔ n ≤ lv x s := by
  have h := (fi_of n hn).1
  unfold lv
  rw [Nat.le_div_iff_mul_le un_pos, ← h]
  constructor
  · exact V_le
  · intro hh
    apply Nat.le_of_not_lt
    intro hlt
    have := V_lt hlt
    omega
end Go.Proofs.Ytofbioefckdmbaa.Fr
