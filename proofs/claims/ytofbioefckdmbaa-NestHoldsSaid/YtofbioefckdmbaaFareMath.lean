/-
  The order of floats, told by their bits; what a float is worth; that a number is rounded in order. Conditions: as each theorem states.
-/
import Ieee.Arith
import Derived.Laws.FloatBits
namespace Go.Proofs.Ytofbioefckdmbaa.Fr
open Ieee

/-- What a rung is worth, in units of the least float. -/
def V (r : Nat) : Nat := if r < 2 ^ 52 then r else (2 ^ 52 + r % 2 ^ 52) * 2 ^ (r / 2 ^ 52 - 1)

theorem V_at (e k : Nat) (h : k < 2 ^ 53) (h' : e = 0 ∨ 2 ^ 52 ≤ k) : V (e * 2 ^ 52 + k) = k * 2 ^ e := by
  unfold V
  by_cases hk : k < 2 ^ 52
  · obtain rfl : e = 0 := by omega
    simp [hk]
  · have h1 : (e * 2 ^ 52 + k) / 2 ^ 52 = e + 1 := by omega
    have h2 : (e * 2 ^ 52 + k) % 2 ^ 52 = k - 2 ^ 52 := by omega
    rw [if_neg (by omega), h1, h2, show 2 ^ 52 + (k - 2 ^ 52) = k by omega]
    rfl

theorem V_over (e : Nat) : V (e * 2 ^ 52 + 2 ^ 53) = 2 ^ 53 * 2 ^ e := by
  rw [show e * 2 ^ 52 + 2 ^ 53 = (e + 1) * 2 ^ 52 + 2 ^ 52 by omega, V_at (e + 1) (2 ^ 52) (by decide) (Or.inr (Nat.le_refl _)), Nat.pow_succ]
  omega

theorem rung_form (r : Nat) : ∃ e k, r = e * 2 ^ 52 + k ∧ k < 2 ^ 53 ∧ (e = 0 ∨ 2 ^ 52 ≤ k) := by
  by_cases h : r < 2 ^ 52
  · exact ⟨0, r, by omega, by omega, Or.inl rfl⟩
  · exact ⟨r / 2 ^ 52 - 1, 2 ^ 52 + r % 2 ^ 52, by omega, by omega, Or.inr (by omega)⟩

theorem V_step (r : Nat) : V r < V (r + 1) := by
  obtain ⟨e, k, rfl, hk, h'⟩ := rung_form r
  have hp : 0 < 2 ^ e := Nat.two_pow_pos _
  rw [V_at e k hk h']
  by_cases h : k + 1 < 2 ^ 53
  · rw [show e * 2 ^ 52 + k + 1 = e * 2 ^ 52 + (k + 1) by omega, V_at e (k + 1) h (by omega)]
    exact Nat.mul_lt_mul_of_pos_right (by omega) hp
  · rw [show e * 2 ^ 52 + k + 1 = e * 2 ^ 52 + 2 ^ 53 by omega, V_over]
    exact Nat.mul_lt_mul_of_pos_right (by omega) hp

theorem V_add (r d : Nat) : V r < V (r + d + 1) := by
  induction d with
  | zero => exact V_step r
  | succ d ih => exact Nat.lt_trans ih (V_step (r + d + 1))

theorem V_lt {r s : Nat} (h : r < s) : V r < V s := by
  have := V_add r (s - r - 1)
  rwa [show r + (s - r - 1) + 1 = s by omega] at this
theorem V_lt_iff (r s : Nat) : V r < V s ↔ r < s := by
  refine ⟨fun h => ?_, V_lt⟩
  rcases Nat.lt_trichotomy r s with h1 | h1 | h1
  · exact h1
  · subst h1; omega
  · have := V_lt h1; omega
theorem V_eq_iff (r s : Nat) : V r = V s ↔ r = s := by
  refine ⟨fun h => ?_, fun h => by rw [h]⟩
  rcases Nat.lt_trichotomy r s with h1 | h1 | h1
  · have := V_lt h1; omega
  · exact h1
  · have := V_lt h1; omega
theorem V_zero : V 0 = 0 := by simp [V]

def sgn (s : Bool) (v : Nat) : Int := if s then -(v : Int) else v

/-- What the bits tell of the sign and of the rung. -/
def ng (x : Nat) : Bool := x / 2 ^ 63 % 2 == 1
def rg (x : Nat) : Nat := x % 2 ^ 63
/-- The rung of infinity. -/
def top : Nat := 9218868437227405312
/-- Not a number. -/
def nn (x : Nat) : Bool := decide (top < rg x)
/-- The place among numbers: both noughts have the same. -/
def sv (x : Nat) : Int := sgn (ng x) (rg x)

theorem read_fin (x : Nat) (h : rg x < top) : ∃ m e : Nat, double.read x = .number (ng x) m (-1074 + (e : Int)) ∧ m * 2 ^ e = V (rg x) ∧ e ≤ 2045 ∧ m < 2 ^ 53 := by
  unfold Format.read
  simp only [show double.signWeight = 2 ^ 63 from rfl, show double.binade = 2 ^ 52 from rfl, show double.infRung = top from by decide, show double.leastPlace = -1074 from by decide]
  show ∃ m e : Nat, (if rg x < 2 ^ 52 then _ else _) = _ ∧ _
  by_cases h1 : rg x < 2 ^ 52
  · rw [if_pos h1]
    exact ⟨rg x, 0, rfl, by unfold V; rw [if_pos h1]; simp, by omega, by omega⟩
  · rw [if_neg h1, if_pos (show x % 2 ^ 63 < top from h)]
    have ht : top = 9218868437227405312 := rfl
    exact ⟨2 ^ 52 + rg x % 2 ^ 52, rg x / 2 ^ 52 - 1, rfl, by unfold V; rw [if_neg h1], by omega, by omega⟩
theorem read_inf (x : Nat) (h : rg x = top) : double.read x = .infinity (ng x) := by
  unfold Format.read
  simp only [show double.signWeight = 2 ^ 63 from rfl, show double.binade = 2 ^ 52 from rfl, show double.infRung = top from by decide, show double.leastPlace = -1074 from by decide]
  show (if rg x < 2 ^ 52 then _ else if rg x < top then _ else if rg x = top then _ else _) = _
  rw [if_neg (by rw [h]; decide), if_neg (by omega), if_pos h]; rfl
theorem read_nan (x : Nat) (h : top < rg x) : ∃ f, double.read x = .nan (ng x) f := by
  unfold Format.read
  simp only [show double.signWeight = 2 ^ 63 from rfl, show double.binade = 2 ^ 52 from rfl, show double.infRung = top from by decide, show double.leastPlace = -1074 from by decide]
  have ht : top = 9218868437227405312 := rfl
  refine ⟨rg x - top, ?_⟩
  show (if rg x < 2 ^ 52 then _ else if rg x < top then _ else if rg x = top then _ else _) = _
  rw [if_neg (by omega), if_neg (by omega), if_neg (by omega)]; rfl

theorem cmp_same {a b c d : Int} (h1 : a < b ↔ c < d) (h2 : a = b ↔ c = d) : compare a b = compare c d := by
  simp only [compare, compareOfLessAndEq, h1, h2]
theorem cmp_nat {a b : Nat} {c d : Int} (h1 : a < b ↔ c < d) (h2 : a = b ↔ c = d) : compare a b = compare c d := by
  simp only [compare, compareOfLessAndEq, h1, h2]
theorem cmp_lt {a b : Int} (h : a < b) : compare a b = .lt := by simp [compare, compareOfLessAndEq, h]
theorem cmp_gt {a b : Int} (h : b < a) : compare a b = .gt := by
  simp only [compare, compareOfLessAndEq]; rw [if_neg (by omega), if_neg (by omega)]
theorem cmp_eq {a b : Int} (h : a = b) : compare a b = .eq := by
  simp only [compare, compareOfLessAndEq]; rw [if_neg (by omega), if_pos h]

theorem signed_sgn (s : Bool) (m u : Nat) : signed s m u = sgn s (m * 2 ^ u) := by
  unfold signed sgn; rw [Nat.shiftLeft_eq]

theorem sgn_mul (s : Bool) (m c : Nat) : sgn s (m * c) = sgn s m * (c : Int) := by
  unfold sgn; cases s <;> simp [Int.neg_mul]

theorem mul_lt_iff (a b c : Int) (h : 0 < c) : a * c < b * c ↔ a < b := by
  constructor
  · exact fun hh => Int.lt_of_mul_lt_mul_right hh (by omega)
  · exact fun hh => Int.mul_lt_mul_of_pos_right hh h
theorem mul_eq_iff (a b c : Int) (h : 0 < c) : a * c = b * c ↔ a = b :=
  ⟨fun hh => Int.eq_of_mul_eq_mul_right (by omega) hh, fun hh => by rw [hh]⟩

theorem order_fin (x y : Nat) (hx : rg x < top) (hy : rg y < top) : double.order x y = some (compare (sv x) (sv y)) := by
  obtain ⟨m, i, e1, v1, _⟩ := read_fin x hx
  obtain ⟨n, j, e2, v2, _⟩ := read_fin y hy
  unfold Format.order
  rw [e1, e2]
  unfold Datum.order
  simp only [signed_sgn]
  congr 1
  obtain ⟨c, hc⟩ : ∃ c : Nat, c = min i j := ⟨_, rfl⟩
  have h1 : (-1074 + (i : Int) - min (-1074 + (i : Int)) (-1074 + (j : Int))).toNat = i - c := by omega
  have h2 : (-1074 + (j : Int) - min (-1074 + (i : Int)) (-1074 + (j : Int))).toNat = j - c := by omega
  rw [h1, h2]
  have p : (0 : Int) < ((2 ^ c : Nat) : Int) := by exact_mod_cast Nat.two_pow_pos c
  have a1 : sgn (ng x) (m * 2 ^ (i - c)) * ((2 ^ c : Nat) : Int) = sgn (ng x) (V (rg x)) := by
    rw [← sgn_mul, Nat.mul_assoc, ← Nat.pow_add, show i - c + c = i by omega, v1]
  have a2 : sgn (ng y) (n * 2 ^ (j - c)) * ((2 ^ c : Nat) : Int) = sgn (ng y) (V (rg y)) := by
    rw [← sgn_mul, Nat.mul_assoc, ← Nat.pow_add, show j - c + c = j by omega, v2]
  have l1 := V_lt_iff (rg x) (rg y)
  have l2 := V_lt_iff (rg y) (rg x)
  have l3 := V_eq_iff (rg x) (rg y)
  have l4 := V_eq_iff (rg x) 0
  have l5 := V_eq_iff (rg y) 0
  rw [V_zero] at l4 l5
  refine cmp_same ?_ ?_
  · rw [← mul_lt_iff _ _ _ p, a1, a2]
    unfold sv sgn
    cases ng x <;> cases ng y <;> simp <;> omega
  · rw [← mul_eq_iff _ _ _ p, a1, a2]
    unfold sv sgn
    cases ng x <;> cases ng y <;> simp <;> omega

/-- ORDER, TOLD BY THE BITS: none where one is no number; else that of the places. -/
theorem order_eq (x y : Nat) : double.order x y = if nn x || nn y then none else some (compare (sv x) (sv y)) := by
  have ht : top = 9218868437227405312 := rfl
  rcases Nat.lt_trichotomy (rg x) top with hx | hx | hx
  · rcases Nat.lt_trichotomy (rg y) top with hy | hy | hy
    · rw [order_fin x y hx hy]; simp [nn]; omega
    · obtain ⟨m, i, e1, v1, _⟩ := read_fin x hx
      unfold Format.order
      rw [e1, read_inf y hy]
      have hn : (nn x || nn y) = false := by simp [nn]; omega
      rw [hn]
      unfold Datum.order
      congr 1
      unfold sv sgn
      cases ng x <;> cases ng y <;> simp
      all_goals first | exact (cmp_lt (by omega)).symm | exact (cmp_gt (by omega)).symm
    · obtain ⟨f, e2⟩ := read_nan y hy
      have hn : (nn x || nn y) = true := by simp [nn, hy]
      unfold Format.order
      rw [e2, hn]
      cases double.read x <;> rfl
  · rcases Nat.lt_trichotomy (rg y) top with hy | hy | hy
    · obtain ⟨m, i, e1, v1, _⟩ := read_fin y hy
      unfold Format.order
      rw [e1, read_inf x hx]
      have hn : (nn x || nn y) = false := by simp [nn]; omega
      rw [hn]
      unfold Datum.order
      congr 1
      unfold sv sgn
      cases ng x <;> cases ng y <;> simp
      all_goals first | exact (cmp_lt (by omega)).symm | exact (cmp_gt (by omega)).symm
    · unfold Format.order
      rw [read_inf y hy, read_inf x hx]
      have hn : (nn x || nn y) = false := by simp [nn]; omega
      rw [hn]
      unfold Datum.order
      congr 1
      unfold sv sgn
      rw [hx, hy]
      cases ng x <;> cases ng y <;> decide
    · obtain ⟨f, e2⟩ := read_nan y hy
      have hn : (nn x || nn y) = true := by simp [nn, hy]
      unfold Format.order
      rw [e2, hn]
      cases double.read x <;> rfl
  · obtain ⟨f, e2⟩ := read_nan x hx
    have hn : (nn x || nn y) = true := by simp [nn, hx]
    unfold Format.order
    rw [e2, hn]
    rfl
end Go.Proofs.Ytofbioefckdmbaa.Fr
