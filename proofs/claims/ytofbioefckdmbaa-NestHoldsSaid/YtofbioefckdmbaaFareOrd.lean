/-
  What the functions Order and Rank of package fare, and the document's own, answer for whatever they are called with. Conditions: as each theorem states.
-/
import Derived.Test.YtofbioefckdmbaaFareKeys
import Derived.Deep.QuietTactic
import Derived.BigQuiet
namespace Go.Proofs.Ytofbioefckdmbaa.Fr
open Go.RowKit

/-- -1, 0, 1: less, the same, greater -/
def ordI (a b : Int) : Int := if a < b then -1 else if b < a then 1 else 0
theorem ordI_lt {a b : Int} (h : a < b) : ordI a b = -1 := by unfold ordI; rw [if_pos h]
theorem ordI_eq {a b : Int} (h : a = b) : ordI a b = 0 := by unfold ordI; rw [if_neg (by omega), if_neg (by omega)]
theorem ordI_gt {a b : Int} (h : b < a) : ordI a b = 1 := by unfold ordI; rw [if_neg (by omega), if_pos h]

/-- The place in the order of all, and the worth: none is worth less than what is no number. -/
def ordF (x y : Nat) : Int := ordI (key x) (key y)
def rv (x : Nat) : Int := if nn x then -9300000000000000000 else sv x
def rk (x y : Nat) : Int := ordI (rv x) (rv y)

theorem sv_bd (x : Nat) : -9223372036854775808 < sv x ∧ sv x < 9223372036854775808 := by
  have : rg x < 9223372036854775808 := Nat.mod_lt _ (by decide)
  unfold sv sgn; split <;> omega

theorem f_eq (x y : Nat) : (FloatKind.f64.format.order x y == some .eq) = (!nn x && !nn y && decide (sv x = sv y)) := by
  show (Ieee.double.order x y == some .eq) = _
  rw [order_eq]
  cases nn x <;> cases nn y <;> simp [compare, compareOfLessAndEq]
  by_cases h : sv x < sv y
  · simp [h]; omega
  · by_cases h' : sv x = sv y <;> simp [h, h']
theorem f_lt (x y : Nat) : (FloatKind.f64.format.order x y == some .lt) = (!nn x && !nn y && decide (sv x < sv y)) := by
  show (Ieee.double.order x y == some .lt) = _
  rw [order_eq]
  cases nn x <;> cases nn y <;> simp [compare, compareOfLessAndEq]
  by_cases h : sv x < sv y
  · simp [h]
  · by_cases h' : sv x = sv y <;> simp [h, h']
theorem f_gt (x y : Nat) : (FloatKind.f64.format.order x y == some .gt) = (!nn x && !nn y && decide (sv y < sv x)) := by
  show (Ieee.double.order x y == some .gt) = _
  rw [order_eq]
  cases nn x <;> cases nn y <;> simp [compare, compareOfLessAndEq]
  by_cases h : sv x < sv y
  · simp [h]; omega
  · by_cases h' : sv x = sv y
    · simp [h']
    · simp [h, h']; omega
theorem f_ne (x y : Nat) : (FloatKind.f64.format.order x y != some .eq) = !(!nn x && !nn y && decide (sv x = sv y)) := by
  rw [← f_eq]; rfl
theorem f_nan (x : Nat) : (FloatKind.f64.format.order x x != some .eq) = nn x := by
  rw [f_ne]; cases nn x <;> simp

theorem reti {a b : Int} (h : a = b) : Ending.returned (.int .i64 a) = .returned (.int .i64 b) := by rw [h]

set_option maxHeartbeats 400000 in
theorem nan_any (x : Nat) (w : World) : Calls Try.prog 33 #[.float .f64 x] w fun e w' => e = .returned (.bool (nn x)) ∧ w = w' := by
  have h := f_nan x
  go_enter Try.func33, Try.ntmps33
  go_wp2
  go_ret
  exact ⟨rfl, rfl⟩

/-- The five ways of two floats. -/
theorem ways (x y : Nat) : (nn x = true ∧ nn y = true ∧ rk x y = 0) ∨ (nn x = true ∧ nn y = false ∧ rk x y = -1) ∨ (nn x = false ∧ nn y = true ∧ rk x y = 1) ∨
    (nn x = false ∧ nn y = false ∧ ((sv x < sv y ∧ rk x y = -1) ∨ (sv x = sv y ∧ rk x y = 0) ∨ (sv y < sv x ∧ rk x y = 1))) := by
  have := sv_bd x
  have := sv_bd y
  unfold rk rv
  cases nn x <;> cases nn y <;> simp
  · rcases Int.lt_trichotomy (sv x) (sv y) with h | h | h
    · exact Or.inl ⟨h, ordI_lt h⟩
    · exact Or.inr (Or.inl ⟨h, ordI_eq h⟩)
    · exact Or.inr (Or.inr ⟨h, ordI_gt h⟩)
  · exact ordI_gt (by omega)
  · exact ordI_lt (by omega)
  · exact ordI_eq rfl

/-- What the walk meets of two floats, and the answer. -/
theorem ways2 (x y : Nat) : ∃ E L N M : Bool, (FloatKind.f64.format.order x y == some .eq) = E ∧ (FloatKind.f64.format.order x y == some .lt) = L ∧ nn x = N ∧ nn y = M ∧
    ((E = true ∧ L = false ∧ N = false ∧ M = false ∧ rk x y = 0) ∨ (E = false ∧ L = true ∧ N = false ∧ M = false ∧ rk x y = -1) ∨ (E = false ∧ L = false ∧ N = false ∧ M = false ∧ rk x y = 1) ∨
     (E = false ∧ L = false ∧ N = true ∧ M = true ∧ rk x y = 0) ∨ (E = false ∧ L = false ∧ N = true ∧ M = false ∧ rk x y = -1) ∨ (E = false ∧ L = false ∧ N = false ∧ M = true ∧ rk x y = 1)) := by
  refine ⟨_, _, _, _, f_eq x y, f_lt x y, rfl, rfl, ?_⟩
  rcases ways x y with ⟨h1, h2, h⟩ | ⟨h1, h2, h⟩ | ⟨h1, h2, h⟩ | ⟨h1, h2, ⟨h3, h⟩ | ⟨h3, h⟩ | ⟨h3, h⟩⟩ <;> simp [h1, h2, h]
  · simp [h3]; omega
  · simp [h3]
  · omega

end Go.Proofs.Ytofbioefckdmbaa.Fr
