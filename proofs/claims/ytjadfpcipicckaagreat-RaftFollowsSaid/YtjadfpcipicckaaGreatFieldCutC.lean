/-
  What the inner function cutInt of package field's reader answers for whatever bytes it is given: the whole number that stands first, cut off, or the panic with ErrForm. Conditions: the slice can be read (Sl).
-/
import Derived.Test.YtjadfpcipicckaaGreatJFieldCut
namespace Go.Proofs.YtjadfpcipicckaaGreat.Fld
open Go.RowKit

theorem neg_back (v : Nat) (h : v ≤ 9223372036854775808) : wrap64 (IntKind.u64.wrap (-(v : Int))) = -(v : Int) := by
  rw [IntKind.wrap_u64]
  unfold wrap64
  omega
theorem cutInt_low (k : Nat) (rr : List Int) (hk : k ≤ 8) : cutInt ((k : Int) :: rr) = if okD rr k ∧ val (rr.take k) ≤ 9223372036854775807 then some ((val (rr.take k) : Int), rr.drop k) else none := by
  rw [cutInt, if_pos (by omega), Int.toNat_natCast]
theorem cutInt_high (q : Nat) (rr : List Int) (hq : 0 < q) : cutInt (((q : Int) + 16) :: rr) = if okD rr q ∧ val (rr.take q) ≤ 9223372036854775808 then some (-(val (rr.take q) : Int), rr.drop q) else none := by
  rw [cutInt, if_neg (by omega), show ((q : Int) + 16 - 16).toNat = q by omega]
  by_cases h : okD rr q ∧ val (rr.take q) ≤ 9223372036854775808
  · rw [if_pos h, if_pos ⟨by omega, h⟩]
  · rw [if_neg h, if_neg (fun h' => h h'.2)]
theorem cutInt_mid (c : Int) (rr : List Int) (h1 : 8 < c) (h2 : c ≤ 16) : cutInt (c :: rr) = none := by
  rw [cutInt, if_neg (by omega), if_neg (fun h => by omega)]

end Go.Proofs.YtjadfpcipicckaaGreat.Fld
