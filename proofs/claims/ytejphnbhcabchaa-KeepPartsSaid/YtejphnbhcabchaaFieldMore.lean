/-
  What the functions Int and Text of package field, and the document's own, make for whatever they are called with: the codes of XFieldMath, in memory of the call's own. Conditions: as each theorem states.
-/
import Derived.Test.YtejphnbhcabchaaFieldMake
namespace Go.Proofs.Ytejphnbhcabchaa.Fld
open Go.RowKit

theorem wrap_neg (x : Int) (h0 : -9223372036854775808 ≤ x) (h : x < 0) : IntKind.u64.wrap (-IntKind.u64.wrap x) = ((-x).toNat : Int) := by
  simp only [IntKind.wrap_u64]
  omega

end Go.Proofs.Ytejphnbhcabchaa.Fld
