/-
  Layer 9, in the program: slices.Contains of numbers, rising, count, Right, Need. Conditions: the lists can be read.
-/
import Derived.Test.YtnmmpiddmckghaaDoorQuBase
namespace Go.Proofs.YtnmmpiddmckghaaDoor.Qu
open Go.RowKit Go.Proofs.YtnmmpiddmckghaaDoor.Fld
set_option linter.unusedVariables false

def grpV (VA : Option Addr) (vn vc : Nat) (LA : Option Addr) (ln lc : Nat) : Value := .agg #[.slice VA vn vc, .slice LA ln lc]
end Go.Proofs.YtnmmpiddmckghaaDoor.Qu
