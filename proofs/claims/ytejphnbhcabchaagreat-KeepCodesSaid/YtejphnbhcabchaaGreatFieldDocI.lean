/-
  What the document's reader's Int answers, and what becomes of the reader. Conditions: the reader lies in memory as it was made.
-/
import Derived.Test.YtejphnbhcabchaaGreatFieldDoc
namespace Go.Proofs.YtejphnbhcabchaaGreat.Fld
open Go.RowKit

end Go.Proofs.YtejphnbhcabchaaGreat.Fld
