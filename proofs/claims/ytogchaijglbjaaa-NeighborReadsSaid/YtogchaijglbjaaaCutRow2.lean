/-
  Two results, of which the first lies in a cell. No program is named here.
-/
import Derived.Test.YtogchaijglbjaaaCutRow
import Derived.Laws.ResultCell
namespace Go.Proofs.Ytogchaijglbjaaa
open Go.RowKit
end Go.Proofs.Ytogchaijglbjaaa
