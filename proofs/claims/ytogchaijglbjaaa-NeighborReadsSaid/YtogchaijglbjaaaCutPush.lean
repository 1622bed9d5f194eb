/-
  append of elements that are written out, to what the call owns. No program is named here.
-/
import Derived.Test.YtogchaijglbjaaaCutOpen
import Derived.Laws.AppendOwnNone
namespace Go.Proofs.Ytogchaijglbjaaa
open Go.RowKit
section
variable {P : Program} {w : World}
end
end Go.Proofs.Ytogchaijglbjaaa
