/-
  Rows that are made of zeros and that nobody writes. No program is named here.
-/
import Derived.Test.YtogchaijglbjaaaCutAbsE
namespace Go.Proofs.Ytogchaijglbjaaa
open Go.RowKit
end Go.Proofs.Ytogchaijglbjaaa
