/-
  Layer 7: what Decode answers to a message with further options: plain mathematics.
-/
import Derived.Test.YtogchaijglbjaaaCutNb7g
namespace Go.Proofs.Ytogchaijglbjaaa
open Go.RowKit
end Go.Proofs.Ytogchaijglbjaaa
