/-
  Bytes and texts: a slice of bytes that lies in memory, made a string. No program is named here.
-/
import Derived.Test.YtogchaijglbjaaaCutOpen
import Derived.Laws.BytesArg
import Derived.Laws.BytesString
import Derived.Laws.Strings
namespace Go.Proofs.Ytogchaijglbjaaa
open Go.RowKit
def bytesOf (s : ByteArray) : List Int := s.data.toList.map fun b => (b.toNat : Int)
end Go.Proofs.Ytogchaijglbjaaa
