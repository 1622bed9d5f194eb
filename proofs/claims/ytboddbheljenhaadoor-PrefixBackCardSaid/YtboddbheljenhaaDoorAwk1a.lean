/-
  Layer 1's examples: 1.2.3.04 is no address; the text of 192.0.2.1.
-/
import Derived.Test.YtboddbheljenhaaDoorPu16b
import Derived.Test.YtboddbheljenhaaDoorFmt16
namespace Go.Proofs.YtboddbheljenhaaDoor
open Go.RowKit
theorem pu8_dig (l : List UInt8) (n : Nat) (hl : l.length ≤ 100) (h : Lib.parseUintB 8 l = .ok n) : Spec Tryd.prog 49 [.val (bstr l), .val (.int .i64 10), .val (.int .i64 8)] [] (.tuple [.val (.int .u64 (n : Int)), .val .nilIface]) [] := by
  have s := pu8_spec l (by omega)
  unfold pu8V at s
  rw [h] at s
  exact s
theorem fmt10_dig (i : Nat) (l : List UInt8) (h : i < 100) (e : Lib.decDigits i = l) : Spec Tryd.prog 50 [.val (.int .u64 (i : Int)), .val (.int .i64 10)] [] (.val (bstr l)) [] := e ▸ fmt10_spec i h
end Go.Proofs.YtboddbheljenhaaDoor
