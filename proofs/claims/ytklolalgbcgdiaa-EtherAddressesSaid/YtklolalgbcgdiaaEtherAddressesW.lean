/-
  EtherAddresses, from a call.
-/
import Derived.Test.YtklolalgbcgdiaaLawAdr4
import Derived.Test.YtklolalgbcgdiaaOpen
namespace Go.Proofs.Ytklolalgbcgdiaa
open Go.RowKit
theorem etherAddresses_any (m0_0 m0_1 m0_2 m0_3 m0_4 m0_5 : Int) (s1 : ByteArray) (a2 : Bool) (b2 c2 : Int) (z3 : Int) (z4 : Int) (w : World) (g0 : ∀ z ∈ [m0_0, m0_1, m0_2, m0_3, m0_4, m0_5], 0 ≤ z ∧ z < 256) (g1 : s1.size ≤ maxLen) (g2 : 0 ≤ b2) (h2 : b2 < 18446744073709551616) (i2 : 0 ≤ c2) (j2 : c2 < 18446744073709551616) :
    Calls Try.prog 3 #[.agg #[.int .u8 m0_0, .int .u8 m0_1, .int .u8 m0_2, .int .u8 m0_3, .int .u8 m0_4, .int .u8 m0_5], .string s1, .agg #[.bool a2, .int .u64 b2, .int .u64 c2], .int .i64 z3, .int .i64 z4] w fun e w' => e = .returned (.bool true) ∧ Below w.heap.size w w' := by

  refine calls_val (etherAddresses_all m0_0 m0_1 m0_2 m0_3 m0_4 m0_5 g0 s1 g1 a2 b2 c2 g2 h2 i2 j2 z3 z4) rfl fun j x u h1 h2 => ?_
  match j, h1, h2 with
  | 0, h1, h2 => cases h1; cases h2; exact VRels.agg VRels.vals
  | 1, h1, h2 => cases h1; cases h2; exact .val _
  | 2, h1, h2 => cases h1; cases h2; exact VRels.agg VRels.vals
  | 3, h1, h2 => cases h1; cases h2; exact .val _
  | 4, h1, h2 => cases h1; cases h2; exact .val _
  | _ + 5, h1, h2 => cases h1
end Go.Proofs.Ytklolalgbcgdiaa
