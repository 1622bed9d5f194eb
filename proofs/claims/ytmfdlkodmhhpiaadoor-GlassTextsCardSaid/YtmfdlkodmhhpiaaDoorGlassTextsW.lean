/-
  GlassTexts, from a call.
-/
import Derived.Test.YtmfdlkodmhhpiaaDoorGlLaw
import Derived.Test.YtmfdlkodmhhpiaaDoorOpen
namespace Go.Proofs.YtmfdlkodmhhpiaaDoor
open Go.RowKit
theorem glassTexts_any (a b c d : Int) (s : ByteArray) (at' by' : Int) (w : World) (hV : VarsOk (· < w.heap.size) w) (_ : ∀ z ∈ ([] : List Int), 0 ≤ z ∧ z < 256) (h : (∀ z ∈ ([] : List Int), 0 ≤ z ∧ z < 18446744073709551616) ∧ ∀ z ∈ ([a, b, c, d] : List Int), -9223372036854775808 ≤ z ∧ z ≤ 9223372036854775807) (_ : s.size ≤ maxLen) :
    Calls Tryd.prog 3 #[.agg #[.int .i64 a, .int .i64 b, .int .i64 c, .int .i64 d], .string s, .int .i64 at', .int .i64 by'] w fun e w' => e = .returned (.bool true) ∧ Below w.heap.size w w' := by
  refine calls_val (glassTexts_all a b c d h.2 s.data.toList at' by') rfl (fun j x u h1 h2 => ?_) hV
  match j, h1, h2 with
  | 0, h1, h2 => cases h1; cases h2; exact VRels.agg VRels.vals
  | 1, h1, h2 => cases h1; cases h2; exact .val _
  | 2, h1, h2 => cases h1; cases h2; exact .val _
  | 3, h1, h2 => cases h1; cases h2; exact .val _
  | _ + 4, h1, h2 => cases h1
end Go.Proofs.YtmfdlkodmhhpiaaDoor
