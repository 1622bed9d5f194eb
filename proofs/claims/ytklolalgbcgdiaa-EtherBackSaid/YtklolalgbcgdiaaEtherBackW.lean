/-
  EtherBack, from a call.
-/
import Derived.Test.YtklolalgbcgdiaaLawBack4
import Derived.Test.YtklolalgbcgdiaaOpen
namespace Go.Proofs.Ytklolalgbcgdiaa
open Go.RowKit
theorem etherBack_any (m0_0 m0_1 m0_2 m0_3 m0_4 m0_5 : Int) (A1 : Option Addr) (n1 c1 : Nat) (z1 : List Int) (A2 : Option Addr) (n2 c2 : Nat) (z2 : List Int) (z3 : Int) (z4 : Int) (w : World) (g0 : ∀ z ∈ [m0_0, m0_1, m0_2, m0_3, m0_4, m0_5], 0 ≤ z ∧ z < 256) (g1 : Ints .u8 w A1 n1 c1 z1) (g2 : Ints .i64 w A2 n2 c2 z2) :
    Calls Try.prog 5 #[.agg #[.int .u8 m0_0, .int .u8 m0_1, .int .u8 m0_2, .int .u8 m0_3, .int .u8 m0_4, .int .u8 m0_5], .slice A1 n1 c1, .slice A2 n2 c2, .int .i64 z3, .int .i64 z4] w fun e w' => e = .returned (.bool true) ∧ Below w.heap.size w w' := by
  have l1 : z1.length ≤ 9223372036854775807 := by
    have h1 := g1.len; have h2 := g1.cap; have h3 := g1.max
    simp only [maxLen] at h3
    omega
  have b1 : Bytes z1 := fun z hz => by
    have := g1.wf z hz
    simp [Lit.wf, IntKind.min, IntKind.max, IntKind.signed, IntKind.bits] at this
    omega
  have l2 : z2.length ≤ 9223372036854775807 := by
    have h1 := g2.len; have h2 := g2.cap; have h3 := g2.max
    simp only [maxLen] at h3
    omega
  refine calls_val (etherBack_all m0_0 m0_1 m0_2 m0_3 m0_4 m0_5 g0 z1 l1 b1 z2 l2 z3 z4) rfl fun j x u h1 h2 => ?_
  match j, h1, h2 with
  | 0, h1, h2 => cases h1; cases h2; exact VRels.agg VRels.vals
  | 1, h1, h2 => cases h1; cases h2; exact vrel_ints g1
  | 2, h1, h2 => cases h1; cases h2; exact vrel_ints g2
  | 3, h1, h2 => cases h1; cases h2; exact .val _
  | 4, h1, h2 => cases h1; cases h2; exact .val _
  | _ + 5, h1, h2 => cases h1
end Go.Proofs.Ytklolalgbcgdiaa
