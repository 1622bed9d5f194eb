/-
  NeighborCodes, from a call.
-/
import Derived.Test.YtogchaijglbjaaaNb7m
import Derived.Test.YtogchaijglbjaaaOpen
namespace Go.Proofs.Ytogchaijglbjaaa
open Go.RowKit
theorem neighborCodes_any (k0 f0 : Int) (v0 : Bool) (t0 u0 : Int) (h0 : Bool) (l0_0 l0_1 l0_2 l0_3 l0_4 l0_5 : Int) (a1 : Bool) (b1 c1 : Int) (a2 : Bool) (b2 c2 : Int) (A3 : Option Addr) (n3 c3 : Nat) (z3 : List Int) (w : World) (g0 : ∀ z ∈ [l0_0, l0_1, l0_2, l0_3, l0_4, l0_5], 0 ≤ z ∧ z < 256) (g1 : 0 ≤ b1) (h1 : b1 < 18446744073709551616) (i1 : 0 ≤ c1) (j1 : c1 < 18446744073709551616) (g2 : 0 ≤ b2) (h2 : b2 < 18446744073709551616) (i2 : 0 ≤ c2) (j2 : c2 < 18446744073709551616) (g3 : Ints .i64 w A3 n3 c3 z3) :
    Calls Try.prog 3 #[.agg #[.int .i64 k0, .int .i64 f0, .bool v0, .int .u64 t0, .int .u64 u0, .bool h0, .int .u8 l0_0, .int .u8 l0_1, .int .u8 l0_2, .int .u8 l0_3, .int .u8 l0_4, .int .u8 l0_5], .agg #[.bool a1, .int .u64 b1, .int .u64 c1], .agg #[.bool a2, .int .u64 b2, .int .u64 c2], .slice A3 n3 c3] w fun e w' => e = .returned (.bool true) ∧ Below w.heap.size w w' := by
  have l3 : z3.length ≤ 9223372036854775807 := by
    have h1 := g3.len; have h2 := g3.cap; have h3 := g3.max
    simp only [maxLen] at h3
    omega
  refine calls_val (neighborCodes_all ⟨k0, f0, v0, t0, u0, h0, l0_0, l0_1, l0_2, l0_3, l0_4, l0_5⟩ g0 a1 b1 c1 g1 h1 i1 j1 a2 b2 c2 g2 h2 i2 j2 z3 l3) rfl fun j x u h1 h2 => ?_
  match j, h1, h2 with
  | 0, h1, h2 => cases h1; cases h2; exact VRels.agg VRels.vals
  | 1, h1, h2 => cases h1; cases h2; exact VRels.agg VRels.vals
  | 2, h1, h2 => cases h1; cases h2; exact VRels.agg VRels.vals
  | 3, h1, h2 => cases h1; cases h2; exact vrel_ints g3
  | _ + 4, h1, h2 => cases h1
end Go.Proofs.Ytogchaijglbjaaa
