/-
  ArpCodes, from a call.
-/
import Derived.Test.YtghhidpggnbfgaaAl5
import Derived.Test.YtghhidpggnbfgaaOpen
namespace Go.Proofs.Ytghhidpggnbfgaa
open Go.RowKit
theorem arpCodes_any (e0_0 : Int) (e0_1 : Int) (e0_2 : Int) (e0_3 : Int) (e0_4 : Int) (e0_5 : Int) (e0_6 : Int) (e0_7 : Bool) (e0_8 : Int) (e0_9 : Int) (e0_10 : Int) (e0_11 : Int) (e0_12 : Int) (e0_13 : Int) (e0_14 : Int) (e0_15 : Int) (e0_16 : Bool) (e0_17 : Int) (e0_18 : Int) (A1 : Option Addr) (n1 c1 : Nat) (z1 : List Int) (A2 : Option Addr) (n2 c2 : Nat) (z2 : List Int) (z3 : Int) (z4 : Int) (w : World) (g0 : ∀ z ∈ ([e0_1, e0_2, e0_3, e0_4, e0_5, e0_6, e0_10, e0_11, e0_12, e0_13, e0_14, e0_15] : List Int), 0 ≤ z ∧ z < 256) (h0 : ∀ z ∈ ([e0_8, e0_9, e0_17, e0_18] : List Int), 0 ≤ z ∧ z < 18446744073709551616) (g1 : Ints .u8 w A1 n1 c1 z1) (g2 : Ints .i64 w A2 n2 c2 z2) :
    Calls Try.prog 3 #[.agg #[.int .i64 e0_0, .int .u8 e0_1, .int .u8 e0_2, .int .u8 e0_3, .int .u8 e0_4, .int .u8 e0_5, .int .u8 e0_6, .bool e0_7, .int .u64 e0_8, .int .u64 e0_9, .int .u8 e0_10, .int .u8 e0_11, .int .u8 e0_12, .int .u8 e0_13, .int .u8 e0_14, .int .u8 e0_15, .bool e0_16, .int .u64 e0_17, .int .u64 e0_18], .slice A1 n1 c1, .slice A2 n2 c2, .int .i64 z3, .int .i64 z4] w fun e w' => e = .returned (.bool true) ∧ Below w.heap.size w w' := by
  have l1 : z1.length ≤ 9223372036854775807 := by
    have h1 := g1.len; have h2 := g1.cap; have h3 := g1.max
    simp only [maxLen] at h3
    omega
  have b1 : Bytes z1 := fun z hz => by
    have := g1.wf z hz
    simp [Lit.wf, IntKind.min, IntKind.max, IntKind.signed, IntKind.bits] at this
    omega
  have l2 : z2.length ≤ 9223372036854775807 := by
    have h1 := g2.len; have h2 := g2.cap; have h3 := g2.max
    simp only [maxLen] at h3
    omega
  refine calls_val (arpCodes_all ⟨e0_0, e0_1, e0_2, e0_3, e0_4, e0_5, e0_6, e0_7, e0_8, e0_9, e0_10, e0_11, e0_12, e0_13, e0_14, e0_15, e0_16, e0_17, e0_18⟩ g0 h0 z1 l1 b1 z2 l2 z3 z4) rfl fun j x u h1 h2 => ?_
  match j, h1, h2 with
  | 0, h1, h2 => cases h1; cases h2; exact VRels.agg VRels.vals
  | 1, h1, h2 => cases h1; cases h2; exact vrel_ints g1
  | 2, h1, h2 => cases h1; cases h2; exact vrel_ints g2
  | 3, h1, h2 => cases h1; cases h2; exact .val _
  | 4, h1, h2 => cases h1; cases h2; exact .val _
  | _ + 5, h1, h2 => cases h1
end Go.Proofs.Ytghhidpggnbfgaa
