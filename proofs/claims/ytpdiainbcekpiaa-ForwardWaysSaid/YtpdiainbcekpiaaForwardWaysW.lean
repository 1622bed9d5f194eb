/-
  ForwardWays, from a call.
-/
import Derived.Test.YtpdiainbcekpiaaFw14ways
import Derived.Test.YtpdiainbcekpiaaOpen
namespace Go.Proofs.Ytpdiainbcekpiaa
open Go.RowKit
theorem forwardWays_any (m0_0 m0_1 m0_2 m0_3 m0_4 m0_5 : Int) (m1_0 m1_1 m1_2 m1_3 m1_4 m1_5 : Int) (A2 : Option Addr) (n2 c2 : Nat) (z2 : List Int) (z3 : Int) (z4 : Int) (z5 : Int) (w : World) (g0 : ∀ z ∈ [m0_0, m0_1, m0_2, m0_3, m0_4, m0_5], 0 ≤ z ∧ z < 256) (g1 : ∀ z ∈ [m1_0, m1_1, m1_2, m1_3, m1_4, m1_5], 0 ≤ z ∧ z < 256) (g2 : Ints .i64 w A2 n2 c2 z2) :
    Calls Try.prog 3 #[.agg #[.int .u8 m0_0, .int .u8 m0_1, .int .u8 m0_2, .int .u8 m0_3, .int .u8 m0_4, .int .u8 m0_5], .agg #[.int .u8 m1_0, .int .u8 m1_1, .int .u8 m1_2, .int .u8 m1_3, .int .u8 m1_4, .int .u8 m1_5], .slice A2 n2 c2, .int .i64 z3, .int .i64 z4, .int .i64 z5] w fun e w' => e = .returned (.bool true) ∧ Below w.heap.size w w' := by
  have l2 : z2.length ≤ 9223372036854775807 := by
    have h1 := g2.len; have h2 := g2.cap; have h3 := g2.max
    simp only [maxLen] at h3
    omega
  refine calls_val (forwardWays_all [m0_0, m0_1, m0_2, m0_3, m0_4, m0_5] [m1_0, m1_1, m1_2, m1_3, m1_4, m1_5] rfl rfl (fun z hz => (List.mem_append.1 hz).elim (g0 z) (g1 z)) z2 l2 z3 z4 z5) rfl fun j x u h1 h2 => ?_
  match j, h1, h2 with
  | 0, h1, h2 => cases h1; cases h2; exact VRels.agg VRels.vals
  | 1, h1, h2 => cases h1; cases h2; exact VRels.agg VRels.vals
  | 2, h1, h2 => cases h1; cases h2; exact vrel_ints g2
  | 3, h1, h2 => cases h1; cases h2; exact .val _
  | 4, h1, h2 => cases h1; cases h2; exact .val _
  | 5, h1, h2 => cases h1; cases h2; exact .val _
  | _ + 6, h1, h2 => cases h1
end Go.Proofs.Ytpdiainbcekpiaa
