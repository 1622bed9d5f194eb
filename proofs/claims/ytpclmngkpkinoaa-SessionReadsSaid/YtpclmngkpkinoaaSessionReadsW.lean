/-
  SessionReads, from a call.
-/
import Derived.Test.YtpclmngkpkinoaaSl32
import Derived.Test.YtpclmngkpkinoaaOpen
namespace Go.Proofs.Ytpclmngkpkinoaa
open Go.RowKit
theorem sessionReads_any (A0 : Option Addr) (n0 c0 : Nat) (z0 : List Int) (A1 : Option Addr) (n1 c1 : Nat) (z1 : List Int) (z2 : Int) (z3 : Int) (w : World) (g0 : Ints .u8 w A0 n0 c0 z0) (g1 : Ints .i64 w A1 n1 c1 z1) :
    Calls Try.prog 3 #[.slice A0 n0 c0, .slice A1 n1 c1, .int .i64 z2, .int .i64 z3] w fun e w' => e = .returned (.bool true) ∧ Below w.heap.size w w' := by
  have l0 : z0.length ≤ 9223372036854775807 := by
    have h1 := g0.len; have h2 := g0.cap; have h3 := g0.max
    simp only [maxLen] at h3
    omega
  have b0 : Bytes z0 := fun z hz => by
    have := g0.wf z hz
    simp [Lit.wf, IntKind.min, IntKind.max, IntKind.signed, IntKind.bits] at this
    omega
  have l1 : z1.length ≤ 9223372036854775807 := by
    have h1 := g1.len; have h2 := g1.cap; have h3 := g1.max
    simp only [maxLen] at h3
    omega
  refine calls_val (sessionReads_all z0 l0 b0 z1 l1 z2 z3) rfl fun j x u h1 h2 => ?_
  match j, h1, h2 with
  | 0, h1, h2 => cases h1; cases h2; exact vrel_ints g0
  | 1, h1, h2 => cases h1; cases h2; exact vrel_ints g1
  | 2, h1, h2 => cases h1; cases h2; exact .val _
  | 3, h1, h2 => cases h1; cases h2; exact .val _
  | _ + 4, h1, h2 => cases h1
end Go.Proofs.Ytpclmngkpkinoaa
