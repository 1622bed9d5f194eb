/-
  PacketBack, from a call.
-/
import Derived.Test.YtojapodjlpffdaaLawBack6
import Derived.Test.YtojapodjlpffdaaOpen
namespace Go.Proofs.Ytojapodjlpffdaa
open Go.RowKit
theorem packetBack_any (A0 : Option Addr) (n0 c0 : Nat) (z0 : List Int) (A1 : Option Addr) (n1 c1 : Nat) (z1 : List Int) (w : World) (g0 : Ints .i64 w A0 n0 c0 z0) (g1 : Ints .u8 w A1 n1 c1 z1) :
    Calls Try.prog 5 #[.slice A0 n0 c0, .slice A1 n1 c1] w fun e w' => e = .returned (.bool true) ∧ Below w.heap.size w w' := by
  have l0 : z0.length ≤ 9223372036854775807 := by
    have h1 := g0.len; have h2 := g0.cap; have h3 := g0.max
    simp only [maxLen] at h3
    omega
  have l1 : z1.length ≤ 9223372036854775807 := by
    have h1 := g1.len; have h2 := g1.cap; have h3 := g1.max
    simp only [maxLen] at h3
    omega
  have b1 : Bytes z1 := fun z hz => by
    have := g1.wf z hz
    simp [Lit.wf, IntKind.min, IntKind.max, IntKind.signed, IntKind.bits] at this
    omega
  refine calls_val (packetBack_all z0 l0 z1 l1 b1) rfl fun j x u h1 h2 => ?_
  match j, h1, h2 with
  | 0, h1, h2 => cases h1; cases h2; exact vrel_ints g0
  | 1, h1, h2 => cases h1; cases h2; exact vrel_ints g1
  | _ + 2, h1, h2 => cases h1
end Go.Proofs.Ytojapodjlpffdaa
