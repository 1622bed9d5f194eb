/-
  ForwardLoads, from a call.
-/
import Derived.Test.YtpdiainbcekpiaaFw14loads
import Derived.Test.YtpdiainbcekpiaaOpen
import Derived.Test.YtpdiainbcekpiaaIntssArg
namespace Go.Proofs.Ytpdiainbcekpiaa
open Go.RowKit
theorem forwardLoads_any (A0 : Option Addr) (n0 c0 : Nat) (z0 : List Int) (v1 : Value) (F1 : List (List Int)) (A2 : Option Addr) (n2 c2 : Nat) (z2 : List Int) (w : World) (g0 : Ints .i64 w A0 n0 c0 z0) (b1 : F1.length ≤ 9223372036854775807) (c1 : ∀ w ∈ F1, w.length ≤ 9223372036854775807) (x1 : ∀ ψ, VRel ψ (· < w.heap.size) w (.ro (rws F1)) v1) (g2 : Ints .i64 w A2 n2 c2 z2) :
    Calls Try.prog 4 #[.slice A0 n0 c0, v1, .slice A2 n2 c2] w fun e w' => e = .returned (.bool true) ∧ Below w.heap.size w w' := by
  have l0 : z0.length ≤ 9223372036854775807 := by
    have h1 := g0.len; have h2 := g0.cap; have h3 := g0.max
    simp only [maxLen] at h3
    omega
  have l2 : z2.length ≤ 9223372036854775807 := by
    have h1 := g2.len; have h2 := g2.cap; have h3 := g2.max
    simp only [maxLen] at h3
    omega
  refine calls_val (forwardLoads_all z0 l0 F1 b1 c1 z2 l2) rfl fun j x u h1 h2 => ?_
  match j, h1, h2 with
  | 0, h1, h2 => cases h1; cases h2; exact vrel_ints g0
  | 1, h1, h2 => cases h1; cases h2; exact x1 _
  | 2, h1, h2 => cases h1; cases h2; exact vrel_ints g2
  | _ + 3, h1, h2 => cases h1
end Go.Proofs.Ytpdiainbcekpiaa
