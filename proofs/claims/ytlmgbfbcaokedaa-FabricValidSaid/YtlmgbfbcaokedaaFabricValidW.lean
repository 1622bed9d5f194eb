/-
  FabricValid, from a call.
-/
import Derived.Test.YtlmgbfbcaokedaaFb13valid
import Derived.Test.YtlmgbfbcaokedaaOpen
namespace Go.Proofs.Ytlmgbfbcaokedaa
open Go.RowKit
theorem fabricValid_any (v0 : Value) (F0 : FK) (A1 : Option Addr) (n1 c1 : Nat) (z1 : List Int) (z2 : Int) (z3 : Int) (z4 : Int) (w : World) (b0 : F0.ls.length ≤ 9223372036854775807) (c0 : F0.dn.length ≤ 9223372036854775807) (d0 : F0.dd.length ≤ 9223372036854775807) (x0 : ∀ ψ, VRel ψ (· < w.heap.size) w (.agg F0.A) v0) (g1 : Ints .i64 w A1 n1 c1 z1) :
    Calls Try.prog 3 #[v0, .slice A1 n1 c1, .int .i64 z2, .int .i64 z3, .int .i64 z4] w fun e w' => e = .returned (.bool true) ∧ Below w.heap.size w w' := by
  have l1 : z1.length ≤ 9223372036854775807 := by
    have h1 := g1.len; have h2 := g1.cap; have h3 := g1.max
    simp only [maxLen] at h3
    omega
  refine calls_val (fabricValid_all F0 b0 c0 d0 z1 l1 z2 z3 z4) rfl fun j x u h1 h2 => ?_
  match j, h1, h2 with
  | 0, h1, h2 => cases h1; cases h2; exact x0 _
  | 1, h1, h2 => cases h1; cases h2; exact vrel_ints g1
  | 2, h1, h2 => cases h1; cases h2; exact .val _
  | 3, h1, h2 => cases h1; cases h2; exact .val _
  | 4, h1, h2 => cases h1; cases h2; exact .val _
  | _ + 5, h1, h2 => cases h1
end Go.Proofs.Ytlmgbfbcaokedaa
