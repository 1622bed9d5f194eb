/-
  RoleMarks, from a call.
-/
import Derived.Test.YtddafnipfkeejaaRm27
import Derived.Test.YtddafnipfkeejaaOpen
namespace Go.Proofs.Ytddafnipfkeejaa
open Go.RowKit
theorem roleMarks_any (v0 : Value) (a : AK) (z1 z2 z3 : Int) (A4 : Option Addr) (n4 c4 : Nat) (z4 : List Int) (w : World) (hf : a.fit) (x0 : ∀ ψ, VRel ψ (· < w.heap.size) w (.agg a.A) v0) (g4 : Ints .i64 w A4 n4 c4 z4) :
    Calls Try.prog 3 #[v0, .int .i64 z1, .int .i64 z2, .int .i64 z3, .slice A4 n4 c4] w fun e w' => e = .returned (.bool true) ∧ Below w.heap.size w w' := by
  have l4 : z4.length ≤ 9223372036854775807 := by
    have h1 := g4.len; have h2 := g4.cap; have h3 := g4.max
    simp only [maxLen] at h3
    omega
  refine calls_val (roleMarks_all a hf z1 z2 z3 z4 l4) rfl fun j x u h1 h2 => ?_
  match j, h1, h2 with
  | 0, h1, h2 => cases h1; cases h2; exact x0 _
  | 1, h1, h2 => cases h1; cases h2; exact .val _
  | 2, h1, h2 => cases h1; cases h2; exact .val _
  | 3, h1, h2 => cases h1; cases h2; exact .val _
  | 4, h1, h2 => cases h1; cases h2; exact vrel_ints g4
  | _ + 5, h1, h2 => cases h1
end Go.Proofs.Ytddafnipfkeejaa
