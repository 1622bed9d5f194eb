/-
  Layer 32: SessionOpens, from a call.
-/
import Derived.Test.YtahcojcfoddkfaaLawS
import Derived.Test.YtahcojcfoddkfaaOpen
namespace Go.Proofs.Ytahcojcfoddkfaa
open Go.RowKit
theorem vrels_agg {ψ : Ghost} {prot : Nat → Prop} {w : World} (vs : List Value) : VRel ψ prot w (.agg (vs.map .val)) (.agg vs.toArray) := VRels.agg VRels.vals
theorem sessionOpens_any (a i h r g : Int) (ag : Bool) (A : Option Addr) (n c : Nat) (zs : List Int) (code : Int) (w : World) (gi : Ints .i64 w A n c zs) :
    Calls Try.prog 3 #[.agg #[.int .i64 a, .int .i64 i, .int .i64 h, .int .i64 r, .int .i64 g, .bool ag], .slice A n c, .int .i64 code] w fun e w' => e = .returned (.bool true) ∧ Below w.heap.size w w' := by
  have hz : zs.length ≤ 9223372036854775807 := by
    have h1 := gi.len; have h2 := gi.cap; have h3 := gi.max
    simp only [maxLen] at h3
    omega
  refine calls_val (opens_spec ⟨a, i, h, r, g, ag⟩ zs code hz) rfl fun j x u h1 h2 => ?_
  match j, h1, h2 with
  | 0, h1, h2 =>
    cases h1; cases h2
    exact vrels_agg [.int .i64 a, .int .i64 i, .int .i64 h, .int .i64 r, .int .i64 g, .bool ag]
  | 1, h1, h2 => cases h1; cases h2; exact vrel_ints gi
  | 2, h1, h2 => cases h1; cases h2; exact .val _
  | _ + 3, h1, h2 => cases h1
end Go.Proofs.Ytahcojcfoddkfaa
