/-
  PercentileRates, from a call.
-/
import Derived.Test.YtlehkllcbedkhaaSer40p
import Derived.Test.YtlehkllcbedkhaaOpen
namespace Go.Proofs.Ytlehkllcbedkhaa
open Go.RowKit
theorem percentileRates_any (po se : Int) (A : Option Addr) (n c : Nat) (zs : List Int) (B : Option Addr) (k e : Nat) (ys : List Int) (A1 : Option Addr) (n1 c1 : Nat) (ms : List Int) (by_ sc p : Int) (A5 : Option Addr) (n5 c5 : Nat) (ls : List Int) (w : World) (gd : Ints .i64 w A n c zs) (gf : Ints .i64 w B k e ys) (gm : Ints .i64 w A1 n1 c1 ms) (gl : Ints .i64 w A5 n5 c5 ls) :
    Calls Try.prog 3 #[.agg #[.int .i64 po, .int .i64 se, .slice A n c, .slice B k e], .slice A1 n1 c1, .int .i64 by_, .int .i64 sc, .int .i64 p, .slice A5 n5 c5] w fun e w' => e = .returned (.bool true) ∧ Below w.heap.size w w' := by
  have hz : ls.length ≤ 9223372036854775807 := by
    have h1 := gl.len; have h2 := gl.cap; have h3 := gl.max
    simp only [maxLen] at h3
    omega
  refine calls_val (percentileRates_all ⟨po, se, zs, ys⟩ ms by_ sc p ls hz) rfl fun j x u h1 h2 => ?_
  match j, h1, h2 with
  | 0, h1, h2 =>
    cases h1; cases h2
    refine VRels.agg ⟨rfl, fun i y z e1 e2 => ?_⟩
    match i, e1, e2 with
    | 0, e1, e2 => cases e1; cases e2; exact .val _
    | 1, e1, e2 => cases e1; cases e2; exact .val _
    | 2, e1, e2 => cases e1; cases e2; exact vrel_ints gd
    | 3, e1, e2 => cases e1; cases e2; exact vrel_ints gf
    | _ + 4, e1, e2 => cases e1
  | 1, h1, h2 => cases h1; cases h2; exact vrel_ints gm
  | 2, h1, h2 => cases h1; cases h2; exact .val _
  | 3, h1, h2 => cases h1; cases h2; exact .val _
  | 4, h1, h2 => cases h1; cases h2; exact .val _
  | 5, h1, h2 => cases h1; cases h2; exact vrel_ints gl
  | _ + 6, h1, h2 => cases h1
end Go.Proofs.Ytlehkllcbedkhaa
