/-
  PercentileMerges, from a call.
-/
import Derived.Test.YtlehkllcbedkhaaSer40i
import Derived.Test.YtlehkllcbedkhaaOpen
namespace Go.Proofs.Ytlehkllcbedkhaa
open Go.RowKit
theorem percentileMerges_any (po se : Int) (A : Option Addr) (n c : Nat) (zs : List Int) (B : Option Addr) (k e : Nat) (ys : List Int) (A1 : Option Addr) (n1 c1 : Nat) (xs : List Int) (bb pa pb pc : Int) (w : World) (gd : Ints .i64 w A n c zs) (gf : Ints .i64 w B k e ys) (gx : Ints .i64 w A1 n1 c1 xs) :
    Calls Try.prog 4 #[.agg #[.int .i64 po, .int .i64 se, .slice A n c, .slice B k e], .slice A1 n1 c1, .int .i64 bb, .int .i64 pa, .int .i64 pb, .int .i64 pc] w fun e w' => e = .returned (.bool true) ∧ Below w.heap.size w w' := by
  have hx : xs.length ≤ 9223372036854775807 := by
    have h1 := gx.len; have h2 := gx.cap; have h3 := gx.max
    simp only [maxLen] at h3
    omega
  refine calls_val (percentileMerges_all ⟨po, se, zs, ys⟩ xs hx bb pa pb pc) rfl fun j x u h1 h2 => ?_
  match j, h1, h2 with
  | 0, h1, h2 =>
    cases h1; cases h2
    refine VRels.agg ⟨rfl, fun i y z e1 e2 => ?_⟩
    match i, e1, e2 with
    | 0, e1, e2 => cases e1; cases e2; exact .val _
    | 1, e1, e2 => cases e1; cases e2; exact .val _
    | 2, e1, e2 => cases e1; cases e2; exact vrel_ints gd
    | 3, e1, e2 => cases e1; cases e2; exact vrel_ints gf
    | _ + 4, e1, e2 => cases e1
  | 1, h1, h2 => cases h1; cases h2; exact vrel_ints gx
  | 2, h1, h2 => cases h1; cases h2; exact .val _
  | 3, h1, h2 => cases h1; cases h2; exact .val _
  | 4, h1, h2 => cases h1; cases h2; exact .val _
  | 5, h1, h2 => cases h1; cases h2; exact .val _
  | _ + 6, h1, h2 => cases h1
end Go.Proofs.Ytlehkllcbedkhaa
