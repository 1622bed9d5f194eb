/-
  PercentileOrder, from a call.
-/
import Derived.Test.YtlehkllcbedkhaaSer40r
import Derived.Test.YtlehkllcbedkhaaOpen
namespace Go.Proofs.Ytlehkllcbedkhaa
open Go.RowKit
theorem percentileOrder_any (A : Option Addr) (n c : Nat) (zs : List Int) (tu a_ by_ : Int) (w : World) (gd : Ints .i64 w A n c zs) :
    Calls Try.prog 6 #[.slice A n c, .int .i64 tu, .int .i64 a_, .int .i64 by_] w fun e w' => e = .returned (.bool true) ∧ Below w.heap.size w w' := by
  have hz : zs.length ≤ 9223372036854775807 := by
    have h1 := gd.len; have h2 := gd.cap; have h3 := gd.max
    simp only [maxLen] at h3
    omega
  refine calls_val (percentileOrder_all zs hz tu a_ by_) rfl fun j x u h1 h2 => ?_
  match j, h1, h2 with
  | 0, h1, h2 => cases h1; cases h2; exact vrel_ints gd
  | 1, h1, h2 => cases h1; cases h2; exact .val _
  | 2, h1, h2 => cases h1; cases h2; exact .val _
  | 3, h1, h2 => cases h1; cases h2; exact .val _
  | _ + 4, h1, h2 => cases h1
end Go.Proofs.Ytlehkllcbedkhaa
