/-
  Layer 6: PacketFlips, from a call.
-/
import Derived.Test.YtojapodjlpffdaaLawFlip
import Derived.Test.YtojapodjlpffdaaOpen
namespace Go.Proofs.Ytojapodjlpffdaa
open Go.RowKit
theorem packetFlips_any (A' : Option Addr) (n' c' : Nat) (zs : List Int) (p : Int) (w : World) (gz : Ints .i64 w A' n' c' zs) :
    Calls Try.prog 7 #[.slice A' n' c', .int .i64 p] w fun e w' => e = .returned (.bool true) ∧ Below w.heap.size w w' := by
  have hz : zs.length ≤ 9223372036854775807 := by
    have h1 := gz.len; have h2 := gz.cap; have h3 := gz.max
    simp only [maxLen] at h3
    omega
  refine calls_val (flips_spec zs p hz) rfl fun j x u h1 h2 => ?_
  match j, h1, h2 with
  | 0, h1, h2 => cases h1; cases h2; exact vrel_ints gz
  | 1, h1, h2 => cases h1; cases h2; exact .val _
  | _ + 2, h1, h2 => cases h1
end Go.Proofs.Ytojapodjlpffdaa
