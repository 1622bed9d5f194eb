/-
  Layer 6: PacketSums, from a call.
-/
import Derived.Test.YtojapodjlpffdaaLawSums
import Derived.Test.YtojapodjlpffdaaOpen
namespace Go.Proofs.Ytojapodjlpffdaa
open Go.RowKit
theorem packetSums_any (A : Option Addr) (n c : Nat) (xs : List Int) (A' : Option Addr) (n' c' : Nat) (zs : List Int) (p : Int) (w : World) (gx : Ints .u8 w A n c xs) (gz : Ints .i64 w A' n' c' zs) :
    Calls Try.prog 3 #[.slice A n c, .slice A' n' c', .int .i64 p] w fun e w' => e = .returned (.bool true) ∧ Below w.heap.size w w' := by
  have hx : xs.length ≤ 9223372036854775807 := by
    have h1 := gx.len; have h2 := gx.cap; have h3 := gx.max
    simp only [maxLen] at h3
    omega
  have hz : zs.length ≤ 9223372036854775807 := by
    have h1 := gz.len; have h2 := gz.cap; have h3 := gz.max
    simp only [maxLen] at h3
    omega
  have hb : Bytes xs := fun z hz => by
    have := gx.wf z hz
    simp [Lit.wf, IntKind.min, IntKind.max, IntKind.signed, IntKind.bits] at this
    omega
  have hs : Spec Try.prog 3 [.ro (ints .u8 xs), .ro (ints .i64 zs), .val (.int .i64 p)] [] (.val (.bool true)) [] := by
    by_cases hl : xs.length ≤ 600
    · exact sums_short xs zs p hz hl hb
    · exact sums_long xs zs p hx (by omega)
  refine calls_val hs rfl fun j x u h1 h2 => ?_
  match j, h1, h2 with
  | 0, h1, h2 => cases h1; cases h2; exact vrel_ints gx
  | 1, h1, h2 => cases h1; cases h2; exact vrel_ints gz
  | 2, h1, h2 => cases h1; cases h2; exact .val _
  | _ + 3, h1, h2 => cases h1
end Go.Proofs.Ytojapodjlpffdaa
