/-
  AddrBack, from a call.
-/
import Derived.Test.YtmbmodeiikhnkaaDoorAbk
import Derived.Test.YtmbmodeiikhnkaaDoorG01
namespace Go.Proofs.YtmbmodeiikhnkaaDoor
open Go.RowKit
theorem addrBack_any (A0 : Option Addr) (n0 c0 : Nat) (z0 : List Int) (s1 : ByteArray) (w : World) (hV : VarsOk (· < w.heap.size) w) (g0 : Ints .i64 w A0 n0 c0 z0) (g1 : s1.size ≤ maxLen) :
    Calls Tryd.prog 4 #[.slice A0 n0 c0, .string s1] w fun e w' => e = .returned (.bool true) ∧ Below w.heap.size w w' := by
  have l0 : z0.length ≤ 9223372036854775807 := by
    have h1 := g0.len; have h2 := g0.cap; have h3 := g0.max
    simp only [maxLen] at h3
    omega
  refine calls_val (addrBack_all z0 l0 s1.data.toList) rfl (fun j x u h1 h2 => ?_) hV
  match j, h1, h2 with
  | 0, h1, h2 => cases h1; cases h2; exact vrel_ints g0
  | 1, h1, h2 => cases h1; cases h2; exact .val _
  | _ + 2, h1, h2 => cases h1
end Go.Proofs.YtmbmodeiikhnkaaDoor
