/-
  Layer 2: PrefixBits, with its example.
-/
import Derived.Test.YtboddbheljenhaaDoorPfBits
import Derived.Test.YtboddbheljenhaaDoorAwk2b
import Derived.Test.YtboddbheljenhaaDoorOpen
namespace Go.Proofs.YtboddbheljenhaaDoor
open Go.RowKit
theorem prefixBits_all (zs : List Int) (hz : zs.length ≤ 9223372036854775807) (n : Int) : Spec Tryd.prog 4 [.ro (ints .i64 zs), .val (.int .i64 n)] [] (.val (.bool true)) [] := prefixBits_of awake02 zs hz n
end Go.Proofs.YtboddbheljenhaaDoor
namespace Go.Proofs.YtboddbheljenhaaDoor
open Go.RowKit
theorem prefixBits_any (A0 : Option Addr) (n0 c0 : Nat) (z0 : List Int) (z1 : Int) (w : World) (hV : VarsOk (· < w.heap.size) w) (g0 : Ints .i64 w A0 n0 c0 z0) :
    Calls Tryd.prog 4 #[.slice A0 n0 c0, .int .i64 z1] w fun e w' => e = .returned (.bool true) ∧ Below w.heap.size w w' := by
  have l0 : z0.length ≤ 9223372036854775807 := by
    have h1 := g0.len; have h2 := g0.cap; have h3 := g0.max
    simp only [maxLen] at h3
    omega
  refine calls_val (prefixBits_all z0 l0 z1) rfl (fun j x u h1 h2 => ?_) hV
  match j, h1, h2 with
  | 0, h1, h2 => cases h1; cases h2; exact vrel_ints g0
  | 1, h1, h2 => cases h1; cases h2; exact .val _
  | _ + 2, h1, h2 => cases h1
end Go.Proofs.YtboddbheljenhaaDoor
