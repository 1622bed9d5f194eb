/-
  Layer 2: PrefixBack, with its example.
-/
import Derived.Test.YtboddbheljenhaaDoorPbk
import Derived.Test.YtboddbheljenhaaDoorPrs
import Derived.Test.YtboddbheljenhaaDoorAwk2b
import Derived.Test.YtboddbheljenhaaDoorG01
namespace Go.Proofs.YtboddbheljenhaaDoor
open Go.RowKit
theorem prefixBack_all (zs : List Int) (hz : zs.length ≤ 9223372036854775807) : Spec Tryd.prog 3 [.ro (ints .i64 zs)] [] (.val (.bool true)) [] := prefixBack_of parse_spec awake02 zs hz
end Go.Proofs.YtboddbheljenhaaDoor
namespace Go.Proofs.YtboddbheljenhaaDoor
open Go.RowKit
theorem prefixBack_any (A0 : Option Addr) (n0 c0 : Nat) (z0 : List Int) (w : World) (hV : VarsOk (· < w.heap.size) w) (g0 : Ints .i64 w A0 n0 c0 z0) :
    Calls Tryd.prog 3 #[.slice A0 n0 c0] w fun e w' => e = .returned (.bool true) ∧ Below w.heap.size w w' := by
  have l0 : z0.length ≤ 9223372036854775807 := by
    have h1 := g0.len; have h2 := g0.cap; have h3 := g0.max
    simp only [maxLen] at h3
    omega
  refine calls_val (prefixBack_all z0 l0) rfl (fun j x u h1 h2 => ?_) hV
  match j, h1, h2 with
  | 0, h1, h2 => cases h1; cases h2; exact vrel_ints g0
  | _ + 1, h1, h2 => cases h1
end Go.Proofs.YtboddbheljenhaaDoor
