/-
  ChooseAlone, from a call.
-/
import Derived.Test.YtddafnipfkeejaaRt27n
import Derived.Test.YtddafnipfkeejaaOpen
namespace Go.Proofs.Ytddafnipfkeejaa
open Go.RowKit
theorem chooseAlone_any (A : Option Addr) (n c : Nat) (zs : List Int) (tu dr : Int) (w : World) (gd : Ints .i64 w A n c zs) :
    Calls Try.prog 7 #[.slice A n c, .int .i64 tu, .int .i64 dr] w fun e w' => e = .returned (.bool true) ∧ Below w.heap.size w w' := by
  have hz : zs.length ≤ 9223372036854775807 := by
    have h1 := gd.len; have h2 := gd.cap; have h3 := gd.max
    simp only [maxLen] at h3
    omega
  refine calls_val (chooseAlone_all zs hz tu dr) rfl fun j x u h1 h2 => ?_
  match j, h1, h2 with
  | 0, h1, h2 => cases h1; cases h2; exact vrel_ints gd
  | 1, h1, h2 => cases h1; cases h2; exact .val _
  | 2, h1, h2 => cases h1; cases h2; exact .val _
  | _ + 3, h1, h2 => cases h1
end Go.Proofs.Ytddafnipfkeejaa
