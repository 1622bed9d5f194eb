/-
  Layer 6: PacketHops, from a call.
-/
import Derived.Test.YtojapodjlpffdaaLawHops
import Derived.Test.YtojapodjlpffdaaOpen
namespace Go.Proofs.Ytojapodjlpffdaa
open Go.RowKit
theorem packetHops_any (v : Bool) (h l : Int) (v2 : Bool) (h2 l2 pr ttl : Int) (A : Option Addr) (n c : Nat) (xs : List Int) (A' : Option Addr) (n' c' : Nat) (zs : List Int) (w : World) (gx : Ints .u8 w A n c xs) (ht : ttl ≤ 9223372036854775807) (gz : Ints .i64 w A' n' c' zs) :
    Calls Try.prog 6 #[.agg #[.bool v, .int .u64 h, .int .u64 l, .bool v2, .int .u64 h2, .int .u64 l2, .int .i64 pr, .int .i64 ttl, .slice A n c], .slice A' n' c'] w fun e w' => e = .returned (.bool true) ∧ Below w.heap.size w w' := by
  have hx : xs.length ≤ 9223372036854775807 := by
    have h1 := gx.len; have h2 := gx.cap; have h3 := gx.max
    simp only [maxLen] at h3
    omega
  have hz : zs.length ≤ 9223372036854775807 := by
    have h1 := gz.len; have h2 := gz.cap; have h3 := gz.max
    simp only [maxLen] at h3
    omega
  have hs : Spec Try.prog 6 [.agg (pktA v h l v2 h2 l2 pr ttl xs), .ro (ints .i64 zs)] [] (.val (.bool true)) [] := by
    by_cases hl : xs.length ≤ 600
    · exact hops_short v h l v2 h2 l2 pr ttl xs zs hz hl ht
    · exact hops_long v h l v2 h2 l2 pr ttl xs zs hx (by omega)
  refine calls_val hs rfl fun j x u h1 h2 => ?_
  match j, h1, h2 with
  | 0, h1, h2 =>
    cases h1; cases h2
    refine VRels.agg ⟨rfl, fun i y z e1 e2 => ?_⟩
    match i, e1, e2 with
    | 0, e1, e2 => cases e1; cases e2; exact .val _
    | 1, e1, e2 => cases e1; cases e2; exact .val _
    | 2, e1, e2 => cases e1; cases e2; exact .val _
    | 3, e1, e2 => cases e1; cases e2; exact .val _
    | 4, e1, e2 => cases e1; cases e2; exact .val _
    | 5, e1, e2 => cases e1; cases e2; exact .val _
    | 6, e1, e2 => cases e1; cases e2; exact .val _
    | 7, e1, e2 => cases e1; cases e2; exact .val _
    | 8, e1, e2 => cases e1; cases e2; exact vrel_ints gx
    | _ + 9, e1, e2 => cases e1
  | 1, h1, h2 => cases h1; cases h2; exact vrel_ints gz
  | _ + 2, h1, h2 => cases h1
end Go.Proofs.Ytojapodjlpffdaa
