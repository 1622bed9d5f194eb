/-
  NeighborReads, from a call.
-/
import Derived.Test.YtogchaijglbjaaaCutNb7s
import Derived.Test.YtogchaijglbjaaaCutOpen
namespace Go.Proofs.Ytogchaijglbjaaa
open Go.RowKit
theorem neighborReads_any (v : Bool) (h l : Int) (v2 : Bool) (h2 l2 pr ttl : Int) (A : Option Addr) (n c : Nat) (ds : List Int) (A1 : Option Addr) (n1 c1 : Nat) (xs : List Int) (A2 : Option Addr) (n2 c2 : Nat) (zs : List Int) (a b : Int) (w : World) (gd : Ints .u8 w A n c ds) (_ht : ttl ≤ 9223372036854775807) (gx : Ints .u8 w A1 n1 c1 xs) (gz : Ints .i64 w A2 n2 c2 zs) :
    Calls Try.prog 4 #[.agg #[.bool v, .int .u64 h, .int .u64 l, .bool v2, .int .u64 h2, .int .u64 l2, .int .i64 pr, .int .i64 ttl, .slice A n c], .slice A1 n1 c1, .slice A2 n2 c2, .int .i64 a, .int .i64 b] w fun e w' => e = .returned (.bool true) ∧ Below w.heap.size w w' := by
  have hd : ds.length ≤ 9223372036854775807 := by
    have h1 := gd.len; have h2 := gd.cap; have h3 := gd.max
    simp only [maxLen] at h3
    omega
  have hx : xs.length ≤ 9223372036854775807 := by
    have h1 := gx.len; have h2 := gx.cap; have h3 := gx.max
    simp only [maxLen] at h3
    omega
  have hz : zs.length ≤ 9223372036854775807 := by
    have h1 := gz.len; have h2 := gz.cap; have h3 := gz.max
    simp only [maxLen] at h3
    omega
  have hdb : Bytes ds := fun z hz => by
    have := gd.wf z hz
    simp [Lit.wf, IntKind.min, IntKind.max, IntKind.signed, IntKind.bits] at this
    omega
  have hb : Bytes xs := fun z hz => by
    have := gx.wf z hz
    simp [Lit.wf, IntKind.min, IntKind.max, IntKind.signed, IntKind.bits] at this
    omega
  refine calls_val (neighborReads_all ⟨v, h, l, v2, h2, l2, pr, ttl, ds⟩ hd hdb xs hx hb zs hz a b) rfl fun j x u h1 h2 => ?_
  match j, h1, h2 with
  | 0, h1, h2 =>
    cases h1; cases h2
    refine VRels.agg ⟨rfl, fun i y z e1 e2 => ?_⟩
    match i, e1, e2 with
    | 0, e1, e2 => cases e1; cases e2; exact .val _
    | 1, e1, e2 => cases e1; cases e2; exact .val _
    | 2, e1, e2 => cases e1; cases e2; exact .val _
    | 3, e1, e2 => cases e1; cases e2; exact .val _
    | 4, e1, e2 => cases e1; cases e2; exact .val _
    | 5, e1, e2 => cases e1; cases e2; exact .val _
    | 6, e1, e2 => cases e1; cases e2; exact .val _
    | 7, e1, e2 => cases e1; cases e2; exact .val _
    | 8, e1, e2 => cases e1; cases e2; exact vrel_ints gd
    | _ + 9, e1, e2 => cases e1
  | 1, h1, h2 => cases h1; cases h2; exact vrel_ints gx
  | 2, h1, h2 => cases h1; cases h2; exact vrel_ints gz
  | 3, h1, h2 => cases h1; cases h2; exact .val _
  | 4, h1, h2 => cases h1; cases h2; exact .val _
  | _ + 5, h1, h2 => cases h1
end Go.Proofs.Ytogchaijglbjaaa
