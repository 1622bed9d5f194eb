/-
  Layer 4: frames that are the same.
-/
import Derived.Test.YtklolalgbcgdiaaFrame
import Derived.Test.YtklolalgbcgdiaaText
import Derived.Test.YtklolalgbcgdiaaEqMac
namespace Go.Proofs.Ytklolalgbcgdiaa
open Go.RowKit

set_option maxHeartbeats 2000000 in
theorem same_yes (d0 d1 d2 d3 d4 d5 d6 d7 d8 d9 d10 d11 : Int) (vl y : Int) (A A' : Option Addr) (m c c' : Nat) (bs : List Int) (w : World) (hl : bs.length = m) (h : Lies w.heap.size A (bs.map (Value.int .u8)) w) (h' : Lies w.heap.size A' (bs.map (Value.int .u8)) w) :
    Calls Try.prog 32 #[.agg #[.int .u8 d0, .int .u8 d1, .int .u8 d2, .int .u8 d3, .int .u8 d4, .int .u8 d5, .int .u8 d6, .int .u8 d7, .int .u8 d8, .int .u8 d9, .int .u8 d10, .int .u8 d11, .int .i64 vl, .int .i64 y, .slice A m c], .agg #[.int .u8 d0, .int .u8 d1, .int .u8 d2, .int .u8 d3, .int .u8 d4, .int .u8 d5, .int .u8 d6, .int .u8 d7, .int .u8 d8, .int .u8 d9, .int .u8 d10, .int .u8 d11, .int .i64 vl, .int .i64 y, .slice A' m c']] w fun e w' => e = .returned (.bool true) ∧ Below w.heap.size w w' := by
  have hbel := ((Below.refl w.heap.size w).alloc (Nat.le_refl _) (.cells #[.int .u8 d0, .int .u8 d1, .int .u8 d2, .int .u8 d3, .int .u8 d4, .int .u8 d5, .int .u8 d6, .int .u8 d7, .int .u8 d8, .int .u8 d9, .int .u8 d10, .int .u8 d11, .int .i64 vl, .int .i64 y, .slice A m c] 42)).alloc (by simp) (.cells #[.int .u8 d0, .int .u8 d1, .int .u8 d2, .int .u8 d3, .int .u8 d4, .int .u8 d5, .int .u8 d6, .int .u8 d7, .int .u8 d8, .int .u8 d9, .int .u8 d10, .int .u8 d11, .int .i64 vl, .int .i64 y, .slice A' m c'] 42)
  have c1 := conv_bytes (c := c) Try.underlying33 Try.underlying5 Try.underlying9 (h.below hbel) hl
  have c2 := conv_bytes (c := c') Try.underlying33 Try.underlying5 Try.underlying9 (h'.below hbel) hl
  have e1 : ∀ w, (Op.equalIn 10000 23 (.agg #[.int .u8 d0, .int .u8 d1, .int .u8 d2, .int .u8 d3, .int .u8 d4, .int .u8 d5]) (.agg #[.int .u8 d0, .int .u8 d1, .int .u8 d2, .int .u8 d3, .int .u8 d4, .int .u8 d5])).run Try.prog w = .ok true w := fun w => by rw [eq_mac]; simp
  have e2 : ∀ w, (Op.equalIn 10000 23 (.agg #[.int .u8 d6, .int .u8 d7, .int .u8 d8, .int .u8 d9, .int .u8 d10, .int .u8 d11]) (.agg #[.int .u8 d6, .int .u8 d7, .int .u8 d8, .int .u8 d9, .int .u8 d10, .int .u8 d11])).run Try.prog w = .ok true w := fun w => by rw [eq_mac]; simp
  go_enter Try.func32, Try.ntmps32
  go_wp2
  go_ret
  exact ⟨rfl, hbel⟩
end Go.Proofs.Ytklolalgbcgdiaa
