/-
  Layer 32: which open messages are valid.
-/
import Derived.Test.YtpclmngkpkinoaaRow
import Derived.Test.YtpclmngkpkinoaaRows
namespace Go.Proofs.Ytpclmngkpkinoaa
open Go.RowKit
def validO (a i h r g : Int) : Bool := decide (1 ≤ a ∧ a ≤ 4294967295 ∧ 1 ≤ i ∧ i ≤ 4294967295 ∧ (h = 0 ∨ 3 ≤ h ∧ h ≤ 65535) ∧ -1 ≤ r ∧ r ≤ 4 ∧ 0 ≤ g ∧ g ≤ 4095)
set_option maxHeartbeats 1000000 in
theorem ovalid_any (a i h r g : Int) (ag : Bool) (w : World) :
    Calls Try.prog 33 #[.agg #[.int .i64 a, .int .i64 i, .int .i64 h, .int .i64 r, .int .i64 g, .bool ag]] w fun e w' => e = .returned (.bool (validO a i h r g)) ∧ Below w.heap.size w w' := by
  have hb := Box.made w 31 #[.int .i64 a, .int .i64 i, .int .i64 h, .int .i64 r, .int .i64 g, .bool ag]
  go_enter Try.func33, Try.ntmps33
  have hb_0 := hb.at_ 0; have hb_1 := hb.at_ 1; have hb_2 := hb.at_ 2; have hb_3 := hb.at_ 3; have hb_4 := hb.at_ 4; have hb_5 := hb.at_ 5
  go_wp2_with fail
  all_goals
    go_ret
    refine ⟨?_, (Below.refl _ _).alloc (Nat.le_refl _) _⟩
    refine congrArg (fun b => Ending.returned (Value.bool b)) ?_
    unfold validO
    simp [*]
    try omega
set_option maxHeartbeats 1000000 in
theorem rovalid_any (a i h r g : Int) (ag : Bool) (w : World) :
    Calls Try.prog 29 #[.agg #[.int .i64 a, .int .i64 i, .int .i64 h, .int .i64 r, .int .i64 g, .bool ag]] w fun e w' => e = .returned (.bool (validO a i h r g)) ∧ Below w.heap.size w w' := by
  have hb := Box.made w 31 #[.int .i64 a, .int .i64 i, .int .i64 h, .int .i64 r, .int .i64 g, .bool ag]
  go_enter Try.func29, Try.ntmps29
  have hb_0 := hb.at_ 0; have hb_1 := hb.at_ 1; have hb_2 := hb.at_ 2; have hb_3 := hb.at_ 3; have hb_4 := hb.at_ 4; have hb_5 := hb.at_ 5
  go_wp2_with fail
  all_goals
    go_ret
    refine ⟨?_, (Below.refl _ _).alloc (Nat.le_refl _) _⟩
    refine congrArg (fun b => Ending.returned (Value.bool b)) ?_
    unfold validO
    simp [*]
    try omega
end Go.Proofs.Ytpclmngkpkinoaa
