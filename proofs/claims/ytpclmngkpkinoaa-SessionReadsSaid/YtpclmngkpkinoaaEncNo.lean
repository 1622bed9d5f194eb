/-
  Layer 32: Encode of what is not valid.
-/
import Derived.Test.YtpclmngkpkinoaaEncode32
namespace Go.Proofs.Ytpclmngkpkinoaa
open Go.RowKit
set_option maxHeartbeats 1000000 in
theorem encode_no (a i hh r g : Int) (ag : Bool) (w : World) (hv : validO a i hh r g = false) :
    Calls Try.prog 16 #[.agg #[.int .i64 a, .int .i64 i, .int .i64 hh, .int .i64 r, .int .i64 g, .bool ag]] w fun e w' => e = .returned (.tuple #[.slice none 0 0, .int .i64 1]) ∧ Below w.heap.size w w' := by
  have hb := Box.made w 31 #[.int .i64 a, .int .i64 i, .int .i64 hh, .int .i64 r, .int .i64 g, .bool ag]
  have HV := Lib.hid (fun w => ovalid_any a i hh r g ag w)
  rw [hv] at HV
  go_enter Try.func16, Try.ntmps16
  go_wp2_with ((with_reducible refine load_box (t := 31) Try.underlying31 ?_ ?_ ?_ hb ?_); (· rfl); (· kernel_rfl); (· rfl))
  refine (HV.out _).mono ?_
  rintro e w1 ⟨rfl, hb1⟩
  go_wp2
  go_ret2
  exact ⟨rfl, ((Below.refl w.heap.size w).alloc (Nat.le_refl _) _).trans (hb1.mono (by simp))⟩
set_option maxHeartbeats 1000000 in
theorem rencode_no (a i hh r g : Int) (ag : Bool) (w : World) (hv : validO a i hh r g = false) :
    Calls Try.prog 10 #[.agg #[.int .i64 a, .int .i64 i, .int .i64 hh, .int .i64 r, .int .i64 g, .bool ag]] w fun e w' => e = .returned (.tuple #[.slice none 0 0, .int .i64 1]) ∧ Below w.heap.size w w' := by
  have hb := Box.made w 31 #[.int .i64 a, .int .i64 i, .int .i64 hh, .int .i64 r, .int .i64 g, .bool ag]
  have HV := Lib.hid (fun w => rovalid_any a i hh r g ag w)
  rw [hv] at HV
  go_enter Try.func10, Try.ntmps10
  go_wp2_with ((with_reducible refine load_box (t := 31) Try.underlying31 ?_ ?_ ?_ hb ?_); (· rfl); (· kernel_rfl); (· rfl))
  refine (HV.out _).mono ?_
  rintro e w1 ⟨rfl, hb1⟩
  go_wp2
  go_ret2
  exact ⟨rfl, ((Below.refl w.heap.size w).alloc (Nat.le_refl _) _).trans (hb1.mono (by simp))⟩
end Go.Proofs.Ytpclmngkpkinoaa
