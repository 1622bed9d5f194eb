/-
  Layer 32: the sanity check.
-/
import Derived.Test.YtpclmngkpkinoaaEncNo
import Derived.Test.YtpclmngkpkinoaaText
namespace Go.Proofs.Ytpclmngkpkinoaa
open Go.RowKit
set_option maxRecDepth 100000 in
set_option maxHeartbeats 1000000 in
theorem awake32_any (w : World) : Calls Try.prog 8 #[] w fun e w' => e = .returned (.bool true) ∧ Below w.heap.size w w' := by
  have henc : encO 65551 1 9 (-1) 0 false = [4, 91, 160, 0, 9, 0, 0, 0, 1, 8, 2, 6, 65, 4, 0, 1, 0, 15] := by decide
  have HE := Lib.hid (fun w => encode_yes 65551 1 9 (-1) 0 false w (by decide))
  rw [henc] at HE
  have HN := Lib.hid (fun w => notify_any 6 w)
  have hfd : ∀ (g : Nat) (w : World), (Instr.field 43 (.agg #[.int .i64 3, .slice (some ⟨g, 0, none⟩) 2 2]) 1).run Try.prog w = .ok (.slice (some ⟨g, 0, none⟩) 2 2) w := fun g w => by kernel_rfl
  clear henc
  go_enter Try.func8, Try.ntmps8
  go_wp2_with fail
  refine (HE.out _).mono ?_
  rintro e w1 ⟨v, rfl, hown, hb1⟩
  obtain ⟨A, c, rfl, k1, k2, k3, k4⟩ := own_open hown
  have hst : strOfNums [4, 91, 160, 0, 9, 0, 0, 0, 1, 8, 2, 6, 65, 4, 0, 1, 0, 15] = ⟨#[4, 91, 160, 0, 9, 0, 0, 0, 1, 8, 2, 6, 65, 4, 0, 1, 0, 15]⟩ := by kernel_rfl
  have hc := conv_bytes (P := Try.prog) (c := c) (n := 18) (w := w1) (src := 22) (dst := 9) Try.underlying22 Try.underlying5 Try.underlying9 k4 rfl
  rw [hst] at hc
  go_wp2_with fail
  refine (HN.out _).mono ?_
  rintro e w2 ⟨g, rfl, -, -, hb2⟩
  go_wp2
  go_ret
  exact ⟨rfl, hb1.trans (hb2.mono hb1.size)⟩
end Go.Proofs.Ytpclmngkpkinoaa
