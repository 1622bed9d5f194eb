/-
  Layer 5 (arp): the sanity check.
-/
import Derived.Test.YtghhidpggnbfgaaArp
import Derived.Test.YtghhidpggnbfgaaArpEnc
import Derived.Test.YtghhidpggnbfgaaText
import Derived.Test.YtghhidpggnbfgaaPart
namespace Go.Proofs.Ytghhidpggnbfgaa
open Go.RowKit
set_option maxHeartbeats 1000000 in
theorem awake5_any (w : World) : Calls Try.prog 7 #[] w fun e w' => e = .returned (.bool true) ∧ Below w.heap.size w w' := by
  have HM := Lib.hid (fun w => mac_any 1 w)
  have HR := Lib.hid (fun w => request_any 2 0 (1 / 16777216 % 256) (1 / 65536 % 256) (1 / 256 % 256) (1 % 256) false 0 3221225985 false 0 3221225986 w)
  have HE := Lib.hid (fun w => encode5_any 1 2 0 0 0 0 1 3221225985 0 0 0 0 0 0 3221225986 w (by omega) (by omega) (by omega))
  go_enter Try.func7, Try.ntmps7
  go_wp2_with fail
  refine (HM.out _).mono ?_
  rintro e w1 ⟨rfl, hb1⟩
  go_wp2_with fail
  refine (HR.out _).mono ?_
  rintro e w2 ⟨rfl, hb2⟩
  go_wp2_with fail
  refine (HE.out _).mono ?_
  rintro e w3 ⟨v, rfl, hown, hb3⟩
  have hbl := hb1.trans ((hb2.mono hb1.size).trans (hb3.mono (Nat.le_trans hb1.size hb2.size)))
  obtain ⟨A, c, rfl, k1, k2, k3, k4⟩ := own_open hown
  obtain ⟨B, rfl, -, -⟩ := k4.int (k := 0) (by simp [arpBytes, be4])
  have hl : Lies w3.heap.size (some ⟨B.block, B.off + 24, none⟩) ([192, 0, 2, 2].map (Value.int .u8)) w3 := by
    intro k hk
    obtain ⟨a', v', h1, h2, h3, h4⟩ := k4 (24 + k) (by simp [arpBytes, be4] at hk ⊢; omega)
    injection h1 with h1
    subst h1
    refine ⟨_, v', rfl, h2, ?_, ?_⟩
    · have hk' : k < 4 := by simpa using hk
      rcases (show k = 0 ∨ k = 1 ∨ k = 2 ∨ k = 3 by omega) with rfl | rfl | rfl | rfl <;> simpa [arpBytes, be4] using h3
    · rw [← h4]
      congr 1
      unfold Addr.add
      rw [if_neg (show 24 + k ≠ 0 by omega)]
      split
      · next h0 => subst h0; rfl
      · simp [Nat.add_assoc]
  have q1 : (24 : Int) ≤ c := by omega
  have q2 : ¬ c = 24 := by omega
  have hst : strOfNums [192, 0, 2, 2] = ⟨#[192, 0, 2, 2]⟩ := by kernel_rfl
  have hcv := fun W (hW : Below w3.heap.size w3 W) => conv_bytes (P := Try.prog) (c := c - 24) (n := 4) (w := W) Try.underlying29 Try.underlying5 Try.underlying9 (hl.below hW) rfl
  rw [hst] at hcv
  have hc0 := hcv w3 (Below.refl _ _)
  have hc1 := hcv w3.drew (Below.refl _ _).drew
  clear hcv
  go_wp2
  go_ret
  exact ⟨rfl, hbl⟩
end Go.Proofs.Ytghhidpggnbfgaa
