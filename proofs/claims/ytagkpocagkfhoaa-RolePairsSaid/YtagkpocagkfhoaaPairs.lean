/-
  RolePairs: the walk.
-/
import Derived.Test.YtagkpocagkfhoaaPairs4
import Derived.Test.YtagkpocagkfhoaaAwake23
import Derived.Test.YtagkpocagkfhoaaMill
namespace Go.Proofs.Ytagkpocagkfhoaa
open Go.RowKit
set_option maxRecDepth 100000 in
set_option maxHeartbeats 2000000 in
theorem pairs_any (a b : Int) (w : World) :
    Calls Try.prog 3 #[.int .i64 a, .int .i64 b] w fun e w' => e = .returned (.bool true) ∧ Below w.heap.size w w' := by
  have HMa := Lib.hid (fun w => mod_any a 7 w (by omega) (by omega))
  have HMb := Lib.hid (fun w => mod_any b 7 w (by omega) (by omega))
  have HA := Lib.hid (fun w => awake23_any w)
  have a0 : 0 ≤ a % 7 := by omega
  have a1 : a % 7 < 7 := by omega
  have b0 : 0 ≤ b % 7 := by omega
  have b1 : b % 7 < 7 := by omega
  have k1 := Box.made w 3 #[.int .i64 a, .int .i64 b]
  have k2 : Box (w.heap.size + 1) 3 #[.int .i64 (a % 7 - 1), .int .i64 (b % 7 - 1)] ((w.alloc (.cells #[.int .i64 a, .int .i64 b] 3)).alloc (.cells #[.int .i64 (a % 7 - 1), .int .i64 (b % 7 - 1)] 3)) := Box.madeAt (by simp)
  have k3 : Box (w.heap.size + 1 + 1) 22 #[.slice (some ⟨w.heap.size, 0, none⟩) 2 2, .slice (some ⟨w.heap.size + 1, 0, none⟩) 2 2] (((w.alloc (.cells #[.int .i64 a, .int .i64 b] 3)).alloc (.cells #[.int .i64 (a % 7 - 1), .int .i64 (b % 7 - 1)] 3)).alloc (.cells #[.slice (some ⟨w.heap.size, 0, none⟩) 2 2, .slice (some ⟨w.heap.size + 1, 0, none⟩) 2 2] 22)) := Box.madeAt (by simp)
  have k1' := (k1.past (.cells #[.int .i64 (a % 7 - 1), .int .i64 (b % 7 - 1)] 3)).past (.cells #[.slice (some ⟨w.heap.size, 0, none⟩) 2 2, .slice (some ⟨w.heap.size + 1, 0, none⟩) 2 2] 22)
  have k2' := k2.past (.cells #[.slice (some ⟨w.heap.size, 0, none⟩) 2 2, .slice (some ⟨w.heap.size + 1, 0, none⟩) 2 2] 22)
  have hbl : Below w.heap.size w (((w.alloc (.cells #[.int .i64 a, .int .i64 b] 3)).alloc (.cells #[.int .i64 (a % 7 - 1), .int .i64 (b % 7 - 1)] 3)).alloc (.cells #[.slice (some ⟨w.heap.size, 0, none⟩) 2 2, .slice (some ⟨w.heap.size + 1, 0, none⟩) 2 2] 22)) := (((Below.refl _ _).alloc (Nat.le_refl _) _).alloc (by simp) _).alloc (by simp; omega) _
  clear k1 k2
  generalize a % 7 = p at HMa a0 a1 k1' k2' k3 hbl
  generalize b % 7 = q at HMb b0 b1 k1' k2' k3 hbl
  go_enter Try.func3, Try.ntmps3
  go_wp2_with fail
  refine (HMa.out _).mono ?_
  rintro e w1 ⟨rfl, rfl⟩
  go_wp2_with fail
  refine (HMb.out _).mono ?_
  rintro e w1 ⟨rfl, rfl⟩
  go_wp2_with fail
  generalize (((w.alloc (.cells #[.int .i64 a, .int .i64 b] 3)).alloc (.cells #[.int .i64 (p - 1), .int .i64 (q - 1)] 3)).alloc (.cells #[.slice (some ⟨w.heap.size, 0, none⟩) 2 2, .slice (some ⟨w.heap.size + 1, 0, none⟩) 2 2] 22)) = w0 at hbl k1' k2' k3
  go_loopw [19] (fun i wr => ∃ j : Nat, j ≤ 2 ∧ i = .int .i64 j ∧ Below w0.heap.size w0 wr) (fun i _ => 2 - (intOf i).toNat)
  case atStart => exact ⟨0, by omega, rfl, Below.refl _ _⟩
  case round =>
    obtain ⟨j, hj, rfl, hbel⟩ := hrel
    rcases (show j = 2 ∨ j = 0 ∨ j = 1 by omega) with rfl | rfl | rfl
    · go_wp2_with fail
      refine (HA.out _).mono ?_
      rintro e w2 ⟨rfl, hb2⟩
      go_wp2
      go_ret
      exact ⟨rfl, hbl.trans ((hbel.trans (hb2.mono hbel.size)).mono hbl.size)⟩
    · skip
      have kk := k1'.under hbel k1'.inside
      have e3 := (k3.under hbel k3.inside).at_ 0
      have i3 := (k3.under hbel k3.inside).inside
      go_upto_region 4 with fail
      refine pairs4 _ a b wr kk _ _ _ _ _ _ _ _ _ _ _ _ _ _ _ _ _ _ _ _ _ _ _ _ _ _ _ _ _ _ _ _ _ _ _ _ _ _ _ _ _ _ _ _ _ _ _ _ _ _ (fun W hW => ?_)
      have hb := hbel.trans (hW.mono hbel.size)
      go_wp2
      go_roundw
      case measure => simp [intOf]
      case rel => exact ⟨1, by omega, by go_num, hb⟩
    · skip
      have kk := k2'.under hbel k2'.inside
      have e3 := (k3.under hbel k3.inside).at_ 1
      have i3 := (k3.under hbel k3.inside).inside
      go_upto_region 4 with fail
      refine pairs4 _ (p - 1) (q - 1) wr kk _ _ _ _ _ _ _ _ _ _ _ _ _ _ _ _ _ _ _ _ _ _ _ _ _ _ _ _ _ _ _ _ _ _ _ _ _ _ _ _ _ _ _ _ _ _ _ _ _ _ (fun W hW => ?_)
      have hb := hbel.trans (hW.mono hbel.size)
      go_wp2
      go_roundw
      case measure => simp [intOf]
      case rel => exact ⟨2, by omega, by go_num, hb⟩
end Go.Proofs.Ytagkpocagkfhoaa
