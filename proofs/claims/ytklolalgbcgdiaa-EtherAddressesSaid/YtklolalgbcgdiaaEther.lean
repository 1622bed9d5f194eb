/-
  Layer 4 (ether): small functions' contracts.
-/
import Derived.Test.YtklolalgbcgdiaaRows
import Derived.Test.YtklolalgbcgdiaaMem
import Derived.Test.YtklolalgbcgdiaaOpen
import Derived.Test.YtklolalgbcgdiaaMod
import Derived.Test.YtklolalgbcgdiaaReg
import Derived.Test.YtklolalgbcgdiaaEqMac
import Derived.ProofKit
import Derived.Outline
import Derived.Laws.Cover3
import Derived.Laws.BitsAll
namespace Go.Proofs.Ytklolalgbcgdiaa
open Go.RowKit

set_option maxHeartbeats 400000 in
theorem broadcast_any (w : World) :
    Calls Try.prog 16 #[] w fun e w' => e = .returned (.agg #[.int .u8 255, .int .u8 255, .int .u8 255, .int .u8 255, .int .u8 255, .int .u8 255]) ∧ Below w.heap.size w w' := by
  go_enter Try.func16, Try.ntmps16
  go_wp2
  exact bodyPost_ret (v := .agg #[.int .u8 255, .int .u8 255, .int .u8 255, .int .u8 255, .int .u8 255, .int .u8 255]) (by simp [results, Try.results16, go_sem]) rfl ⟨rfl, (by repeat (with_reducible first | exact Below.refl _ _ | assumption | refine Below.drew ?_ | refine below_drewN ?_ _ | refine Below.alloc ?_ (by simp) _ | refine Below.setCell ?_ (by first | (simp; done) | omega | (simp; omega)) _ | refine Below.alloc ?_ (by simp; omega) _))⟩

set_option maxHeartbeats 400000 in
theorem solicited_yes (hi lo : Int) (w : World) (_h0 : 0 ≤ lo) (_h1 : lo < 18446744073709551616) :
    Calls Try.prog 21 #[.agg #[.bool true, .int .u64 hi, .int .u64 lo]] w fun e w' => e = .returned (.agg #[.int .u8 51, .int .u8 51, .int .u8 255, .int .u8 (lo / 65536 % 256), .int .u8 (lo / 256 % 256), .int .u8 (lo % 256)]) ∧ Below w.heap.size w w' := by
  go_enter Try.func21, Try.ntmps21
  go_wp2
  exact bodyPost_ret (v := .agg #[.int .u8 51, .int .u8 51, .int .u8 255, .int .u8 (lo / 65536 % 256), .int .u8 (lo / 256 % 256), .int .u8 (lo % 256)]) (by simp [results, Try.results21, go_sem]) rfl ⟨rfl, (by repeat (with_reducible first | exact Below.refl _ _ | assumption | refine Below.drew ?_ | refine below_drewN ?_ _ | refine Below.alloc ?_ (by simp) _ | refine Below.setCell ?_ (by first | (simp; done) | omega | (simp; omega)) _ | refine Below.alloc ?_ (by simp; omega) _))⟩
set_option maxHeartbeats 400000 in
theorem solicited_no (hi lo : Int) (w : World) :
    Calls Try.prog 21 #[.agg #[.bool false, .int .u64 hi, .int .u64 lo]] w fun e w' => e = .returned (.agg #[.int .u8 0, .int .u8 0, .int .u8 0, .int .u8 0, .int .u8 0, .int .u8 0]) ∧ Below w.heap.size w w' := by
  go_enter Try.func21, Try.ntmps21
  go_wp2
  exact bodyPost_ret (v := .agg #[.int .u8 0, .int .u8 0, .int .u8 0, .int .u8 0, .int .u8 0, .int .u8 0]) (by simp [results, Try.results21, go_sem]) rfl ⟨rfl, (by repeat (with_reducible first | exact Below.refl _ _ | assumption | refine Below.drew ?_ | refine below_drewN ?_ _ | refine Below.alloc ?_ (by simp) _ | refine Below.setCell ?_ (by first | (simp; done) | omega | (simp; omega)) _ | refine Below.alloc ?_ (by simp; omega) _))⟩

set_option maxHeartbeats 400000 in
theorem group_any (a b c d e f : Int) (w : World) (h0 : 0 ≤ a) (h1 : a < 256) :
    Calls Try.prog 12 #[.agg #[.int .u8 a, .int .u8 b, .int .u8 c, .int .u8 d, .int .u8 e, .int .u8 f]] w fun e w' => e = .returned (.bool (a % 2 == 1)) ∧ Below w.heap.size w w' := by
  have hb : bits .and .u8 a 1 = a % 2 := by go_bits2
  go_enter Try.func12, Try.ntmps12
  go_wp2
  go_ret
  exact ⟨rfl, (by repeat (with_reducible first | exact Below.refl _ _ | assumption | refine Below.drew ?_ | refine below_drewN ?_ _ | refine Below.alloc ?_ (by simp) _ | refine Below.setCell ?_ (by first | (simp; done) | omega | (simp; omega)) _ | refine Below.alloc ?_ (by simp; omega) _))⟩
set_option maxHeartbeats 400000 in
theorem rgroup_any (a b c d e f : Int) (w : World) (h0 : 0 ≤ a) (h1 : a < 256) :
    Calls Try.prog 13 #[.agg #[.int .u8 a, .int .u8 b, .int .u8 c, .int .u8 d, .int .u8 e, .int .u8 f]] w fun e w' => e = .returned (.bool (a % 2 == 1)) ∧ Below w.heap.size w w' := by
  go_enter Try.func13, Try.ntmps13
  go_wp2
  go_ret
  exact ⟨rfl, (by repeat (with_reducible first | exact Below.refl _ _ | assumption | refine Below.drew ?_ | refine below_drewN ?_ _ | refine Below.alloc ?_ (by simp) _ | refine Below.setCell ?_ (by first | (simp; done) | omega | (simp; omega)) _ | refine Below.alloc ?_ (by simp; omega) _))⟩

def resB (a b c d e f : Int) : Bool := ([a, b, c, d, e] == [1, 128, 194, 0, 0]) && decide (f ≤ 15)
theorem res_eq (a b c d e f : Int) : resB a b c d e f = (decide (f ≤ 15) && ([a, b, c, d, e, f] == [1, 128, 194, 0, 0, f])) := by
  unfold resB
  rw [Bool.eq_iff_iff]
  simp
  exact And.comm
set_option maxHeartbeats 400000 in
theorem reserved_any (a b c d e f : Int) (w : World) :
    Calls Try.prog 14 #[.agg #[.int .u8 a, .int .u8 b, .int .u8 c, .int .u8 d, .int .u8 e, .int .u8 f]] w fun e' w' => e' = .returned (.bool (resB a b c d e f)) ∧ Below w.heap.size w w' := by
  have hat : ∀ w A, (Instr.arrayAt 62 (.slice A 5 6)).run Try.prog w = .ok (.pointer A) w := fun w A => run_arrayAt w 62 _ 5 A 5 6 Try.underlying62 (Nat.le_refl _)
  have heq : ∀ w, (Op.equalIn 10000 62 (.agg #[.int .u8 a, .int .u8 b, .int .u8 c, .int .u8 d, .int .u8 e]) (.agg #[.int .u8 1, .int .u8 128, .int .u8 194, .int .u8 0, .int .u8 0])).run Try.prog w = .ok ([a, b, c, d, e] == [1, 128, 194, 0, 0]) w := fun w =>
    eq_array Try.underlying62 Try.underlying5 (by kernel_rfl) (by kernel_rfl) w [a, b, c, d, e] [1, 128, 194, 0, 0] rfl rfl
  unfold resB
  generalize ([a, b, c, d, e] == [1, 128, 194, 0, 0]) = q at heq
  go_enter Try.func14, Try.ntmps14
  cases q
  · go_wp2
    go_ret
    exact ⟨rfl, (by repeat (with_reducible first | exact Below.refl _ _ | assumption | refine Below.drew ?_ | refine below_drewN ?_ _ | refine Below.alloc ?_ (by simp) _ | refine Below.setCell ?_ (by first | (simp; done) | omega | (simp; omega)) _ | refine Below.alloc ?_ (by simp; omega) _))⟩
  · go_wp2
    all_goals
      go_ret
      refine ⟨?_, (by repeat (with_reducible first | exact Below.refl _ _ | assumption | refine Below.drew ?_ | refine below_drewN ?_ _ | refine Below.alloc ?_ (by simp) _ | refine Below.setCell ?_ (by first | (simp; done) | omega | (simp; omega)) _ | refine Below.alloc ?_ (by simp; omega) _))⟩
      simp_all
set_option maxHeartbeats 400000 in
theorem rreserved_any (a b c d e f : Int) (w : World) :
    Calls Try.prog 15 #[.agg #[.int .u8 a, .int .u8 b, .int .u8 c, .int .u8 d, .int .u8 e, .int .u8 f]] w fun e' w' => e' = .returned (.bool (resB a b c d e f)) ∧ Below w.heap.size w w' := by
  have heq := fun w => @eq_mac w a b c d e f 1 128 194 0 0 f
  rw [res_eq]
  generalize ([a, b, c, d, e, f] == [1, 128, 194, 0, 0, f]) = q at heq
  go_enter Try.func15, Try.ntmps15
  cases q
  all_goals
    go_wp2
    all_goals
      go_ret
      refine ⟨?_, (by repeat (with_reducible first | exact Below.refl _ _ | assumption | refine Below.drew ?_ | refine below_drewN ?_ _ | refine Below.alloc ?_ (by simp) _ | refine Below.setCell ?_ (by first | (simp; done) | omega | (simp; omega)) _ | refine Below.alloc ?_ (by simp; omega) _))⟩
      simp_all
set_option maxHeartbeats 400000 in
theorem mac_any (n : Int) (w : World) :
    Calls Try.prog 33 #[.int .i64 n] w fun e w' => e = .returned (.agg #[.int .u8 2, .int .u8 0, .int .u8 (n / 16777216 % 256), .int .u8 (n / 65536 % 256), .int .u8 (n / 256 % 256), .int .u8 (n % 256)]) ∧ Below w.heap.size w w' := by
  go_enter Try.func33, Try.ntmps33
  go_wp2
  exact bodyPost_ret (v := .agg #[.int .u8 2, .int .u8 0, .int .u8 (n / 16777216 % 256), .int .u8 (n / 65536 % 256), .int .u8 (n / 256 % 256), .int .u8 (n % 256)]) (by simp [results, Try.results33, go_sem]) rfl ⟨rfl, (by repeat (with_reducible first | exact Below.refl _ _ | assumption | refine Below.drew ?_ | refine below_drewN ?_ _ | refine Below.alloc ?_ (by simp) _ | refine Below.setCell ?_ (by first | (simp; done) | omega | (simp; omega)) _ | refine Below.alloc ?_ (by simp; omega) _))⟩
end Go.Proofs.Ytklolalgbcgdiaa
