/-
  Layer 39: how many sets contain from least to most of the marked packets.
-/
import Derived.Test.YthgfajilpnjihaaPascal
import Derived.Deep.QuietTactic
import Derived.BigQuiet
import Derived.Laws.Small
namespace Go.Proofs.Ythgfajilpnjihaa
open Go.RowKit

theorem run_min3 (P : Program) (a b c : Int) (w : World) : (Builtin.min_ #[3, 3, 3] 3 #[.int .i64 a, .int .i64 b, .int .i64 c]).run P w = .ok (.int .i64 (min (min a b) c)) w := by
  simp [Builtin.min_, Builtin.min2]
  split <;> split <;> omega

/-- The sum of the terms from lo to hi. -/
def span (p s m : Nat) (lo hi : Int) : Int := (sumTo (term m (p - m) s) (max lo (hi + 1)).toNat : Int) - sumTo (term m (p - m) s) lo.toNat

def many (p s m : Nat) (l h : Int) : Int := span p s m (max l 0) (min (min h s) m)

set_option maxHeartbeats 1000000 in
theorem count_any (g p s m : Nat) (l h : Int) (w : World) (h1 : p ≤ 60) (h2 : s ≤ p) (h3 : m ≤ p) (hP : Part g 61 0 w) :
    Calls Try.prog 23 #[.pointer (some ⟨g, 0, none⟩), .int .i64 p, .int .i64 s, .int .i64 m, .int .i64 l, .int .i64 h] w fun e w' =>
      e = .returned (.int .i64 (many p s m l h)) ∧ ∃ k, w' = w.drewN k := by
  have hmin := fun W => run_min3 Try.prog h s m W
  obtain ⟨lo, hlo⟩ : ∃ lo : Nat, max l 0 = lo := ⟨(max l 0).toNat, by omega⟩
  have HLO := Lib.hid hlo
  by_cases hl : 0 ≤ l
  · obtain ⟨hi, hhi⟩ : ∃ hi : Int, min (min h s) m = hi := ⟨_, rfl⟩
    have HHI := Lib.hid hhi
    have q1 : hi ≤ s := by omega
    have q2 : hi ≤ m := by omega
    rw [hhi] at hmin
    obtain rfl : l = lo := by omega
    clear hlo hhi hl
    have hK : (max (lo : Int) (hi + 1)).toNat = max lo (hi + 1).toNat := by omega
    have HR : span p s m lo hi = (sumTo (term m (p - m) s) (max lo (hi + 1).toNat) : Int) - sumTo (term m (p - m) s) lo := by
      unfold span; rw [hK]; simp
    have HR' := Lib.hid HR; clear HR hK
    have hmono := fun k (h : lo ≤ k) => by
      have h0 := sumTo_mono (term m (p - m) s) lo (k - lo)
      rwa [show lo + (k - lo) = k by omega] at h0
    have hpart := fun k (h : k ≤ s + 1) => part_le m (p - m) s k h
    have hCs : C (m + (p - m)) s ≤ 1152921504606846976 := C_small _ _ (by omega)
    have HM := Lib.hid hmono; clear hmono
    have HP2 := Lib.hid hpart; clear hpart
    have HCs := Lib.hid hCs; clear hCs
    go_enter Try.func23, Try.ntmps23
    go_wp2_with fail
    go_loopw [13, 14] (fun v i wr => ∃ k q : Nat, lo ≤ k ∧ k ≤ max lo (hi + 1).toNat ∧ i = .int .i64 k ∧ v = .int .i64 ((sumTo (term m (p - m) s) k : Int) - sumTo (term m (p - m) s) lo) ∧ wr = w.drewN q) (fun _ i _ => max lo (hi + 1).toNat - (intOf i).toNat)
    case atStart => exact ⟨lo, 0, Nat.le_refl _, by omega, rfl, by simp, rfl⟩
    case round =>
      obtain ⟨k, q, hk0, hk, rfl, rfl, rfl⟩ := hrel
      by_cases hlt : (k : Int) ≤ hi
      · have c1 := tri_cell hP m k (by omega) (by omega)
        have c2 := tri_cell hP (p - m) (s - k) (by omega) (by omega)
        have t1 : ((p : Int) - m).toNat = p - m := by omega
        have t2 : ((s : Int) - k).toNat = s - k := by omega
        have t3 : 0 ≤ (p : Int) - m := by omega
        have t4 : 0 ≤ (s : Int) - k := by omega
        have t5 : (p : Int) - m < 61 := by omega
        have t6 : (s : Int) - k < 61 := by omega
        have t7 : (m : Int) < 61 := by omega
        have t8 : (k : Int) < 61 := by omega
        have e1 : (C m k : Int) * (C (p - m) (s - k) : Int) = (term m (p - m) s k : Int) := by unfold term; simp
        have e2 := term_le m (p - m) s k (by omega)
        have e3 := HP2.out (k + 1) (by omega)
        have e4 := HM.out k hk0
        have e5 := HCs.out
        have e6 : sumTo (term m (p - m) s) (k + 1) = sumTo (term m (p - m) s) k + term m (p - m) s k := rfl
        have E6 := Lib.hid e6
        generalize term m (p - m) s k = tt at e1 e2 e6 E6
        generalize sumTo (term m (p - m) s) k = s1 at e4 e6 E6
        generalize sumTo (term m (p - m) s) lo = s0 at e4
        have t9 : IntKind.i64.wrap ((C m k : Int) * (C (p - m) (s - k) : Int)) = tt := by rw [e1]; exact IntWalk.i64_in _ (by omega)
        have t10 : IntKind.i64.wrap ((s1 : Int) - s0 + tt) = (s1 : Int) - s0 + tt := IntWalk.i64_in _ (by omega)
        have t11 : (k : Int) + 1 ≤ 62 := by omega
        clear e1 e2 e3 e4 e5 e6
        go_wp2_with fail
        go_quiet (fail)
        clear t9 t10
        go_wp2
        go_roundw
        case rel => exact ⟨k + 1, _, by omega, by omega, by go_num, congrArg (Value.int .i64) (by have := E6.out; omega), rfl⟩
        case measure => simp [intOf]; omega
      · obtain rfl : k = max lo (hi + 1).toNat := by omega
        go_wp2
        go_ret
        refine ⟨?_, q, rfl⟩
        unfold many
        rw [HLO.out, HHI.out, HR'.out]
        rfl
  · obtain ⟨hi, hhi⟩ : ∃ hi : Int, min (min h s) m = hi := ⟨_, rfl⟩
    have HHI := Lib.hid hhi
    have q1 : hi ≤ s := by omega
    have q2 : hi ≤ m := by omega
    rw [hhi] at hmin
    have HL0 := Lib.hid (show lo = 0 by omega)
    have hl' : l < 0 := by omega
    clear hlo hhi hl
    have hK : (max (lo : Int) (hi + 1)).toNat = max lo (hi + 1).toNat := by omega
    have HR : span p s m lo hi = (sumTo (term m (p - m) s) (max lo (hi + 1).toNat) : Int) - sumTo (term m (p - m) s) lo := by
      unfold span; rw [hK]; simp
    have HR' := Lib.hid HR; clear HR hK
    have hmono := fun k (h : lo ≤ k) => by
      have h0 := sumTo_mono (term m (p - m) s) lo (k - lo)
      rwa [show lo + (k - lo) = k by omega] at h0
    have hpart := fun k (h : k ≤ s + 1) => part_le m (p - m) s k h
    have hCs : C (m + (p - m)) s ≤ 1152921504606846976 := C_small _ _ (by omega)
    have HM := Lib.hid hmono; clear hmono
    have HP2 := Lib.hid hpart; clear hpart
    have HCs := Lib.hid hCs; clear hCs
    go_enter Try.func23, Try.ntmps23
    go_wp2_with fail
    go_loopw [13, 14] (fun v i wr => ∃ k q : Nat, lo ≤ k ∧ k ≤ max lo (hi + 1).toNat ∧ i = .int .i64 k ∧ v = .int .i64 ((sumTo (term m (p - m) s) k : Int) - sumTo (term m (p - m) s) lo) ∧ wr = w.drewN q) (fun _ i _ => max lo (hi + 1).toNat - (intOf i).toNat)
    case atStart => exact ⟨lo, 0, Nat.le_refl _, by omega, congrArg (Value.int .i64) (by have := HL0.out; omega), by simp, rfl⟩
    case round =>
      obtain ⟨k, q, hk0, hk, rfl, rfl, rfl⟩ := hrel
      by_cases hlt : (k : Int) ≤ hi
      · have c1 := tri_cell hP m k (by omega) (by omega)
        have c2 := tri_cell hP (p - m) (s - k) (by omega) (by omega)
        have t1 : ((p : Int) - m).toNat = p - m := by omega
        have t2 : ((s : Int) - k).toNat = s - k := by omega
        have t3 : 0 ≤ (p : Int) - m := by omega
        have t4 : 0 ≤ (s : Int) - k := by omega
        have t5 : (p : Int) - m < 61 := by omega
        have t6 : (s : Int) - k < 61 := by omega
        have t7 : (m : Int) < 61 := by omega
        have t8 : (k : Int) < 61 := by omega
        have e1 : (C m k : Int) * (C (p - m) (s - k) : Int) = (term m (p - m) s k : Int) := by unfold term; simp
        have e2 := term_le m (p - m) s k (by omega)
        have e3 := HP2.out (k + 1) (by omega)
        have e4 := HM.out k hk0
        have e5 := HCs.out
        have e6 : sumTo (term m (p - m) s) (k + 1) = sumTo (term m (p - m) s) k + term m (p - m) s k := rfl
        have E6 := Lib.hid e6
        generalize term m (p - m) s k = tt at e1 e2 e6 E6
        generalize sumTo (term m (p - m) s) k = s1 at e4 e6 E6
        generalize sumTo (term m (p - m) s) lo = s0 at e4
        have t9 : IntKind.i64.wrap ((C m k : Int) * (C (p - m) (s - k) : Int)) = tt := by rw [e1]; exact IntWalk.i64_in _ (by omega)
        have t10 : IntKind.i64.wrap ((s1 : Int) - s0 + tt) = (s1 : Int) - s0 + tt := IntWalk.i64_in _ (by omega)
        have t11 : (k : Int) + 1 ≤ 62 := by omega
        clear e1 e2 e3 e4 e5 e6
        go_wp2_with fail
        go_quiet (fail)
        clear t9 t10
        go_wp2
        go_roundw
        case rel => exact ⟨k + 1, _, by omega, by omega, by go_num, congrArg (Value.int .i64) (by have := E6.out; omega), rfl⟩
        case measure => simp [intOf]; omega
      · obtain rfl : k = max lo (hi + 1).toNat := by omega
        go_wp2
        go_ret
        refine ⟨?_, q, rfl⟩
        unfold many
        rw [HLO.out, HHI.out, HR'.out]
        rfl
end Go.Proofs.Ythgfajilpnjihaa
