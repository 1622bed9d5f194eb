/-
  percentile.Percentile.
-/
import Derived.Test.YtlehkllcbedkhaaSorted
namespace Go.Proofs.Ytlehkllcbedkhaa
open Go.RowKit
set_option maxHeartbeats 400000 in
theorem within_any (x lo hi : Int) (w : World) : Calls Try.prog 31 #[.int .i64 x, .int .i64 lo, .int .i64 hi] w fun e w' => e = .returned (.bool (decide (lo ≤ x) && decide (x ≤ hi))) ∧ w = w' := by
  go_enter Try.func31, Try.ntmps31
  by_cases h1 : lo ≤ x
  · have h1' : decide (x ≥ lo) = true := by simpa using h1
    by_cases h2 : x ≤ hi
    · go_wp2
      go_ret
      exact ⟨by simp; omega, rfl⟩
    · go_wp2
      go_ret
      exact ⟨by simp [h2], rfl⟩
  · go_wp2
    go_ret
    exact ⟨by simp; omega, rfl⟩

def rankOf (p : Int) (n : Nat) : Nat := ((p * n + 99) / 100).toNat - 1
theorem rank_lt (p : Int) (n : Nat) (h0 : 1 ≤ p) (h1 : p ≤ 100) (hn : 0 < n) : ((p * n + 99) / 100 : Int) = (rankOf p n : Int) + 1 ∧ rankOf p n < n := by
  have a : (1 : Int) * n ≤ p * n := Int.mul_le_mul_of_nonneg_right h0 (by omega)
  have b : p * n ≤ 100 * (n : Int) := Int.mul_le_mul_of_nonneg_right h1 (by omega)
  generalize hm : p * (n : Int) = m at a b
  have e : rankOf p n = ((m + 99) / 100).toNat - 1 := by unfold rankOf; rw [hm]
  rw [e]
  omega

set_option maxHeartbeats 1000000 in
theorem pctl_none (p : Int) (A : Option Addr) (c : Nat) (w : World) (h0 : 1 ≤ p) (h1 : p ≤ 100) :
    Calls Try.prog 22 #[.slice A 0 c, .int .i64 p] w fun e w' => e = .returned (.tuple #[.int .i64 0, .int .i64 39]) ∧ w = w' := by
  have HW := Lib.hid (fun w => within_any p 1 100 w)
  rw [decide_eq_true h0, decide_eq_true h1] at HW
  go_enter Try.func22, Try.ntmps22
  go_wp2_with fail
  refine (HW.out _).mono ?_
  rintro e w1 ⟨rfl, rfl⟩
  go_wp2
  go_ret2
  exact ⟨rfl, rfl⟩

set_option maxHeartbeats 2000000 in
theorem pctl_some (p : Int) (A : Option Addr) (n c : Nat) (zs : List Int) (w : World) (h0 : 1 ≤ p) (h1 : p ≤ 100) (hl : zs.length = n) (hn : 0 < n) (hmax : n ≤ 9000) (hL : SInts w.heap.size w (.slice A n c) zs) :
    Calls Try.prog 22 #[.slice A n c, .int .i64 p] w fun e w' => e = .returned (.tuple #[.int .i64 ((sortZ zs).getD (rankOf p n) 0), .int .i64 0]) ∧ Below w.heap.size w w' := by
  have HW := Lib.hid (fun w => within_any p 1 100 w)
  rw [decide_eq_true h0, decide_eq_true h1] at HW
  obtain ⟨hr, hrn⟩ := rank_lt p n h0 h1 hn
  have a : (1 : Int) * n ≤ p * n := Int.mul_le_mul_of_nonneg_right h0 (by omega)
  have b : p * n ≤ 100 * (n : Int) := Int.mul_le_mul_of_nonneg_right h1 (by omega)
  have hb0 := (Below.refl w.heap.size w).alloc (Nat.le_refl _) (.cells #[.slice A n c] 22)
  have HS := Lib.hid (sorted_any w.heap.size (.slice A n c) zs (by omega) (by omega) (w.alloc (.cells #[.slice A n c] 22)) (by simp) (by simp [(Box.made w 22 #[.slice A n c]).at_ 0]) (by
    obtain ⟨b, o, cap, e, hb, hc⟩ := hL
    exact ⟨b, o, cap, e, by simp; omega, fun j hj => (World.cell?_alloc_lt _ _ ⟨b, o + j, none⟩ hb).trans (hc j hj)⟩))
  have HV := Lib.hid (fun w => values_any A n c w)
  clear hL
  have k1 : (0 : Int) < n := by omega
  have k2 : ((n : Int) == 0) = false := by simp; omega
  have k3 : (n : Int) ≤ 9000 := by omega
  go_enter Try.func22, Try.ntmps22
  go_wp2_with fail
  refine (HW.out _).mono ?_
  rintro e w1 ⟨rfl, rfl⟩
  have hlr : rankOf p n < (sortZ zs).length := by rw [sortZ_length]; omega
  have hlr := Lib.hid hlr
  obtain ⟨r, hrr⟩ : ∃ r, rankOf p n = r := ⟨_, rfl⟩
  rw [hrr] at hr hrn hlr
  replace hrr := Lib.hid hrr
  obtain ⟨x, hx⟩ : ∃ x, (sortZ zs).getD r 0 = x := ⟨_, rfl⟩
  go_upto_region 6 with fail
  go_wp2_with fail
  refine (HV.out _).mono ?_
  rintro e w1 ⟨rfl, rfl⟩
  go_wp2_with fail
  refine HS.out.mono ?_
  rintro e w2 ⟨v, rfl, hown, hb2⟩
  obtain ⟨A2, c2, rfl, -, -, -, k4⟩ := own_open hown
  obtain ⟨a2, rfl, -, hcell⟩ := k4.int hlr.out
  rw [hx] at hcell
  replace hx := Lib.hid hx
  rw [hl] at hown
  clear k4 hown
  have hrz : r < zs.length := by omega
  have hlz := Lib.hid hl
  clear hl
  go_wp2
  go_ret2
  exact ⟨by rw [hrr.out, hx.out]; rfl, hb0.trans (hb2.mono (by simp))⟩
end Go.Proofs.Ytlehkllcbedkhaa
