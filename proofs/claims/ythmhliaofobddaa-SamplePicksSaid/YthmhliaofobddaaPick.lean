/-
  Layer 37: the contracts of bounds.Within and sample.Pick, and the positions as plain mathematics.
-/
import Derived.Test.YthmhliaofobddaaOpen
import Derived.Test.YthmhliaofobddaaMill
namespace Go.Proofs.Ythmhliaofobddaa
open Go.RowKit

set_option maxHeartbeats 400000 in
theorem within_yes (n l m : Int) (w : World) (h1 : l ≤ n) (h2 : n ≤ m) : Calls Try.prog 10 #[.int .i64 n, .int .i64 l, .int .i64 m] w fun e w' => e = .returned (.bool true) ∧ w = w' := by
  go_enter Try.func10, Try.ntmps10
  go_wp2
  go_ret
  exact ⟨rfl, rfl⟩
set_option maxHeartbeats 400000 in
theorem within_no (n l m : Int) (w : World) (h : n < l ∨ m < n) : Calls Try.prog 10 #[.int .i64 n, .int .i64 l, .int .i64 m] w fun e w' => e = .returned (.bool false) ∧ w = w' := by
  by_cases h1 : l ≤ n
  · have h2 : m < n := by omega
    clear h
    go_enter Try.func10, Try.ntmps10
    go_wp2
    go_ret
    exact ⟨congrArg (fun b => Ending.returned (.bool b)) (decide_eq_false (by omega)), rfl⟩
  · have h2 : n < l := by omega
    clear h h1
    go_enter Try.func10, Try.ntmps10
    go_wp2
    go_ret
    exact ⟨congrArg (fun b => Ending.returned (.bool b)) (by first | rfl | exact decide_eq_false (by omega)), rfl⟩

/-- How many positions there are, and which. -/
def cnt (n r f : Int) : Nat := if f < n then ((n - 1 - f) / r + 1).toNat else 0
def picks (n r f : Int) : List Int := (List.range (cnt n r f)).map (fun j : Nat => f + (j : Int) * r)
theorem picks_len (n r f : Int) : (picks n r f).length = cnt n r f := by simp [picks]
theorem cnt_iff (n r f : Int) (k : Nat) (hr : 0 < r) : f + (k : Int) * r < n ↔ k < cnt n r f := by
  unfold cnt
  by_cases h : f < n
  · rw [if_pos h]
    have h1 : (k : Int) ≤ (n - 1 - f) / r ↔ (k : Int) * r ≤ n - 1 - f := Int.le_ediv_iff_mul_le hr
    have h2 : 0 ≤ (n - 1 - f) / r := Int.ediv_nonneg (by omega) (by omega)
    omega
  · rw [if_neg h]
    have : 0 ≤ (k : Int) * r := Int.mul_nonneg (by omega) (by omega)
    omega
theorem picks_take (n r f : Int) (k : Nat) (h : k < cnt n r f) : ((picks n r f).take (k + 1)) = (picks n r f).take k ++ [f + (k : Int) * r] := by
  rw [take_more _ _ (by rw [picks_len]; exact h)]
  congr 2
  rw [List.getD_eq_getElem?_getD]
  simp [picks, h]
theorem picks_at (n r f : Int) (k : Nat) (h : k < cnt n r f) : (picks n r f).getD k 0 = f + (k : Int) * r := by
  rw [List.getD_eq_getElem?_getD]
  simp [picks, h]

theorem Try.info3 : (Try.prog.info? 3).map (fun i => (i.zero, i.size, i.bytes)) = some (some (.int .i64 0), 1, 8) := by kernel_rfl

set_option maxHeartbeats 1000000 in
theorem pick_ok (n r f : Int) (w : World) (h1 : 0 ≤ n) (h2 : n ≤ 1073741824) (h3 : 1 ≤ r) (h4 : r ≤ 1048576) (h5 : 0 ≤ f) (h6 : f ≤ r - 1) (hc : cnt n r f ≤ 1000) :
    Calls Try.prog 6 #[.int .i64 n, .int .i64 r, .int .i64 f] w fun e w' => ∃ v, e = .returned (.tuple #[v, .int .i64 0]) ∧
      w'.ownsRow w.heap.size 3 1 v (cnt n r f) ((picks n r f).map (Value.int .i64)) ∧ Below w.heap.size w w' := by
  have HC := Lib.hid hc
  have hiff := Lib.hid (fun k => cnt_iff n r f k (by omega))
  have hq : f < n → 0 ≤ (n - 1 - f) / r ∧ (n - 1 - f) / r < 1000 := fun h => by
    have h2 : 0 ≤ (n - 1 - f) / r := Int.ediv_nonneg (by omega) (by omega)
    have h7 := hc
    unfold cnt at h7
    rw [if_pos h] at h7
    omega
  clear hc
  go_enter Try.func6, Try.ntmps6
  go_wp2_with fail
  refine (within_yes _ _ _ _ h1 h2).mono ?_
  rintro e w1 ⟨rfl, rfl⟩
  go_wp2_with fail
  refine (within_yes _ _ _ _ h3 h4).mono ?_
  rintro e w1 ⟨rfl, rfl⟩
  go_wp2_with fail
  refine (within_yes _ _ _ _ h5 h6).mono ?_
  rintro e w1 ⟨rfl, rfl⟩
  by_cases hfn : f < n
  · obtain ⟨q0, q1⟩ := hq hfn
    clear hq
    go_wp2_with fail
    go_loopw [8, 9] (fun v i wr => ∃ (k : Nat) (x : Int), k ≤ cnt n r f ∧ Hid (x = f + (k : Int) * r) ∧ 0 ≤ x ∧ x < n + r ∧ i = .int .i64 x ∧ wr.ownsRow w.heap.size 3 1 v k (((picks n r f).take k).map (Value.int .i64)) ∧ Below w.heap.size w wr)
      (fun _ i _ => (n + r - intOf i).toNat)
    case atStart => exact ⟨0, f, Nat.zero_le _, Lib.hid (by simp), by omega, by omega, rfl, World.ownsRow_nil _ _ _ _, Below.refl _ _⟩
    case round =>
      obtain ⟨k, x, hk, hx, hx0, hx1, rfl, hown, hbel⟩ := hrel
      by_cases hlt : x < n
      · have hkc : k < cnt n r f := (hiff.out k).1 (by have := hx.out; omega)
        have hmore := Lib.hid (picks_take n r f k hkc)
        go_wp2_with (at_builtin; refine push_one rfl _ _ 23 rfl w.heap.size 3 (.int .i64 0) 8 Try.underlying23 Try.info3 rfl _ k _ rfl hown (.int .i64 x) rfl rfl ?c1 ?c2 ?c3 ?_)
        case c1 => have := HC.out; unfold maxLen; omega
        case c2 => have := HC.out; omega
        case c3 => exact hbel.size
        intro v' w1 hown' hgrow
        have hb' := push_below hbel hown hgrow (Nat.le_refl _) hbel.size
        clear hgrow hown hbel
        have hown2 : w1.ownsRow w.heap.size 3 1 v' (k + 1) (((picks n r f).take (k + 1)).map (Value.int .i64)) := by
          rw [hmore.out, List.map_append]
          have e := hx.out
          rw [← e]; simpa using hown'
        clear hown' hmore
        go_wp2
        go_roundw
        case rel => exact ⟨k + 1, x + r, by omega, Lib.hid (by have := hx.out; rw [show ((k + 1 : Nat) : Int) = (k : Int) + 1 by omega, Int.add_mul]; omega), by omega, by omega, rfl, hown2, hb'⟩
        case measure => simp [intOf]; omega
      · have hkc : cnt n r f = k := by
          have h := (hiff.out k)
          have e := hx.out
          rw [← e] at h
          omega
        rw [List.take_of_length_le (by rw [picks_len]; omega)] at hown
        obtain rfl : k = cnt n r f := hkc.symm
        clear hiff HC hkc
        go_wp2
        go_ret2
        exact ⟨_, rfl, hown, hbel⟩
  · have hkc : cnt n r f = 0 := by unfold cnt; rw [if_neg hfn]
    have hnil : picks n r f = [] := List.length_eq_zero_iff.1 (by rw [picks_len, hkc])
    have HK := Lib.hid hkc
    have HN := Lib.hid hnil
    clear hiff HC hkc hnil hq
    go_wp2_with fail
    refine wp_loop_rounds 1 ?_
    rw [rounds_succ]
    go_wp2
    go_ret2
    refine ⟨_, rfl, ?_, Below.refl _ _⟩
    rw [HK.out, HN.out]
    exact World.ownsRow_nil _ _ _ _
end Go.Proofs.Ythmhliaofobddaa
