/-
  Layer 39: Pascal's triangle in memory.
-/
import Derived.Test.YthgfajilpnjihaaOpen
import Derived.Test.YthgfajilpnjihaaChooseMath
import Derived.Test.YthgfajilpnjihaaRows
import Derived.BigRegion
namespace Go.Proofs.Ythgfajilpnjihaa
open Go.RowKit

/-- What stands in row a, column b, when the rows before n and k columns of row n are done. -/
def val (n k a b : Nat) : Int := if a < n ∨ (a = n ∧ b < k) then (C a b : Int) else 0
/-- Block g holds the triangle so far. -/
def Part (g n k : Nat) (w : World) : Prop := ∃ cs : Array Value, Box g 45 cs w ∧ cs.size = 3721 ∧ ∀ a b, a < 61 → b < 61 → cs[a * 61 + b]? = some (.int .i64 (val n k a b))
theorem Part.cell {g n k : Nat} {w : World} (h : Part g n k w) (a b : Nat) (ha : a < 61) (hb : b < 61) : w.cell? ⟨g, a * 61 + b, none⟩ = some (.int .i64 (val n k a b)) := by
  obtain ⟨cs, h1, _, h2⟩ := h
  rw [h1.at_]; exact h2 a b ha hb
theorem Part.open_ {g n k : Nat} {w : World} (h : Part g n k w) (i : Nat) : w.frozen? ⟨g, i, none⟩ = false := by
  obtain ⟨cs, h1, _, _⟩ := h
  exact h1.open_ i
theorem Part.put {g n k : Nat} {w : World} (h : Part g n k w) (n' k' a b : Nat) (u : Int) (ha : a < 61) (hb : b < 61) (hu : u = val n' k' a b) (hs : ∀ a' b', a' < 61 → b' < 61 → ¬ (a' = a ∧ b' = b) → val n k a' b' = val n' k' a' b') :
    Part g n' k' (w.setCell ⟨g, a * 61 + b, none⟩ (.int .i64 u)) := by
  obtain ⟨cs, h1, h2, h3⟩ := h
  refine ⟨_, h1.put _ _, by simpa using h2, fun a' b' ha' hb' => ?_⟩
  rw [Array.getElem?_setIfInBounds]
  by_cases e : a * 61 + b = a' * 61 + b'
  · have e1 : a' = a ∧ b' = b := by omega
    rw [if_pos e, if_pos (by omega), e1.1, e1.2, hu]
  · rw [if_neg e, h3 a' b' ha' hb', hs a' b' ha' hb' (by rintro ⟨rfl, rfl⟩; exact e rfl)]
theorem Part.same {g n k n' k' : Nat} {w : World} (h : Part g n k w) (hs : ∀ a b, a < 61 → b < 61 → val n k a b = val n' k' a b) : Part g n' k' w := by
  obtain ⟨cs, h1, h2, h3⟩ := h
  exact ⟨cs, h1, h2, fun a b ha hb => by rw [h3 a b ha hb, hs a b ha hb]⟩
theorem Part.drew {g n k : Nat} {w : World} (h : Part g n k w) : Part g n k w.drew := h

def zeros : Array Value := Array.replicate 3721 (.int .i64 0)

set_option maxRecDepth 1000000 in
theorem zero_tri (w : World) : (zeroValue 45).run Try.prog w = .ok (.agg zeros) w := by kernel_rfl

theorem part_blank (g : Nat) (w : World) (h : Box g 45 zeros w) : Part g 0 0 w := by
  refine ⟨zeros, h, by simp [zeros], fun a b ha hb => ?_⟩
  unfold val zeros
  rw [if_neg (by omega)]
  simp [Array.getElem?_replicate]
  omega

set_option maxHeartbeats 1000000 in
theorem pascal_any (w : World) : Calls Try.prog 21 #[] w fun e w' => e = .returned (.pointer (some ⟨w.heap.size, 0, none⟩)) ∧ Part w.heap.size 61 0 w' ∧ Below w.heap.size w w' := by
  have hz := zero_tri
  go_enter Try.func21, Try.ntmps21
  go_wp2_with fail
  have hB := part_blank w.heap.size _ (Box.made w 45 zeros)
  have hbel0 := (Below.refl w.heap.size w).alloc (Nat.le_refl _) (.cells zeros 45)
  generalize w.alloc (.cells zeros 45) = ws at hB hbel0
  go_loopw [4] (fun i wr => ∃ n : Nat, n ≤ 61 ∧ i = .int .i64 n ∧ Part w.heap.size n 0 wr ∧ Below w.heap.size w wr) (fun i _ => 61 - (intOf i).toNat)
  case atStart => exact ⟨0, by omega, rfl, hB, hbel0⟩
  case round =>
    obtain ⟨n, hn, rfl, hP, hbel⟩ := hrel
    by_cases hlt : n < 61
    · have c0 := hP.cell n 0 hlt (by omega)
      have f0 := hP.open_ (n * 61 + 0)
      rw [Nat.add_zero] at c0 f0
      have hP1 := hP.put n 1 n 0 1 hlt (by omega) (by unfold val; rw [if_pos (by omega), C_zero]; rfl) (fun a' b' _ _ h => by unfold val; split <;> split <;> first | rfl | (exfalso; omega))
      have hbel1 := hbel.setCell (p := ⟨w.heap.size, n * 61 + 0, none⟩) (Nat.le_refl _) (.int .i64 1)
      rw [Nat.add_zero] at hP1 hbel1
      clear hP hbel
      go_wp2_with fail
      go_loopw [3] (fun i wr => ∃ k : Nat, 1 ≤ k ∧ k ≤ n + 1 ∧ i = .int .i64 k ∧ Part w.heap.size n k wr ∧ Below w.heap.size w wr) (fun i _ => n + 1 - (intOf i).toNat)
      case atStart => exact ⟨1, by omega, by omega, rfl, hP1, hbel1⟩
      case round =>
        obtain ⟨k, hk0, hk, rfl, hP, hbel⟩ := hrel
        by_cases hkn : k ≤ n
        · have d1 := hP.cell (n - 1) (k - 1) (by omega) (by omega)
          have d2 := hP.cell (n - 1) k (by omega) (by omega)
          have d3 := hP.cell n k (by omega) (by omega)
          have v1 : val n k (n - 1) (k - 1) = C (n - 1) (k - 1) := by unfold val; rw [if_pos (by omega)]
          have v2 : val n k (n - 1) k = C (n - 1) k := by unfold val; rw [if_pos (by omega)]
          have v3 : (C (n - 1) (k - 1) : Int) + C (n - 1) k = C n k := by
            obtain ⟨n', rfl⟩ : ∃ n', n = n' + 1 := ⟨n - 1, by omega⟩
            obtain ⟨k', rfl⟩ : ∃ k', k = k' + 1 := ⟨k - 1, by omega⟩
            rw [C_succ]; simp
          have v4 := C_small n k (by omega)
          rw [v1] at d1
          rw [v2] at d2
          have f1 := hP.open_ (n * 61 + k)
          have hP' := hP.put n (k + 1) n k (C n k) (by omega) (by omega) (by unfold val; rw [if_pos (by omega)]) (fun a' b' _ _ h => by unfold val; split <;> split <;> first | rfl | (exfalso; omega))
          have hbel' := hbel.setCell (p := ⟨w.heap.size, n * 61 + k, none⟩) (Nat.le_refl _) (.int .i64 (C n k))
          have hP'' := Lib.hid hP'.drew
          have hbel'' := Lib.hid hbel'.drew
          have t1 : ((n : Int) - 1).toNat = n - 1 := by omega
          have t2 : ((k : Int) - 1).toNat = k - 1 := by omega
          have t3 : 0 ≤ (n : Int) - 1 := by omega
          have t4 : 0 ≤ (k : Int) - 1 := by omega
          have t5 : (n : Int) - 1 < 61 := by omega
          have t6 : (k : Int) - 1 < 61 := by omega
          have t7 : (n : Int) < 61 := by omega
          have t8 : (k : Int) < 61 := by omega
          generalize val n k n k = old at d3
          have v5 : IntKind.i64.wrap ((C (n - 1) (k - 1) : Int) + C (n - 1) k) = C n k := by rw [v3]; exact IntWalk.i64_in _ (by omega)
          clear hP hbel hP' hbel' v1 v2 v3
          go_wp2_with fail
          go_region
          go_wp2
          go_roundw
          case rel => exact ⟨k + 1, by omega, by omega, by go_num, hP''.out, hbel''.out⟩
          case measure => simp [intOf]; omega
        · obtain rfl : k = n + 1 := by omega
          have hP2 : Part w.heap.size (n + 1) 0 _ := hP.same fun a b ha hb => by
            unfold val
            by_cases h1 : a < n
            · rw [if_pos (by omega), if_pos (by omega)]
            · by_cases h2 : a = n
              · subst h2
                by_cases h3 : b < a + 1
                · rw [if_pos (by omega), if_pos (by omega)]
                · rw [if_neg (by omega), if_pos (by omega), C_big a b (by omega)]; rfl
              · rw [if_neg (by omega), if_neg (by omega)]
          clear hP hP1 hbel1 c0 f0
          go_wp2
          go_roundw
          case rel => exact ⟨n + 1, by omega, by go_num, hP2, hbel⟩
          case measure => simp [intOf]; omega
    · obtain rfl : n = 61 := by omega
      go_wp2
      go_ret
      exact ⟨rfl, hP, hbel⟩

/-- The whole triangle. -/
theorem tri_cell {g : Nat} {w : World} (h : Part g 61 0 w) (a b : Nat) (ha : a < 61) (hb : b < 61) : w.cell? ⟨g, a * 61 + b, none⟩ = some (.int .i64 (C a b)) := by
  have h1 := h.cell a b ha hb
  unfold val at h1
  rwa [if_pos (by omega)] at h1
theorem Part.below {g n k : Nat} {w w' : World} (h : Part g n k w) {B : Nat} (hb : Below B w w') (hg : g < B) : Part g n k w' := by
  obtain ⟨cs, h1, h2, h3⟩ := h
  exact ⟨cs, h1.under hb hg, h2, h3⟩
theorem Part.lt {g n k : Nat} {w : World} (h : Part g n k w) : g < w.heap.size := by
  obtain ⟨cs, h1, h2, h3⟩ := h
  exact h1.inside

set_option maxHeartbeats 400000 in
theorem within_yes (n l m : Int) (w : World) (h1 : l ≤ n) (h2 : n ≤ m) : Calls Try.prog 19 #[.int .i64 n, .int .i64 l, .int .i64 m] w fun e w' => e = .returned (.bool true) ∧ w = w' := by
  go_enter Try.func19, Try.ntmps19
  go_wp2
  go_ret
  exact ⟨rfl, rfl⟩
set_option maxHeartbeats 400000 in
theorem within_no (n l m : Int) (w : World) (h : n < l ∨ m < n) : Calls Try.prog 19 #[.int .i64 n, .int .i64 l, .int .i64 m] w fun e w' => e = .returned (.bool false) ∧ w = w' := by
  by_cases h1 : l ≤ n
  · have h2 : m < n := by omega
    clear h
    go_enter Try.func19, Try.ntmps19
    go_wp2
    go_ret
    exact ⟨congrArg (fun b => Ending.returned (.bool b)) (decide_eq_false (by omega)), rfl⟩
  · have h2 : n < l := by omega
    clear h h1
    go_enter Try.func19, Try.ntmps19
    go_wp2
    go_ret
    exact ⟨rfl, rfl⟩

set_option maxHeartbeats 1000000 in
theorem choose_ok (n k : Nat) (w : World) (h1 : n ≤ 60) (h2 : k ≤ n) : Calls Try.prog 12 #[.int .i64 n, .int .i64 k] w fun e w' => e = .returned (.tuple #[.int .i64 (C n k), .int .i64 0]) ∧ Below w.heap.size w w' := by
  go_enter Try.func12, Try.ntmps12
  go_wp2_with fail
  refine (within_yes _ _ _ _ (by omega) (by omega)).mono ?_
  rintro e w1 ⟨rfl, rfl⟩
  go_wp2_with fail
  refine (within_yes _ _ _ _ (by omega) (by omega)).mono ?_
  rintro e w1 ⟨rfl, rfl⟩
  go_wp2_with fail
  refine (pascal_any _).mono ?_
  rintro e w1 ⟨rfl, hP, hb⟩
  have hc := tri_cell hP n k (by omega) (by omega)
  clear hP
  go_wp2
  go_ret2
  exact ⟨rfl, hb⟩
set_option maxHeartbeats 1000000 in
theorem choose_no (n k : Int) (w : World) (h1 : n < 0 ∨ 60 < n) : Calls Try.prog 12 #[.int .i64 n, .int .i64 k] w fun e w' => e = .returned (.tuple #[.int .i64 0, .int .i64 1]) ∧ w = w' := by
  go_enter Try.func12, Try.ntmps12
  go_wp2_with fail
  refine (within_no _ _ _ _ h1).mono ?_
  rintro e w1 ⟨rfl, rfl⟩
  clear h1
  go_wp2
  go_ret2
  exact ⟨rfl, rfl⟩
end Go.Proofs.Ythgfajilpnjihaa
