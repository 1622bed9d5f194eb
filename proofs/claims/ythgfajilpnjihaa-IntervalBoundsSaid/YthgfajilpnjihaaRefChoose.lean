/-
  Layer 39: the reference's numbers of sets.
-/
import Derived.Test.YthgfajilpnjihaaAtLeast
import Derived.Laws.MakeOwn
import Derived.BigRegion
namespace Go.Proofs.Ythgfajilpnjihaa
open Go.RowKit

/-- Block g holds just f 0, f 1, .. f (n + 1). -/
def RowIs (g n : Nat) (f : Nat → Nat) (w : World) : Prop := ∃ cs : Array Value, Box g 3 cs w ∧ cs.size = n + 2 ∧ ∀ b, b < n + 2 → cs[b]? = some (.int .i64 (f b : Int))
theorem RowIs.cell {g n : Nat} {f : Nat → Nat} {w : World} (h : RowIs g n f w) (b : Nat) (hb : b < n + 2) : w.cell? ⟨g, b, none⟩ = some (.int .i64 (f b : Int)) := by
  obtain ⟨cs, h1, _, h2⟩ := h
  rw [h1.at_]; exact h2 b hb
theorem RowIs.open_ {g n : Nat} {f : Nat → Nat} {w : World} (h : RowIs g n f w) (i : Nat) : w.frozen? ⟨g, i, none⟩ = false := by
  obtain ⟨cs, h1, _, _⟩ := h
  exact h1.open_ i
theorem RowIs.put {g n : Nat} {f f' : Nat → Nat} {w : World} (h : RowIs g n f w) (a : Nat) (u : Nat) (ha : a < n + 2) (hu : u = f' a) (hs : ∀ b, b < n + 2 → b ≠ a → f b = f' b) : RowIs g n f' (w.setCell ⟨g, a, none⟩ (.int .i64 (u : Int))) := by
  obtain ⟨cs, h1, h2, h3⟩ := h
  refine ⟨_, h1.put _ _, by simpa using h2, fun b hb => ?_⟩
  rw [Array.getElem?_setIfInBounds]
  by_cases e : a = b
  · subst e; rw [if_pos rfl, if_pos (by omega), hu]
  · rw [if_neg e, h3 b hb, hs b hb (fun h => e h.symm)]
theorem RowIs.same {g n : Nat} {f f' : Nat → Nat} {w : World} (h : RowIs g n f w) (hs : ∀ b, b < n + 2 → f b = f' b) : RowIs g n f' w := by
  obtain ⟨cs, h1, h2, h3⟩ := h
  exact ⟨cs, h1, h2, fun b hb => by rw [h3 b hb, hs b hb]⟩

theorem RowIs.drew {g n : Nat} {f : Nat → Nat} {w : World} (h : RowIs g n f w) : RowIs g n f w.drew := h

theorem row_zeros (n : Nat) (w : World) : RowIs w.heap.size n (fun _ => 0) (w.alloc (.cells (madeCells (Value.int .i64 0).cells (n + 2)) 3)) := by
  refine ⟨_, Box.made _ _ _, by simp [madeCells], fun b hb => ?_⟩
  simp [madeCells, hb, Value.cells, Nat.mod_one]

theorem Try.info3 : (Try.prog.info? 3).map (fun i => (i.zero, i.size, i.bytes)) = some (some (.int .i64 0), 1, 8) := by kernel_rfl

def CI (n : Nat) (k : Int) : Int := if k < 0 then 0 else (C n k.toNat : Int)

set_option maxHeartbeats 2000000 in
theorem rchoose_any (n : Nat) (k : Int) (w : World) (hn : n ≤ 60) : Calls Try.prog 27 #[.int .i64 n, .int .i64 k] w fun e w' => e = .returned (.int .i64 (CI n k)) ∧ Below w.heap.size w w' := by
  by_cases hk0 : k < 0
  · have h := Lib.hid (show CI n k = 0 by unfold CI; rw [if_pos hk0])
    go_enter Try.func27, Try.ntmps27
    go_wp2
    go_ret
    exact ⟨by rw [h.out]; rfl, Below.refl _ _⟩
  have hk1 : 0 ≤ k := by omega
  obtain ⟨k, rfl⟩ := Int.eq_ofNat_of_zero_le hk1
  have hCI := Lib.hid (show CI n (k : Int) = C n k by unfold CI; rw [if_neg (by omega)]; simp)
  clear hk0 hk1
  by_cases hkn : n < k
  · have h := Lib.hid (C_big n k hkn)
    have h' : (n : Int) < k := by omega
    go_enter Try.func27, Try.ntmps27
    go_wp2
    go_ret
    exact ⟨by rw [hCI.out, h.out]; rfl, Below.refl _ _⟩
  have hkn' : (k : Int) ≤ n := by omega
  obtain ⟨i0, hi, hz0, hz1, hz2⟩ := info_parts Try.info3
  have hmk := fun W : World => run_make (P := Try.prog) W 28 3 i0 (.int .i64 0) Try.underlying28 hi hz0 .i64 .i64 ((n : Int) + 2) ((n : Int) + 2) (by omega) (by omega) (by rw [hz2]; omega) (by omega)
  rw [hz1, show ((n : Int) + 2).toNat = n + 2 by omega, Nat.mul_one] at hmk
  go_enter Try.func27, Try.ntmps27
  have hR0 := row_zeros n w
  have hbel0 := (Below.refl w.heap.size w).alloc (Nat.le_refl _) (.cells (madeCells (Value.int .i64 0).cells (n + 2)) 3)
  generalize hws : w.alloc (.cells (madeCells (Value.int .i64 0).cells (n + 2)) 3) = ws at hR0 hbel0
  have c0 := hR0.cell 0 (by omega)
  have f0 := hR0.open_ 0
  have hws' : w.alloc (.cells (madeCells #[.int .i64 0] (n + 2)) 3) = ws := hws
  clear hws
  go_wp2_with fail
  have hR1 := hR0.put (f' := fun b => C 0 b) 0 1 (by omega) (by rfl) (fun b _ hb => by rw [C_big 0 b (by omega)])
  have hb1 := hbel0.setCell (p := ⟨w.heap.size, 0, none⟩) (Nat.le_refl _) (.int .i64 1)
  clear hR0 hbel0 c0 f0 hws' hmk
  have hR2 : RowIs w.heap.size n (fun b => C 0 b) (ws.setCell ⟨w.heap.size, 0, none⟩ (.int .i64 1)) := hR1
  clear hR1
  generalize ws.setCell ⟨w.heap.size, 0, none⟩ (.int .i64 1) = wt at hb1 hR2
  go_loopw [6] (fun i wr => ∃ a : Nat, 1 ≤ a ∧ a ≤ n + 1 ∧ i = .int .i64 a ∧ RowIs w.heap.size n (fun b => C (a - 1) b) wr ∧ Below w.heap.size w wr) (fun i _ => n + 1 - (intOf i).toNat)
  case atStart => exact ⟨1, by omega, by omega, rfl, hR2, hb1⟩
  case round =>
    obtain ⟨a, ha1, ha2, rfl, hR, hbel⟩ := hrel
    by_cases han : a ≤ n
    · go_wp2_with fail
      go_loopw [7] (fun i wr => ∃ j : Nat, j ≤ a ∧ i = .int .i64 j ∧ RowIs w.heap.size n (fun b => if j < b then C a b else C (a - 1) b) wr ∧ Below w.heap.size w wr) (fun i _ => (intOf i).toNat)
      case atStart => exact ⟨a, Nat.le_refl _, rfl, hR.same fun b hb => by
          by_cases h : a < b
          · rw [if_pos h, C_big a b h, C_big (a - 1) b (by omega)]
          · rw [if_neg h], hbel⟩
      case round =>
        obtain ⟨j, hj, rfl, hR3, hbel3⟩ := hrel
        by_cases hj0 : 0 < j
        · have d1 := hR3.cell j (by omega)
          have d2 := hR3.cell (j - 1) (by omega)
          rw [if_neg (by omega)] at d1 d2
          have v3 : (C (a - 1) j : Int) + C (a - 1) (j - 1) = C a j := by
            obtain ⟨a', rfl⟩ : ∃ a', a = a' + 1 := ⟨a - 1, by omega⟩
            obtain ⟨j', rfl⟩ : ∃ j', j = j' + 1 := ⟨j - 1, by omega⟩
            rw [C_succ]; simp; omega
          have v4 := C_small a j (by omega)
          have v5 : IntKind.i64.wrap ((C (a - 1) j : Int) + C (a - 1) (j - 1)) = C a j := by rw [v3]; exact IntWalk.i64_in _ (by omega)
          have f1 := hR3.open_ j
          have hR4 := hR3.put (f' := fun b => if j - 1 < b then C a b else C (a - 1) b) j (C a j) (by omega) (by rw [if_pos (by omega)]) (fun b _ hb => by
            by_cases h : j < b
            · rw [if_pos h, if_pos (by omega)]
            · rw [if_neg h, if_neg (by omega)])
          have HR4 := Lib.hid hR4.drew
          have HB4 := Lib.hid (hbel3.setCell (p := ⟨w.heap.size, j, none⟩) (Nat.le_refl _) (.int .i64 (C a j))).drew
          have t1 : ((j : Int) - 1).toNat = j - 1 := by omega
          have t2 : 0 ≤ (j : Int) - 1 := by omega
          have t3 : (j : Int) - 1 < n + 2 := by omega
          have t4 : (j : Int) < n + 2 := by omega
          have t5 : (j : Int) - 1 < ((n + 2 : Nat) : Int) := by omega
          clear v3 v4 hR3 hR4 hbel3
          go_wp2_with fail
          go_region
          go_wp2
          go_roundw
          case rel => exact ⟨j - 1, by omega, congrArg (Value.int .i64) (by omega), HR4.out, HB4.out⟩
          case measure => simp [intOf]; omega
        · obtain rfl : j = 0 := by omega
          have hR5 : RowIs w.heap.size n (fun b => C (a + 1 - 1) b) _ := hR3.same fun b hb => by
            by_cases h : 0 < b
            · rw [if_pos h]; rfl
            · obtain rfl : b = 0 := by omega
              rw [if_neg h, C_zero, C_zero]
          clear hR3 hR
          go_wp2
          go_roundw
          case rel => exact ⟨a + 1, by omega, by omega, by go_num, hR5, hbel3⟩
          case measure => simp [intOf]; omega
    · obtain rfl : a = n + 1 := by omega
      have hR' : RowIs w.heap.size n (fun b => C n b) _ := hR
      have d1 := hR'.cell k (by omega)
      clear hR hR' hR2
      have t4 : (k : Int) < n + 2 := by omega
      go_wp2
      go_ret
      exact ⟨by rw [hCI.out]; rfl, hbel⟩
end Go.Proofs.Ythgfajilpnjihaa
