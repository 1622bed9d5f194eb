/-
  slices.Sorted(slices.Values(..)) at integers.
-/
import Derived.Test.YtlehkllcbedkhaaVals
import Derived.Test.YtlehkllcbedkhaaRankMath
import Derived.Test.YtlehkllcbedkhaaShelf
import Derived.Sort.OwnSortedInts
namespace Go.Proofs.Ytlehkllcbedkhaa
open Go.RowKit Go.Sort Go.Shelf

theorem values_any (a : Option Addr) (len cap : Nat) (w : World) :
    Calls Try.prog 34 #[.slice a len cap] w fun e w' => e = .returned (.func (.func 39) #[] #[.pointer (some ⟨w.heap.size, 0, none⟩)]) ∧ w' = w.alloc (.cells #[.slice a len cap] 22) :=
  (callsIn_wide (n := 6)).1 (values_in Fence.wide 6 trivial rfl a len cap w)

set_option maxHeartbeats 1000000 in
theorem sorted_any (Bv : Nat) (sv : Value) (xs : List Int) (hlen : xs.length ≤ 1000000) (hpos : 0 < xs.length) (w : World) (hBv : Bv < w.heap.size) (hcv : w.cell? ⟨Bv, 0, none⟩ = some sv) (hL : SInts w.heap.size w sv xs) :
    Calls Try.prog 33 #[.func (.func 39) #[] #[.pointer (some ⟨Bv, 0, none⟩)]] w fun e w' => ∃ v, e = .returned v ∧ w'.ownsRow w.heap.size 3 1 v xs.length ((sortZ xs).map (Value.int .i64)) ∧ Below w.heap.size w w' := by
  have HC := Lib.hid ((callsIn_wide (n := 6)).1 (collect_in Fence.wide 6 trivial trivial trivial rfl (by omega) Bv sv xs hlen w hBv hcv hL))
  clear hcv hL
  go_enter Try.func33, Try.ntmps33
  go_wp2_with fail
  refine HC.out.mono ?_
  rintro e w1 ⟨v, rfl, hrow, hb⟩
  rcases hrow.2 with ⟨-, hz⟩ | ⟨g, cap, cur, rfl, hbase, hgb, r1, r2, r3, r4⟩
  · omega
  · have hH : Holds (Value.int .i64) w1 g 0 xs.toArray := holds_of_blockI hgb (by simpa using r4)
    have hgl : g < w1.heap.size := (Array.getElem?_eq_some_iff.1 hgb).1
    have HS := Lib.hid (Try.slices_Sort_int g 0 cap xs w1 hH hgl (by omega))
    go_wp2_with fail
    refine HS.out.mono ?_
    rintro e w2 ⟨rfl, nn, os, rfl⟩
    go_wp2
    go_ret
    exact ⟨_, rfl, ownsRow_sortedI (by simp) hbase hgb r1 r2 r3, hb.grown (grownBy_sortedI _) hb.size (fun j hj => by cases hj; exact hbase)⟩

theorem sints_of_lies {A : Option Addr} {n c : Nat} {zs : List Int} {w : World} (h : Lies w.heap.size A (zs.map (Value.int .i64)) w) (hl : zs.length = n) (hn : 0 < n) : SInts w.heap.size w (.slice A n c) zs := by
  obtain ⟨a, rfl, ha, hc0⟩ := h.int (k := 0) (by omega)
  obtain ⟨b, o, s⟩ := a
  obtain rfl : s = none := by simpa [Addr.add] using World.cell?_spot hc0
  refine ⟨b, o, c, by rw [hl], ha, fun j hj => ?_⟩
  obtain ⟨a', e1, -, h2⟩ := h.int (k := j) hj
  injection e1 with e1
  subst e1
  rw [Go.WideShapes.add_plain] at h2
  rw [h2, List.getD_eq_getElem?_getD]
end Go.Proofs.Ytlehkllcbedkhaa
