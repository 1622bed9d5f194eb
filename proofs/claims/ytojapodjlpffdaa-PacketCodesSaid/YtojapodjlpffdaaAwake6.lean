/-
  Sums and Hops (layer 6): the walk. The words with their own sum behind them have the sum 0, and exchanging two words leaves the sum. No condition on the arguments.
-/
import Derived.Test.YtojapodjlpffdaaSum
import Derived.Test.YtojapodjlpffdaaMod
import Derived.BigRegion
import Derived.Deep.DeepCutAuto
namespace Go.Proofs.Ytojapodjlpffdaa
open Go.RowKit

theorem info8 : (Try.prog.info? 5).map (fun i => (i.zero, i.size, i.bytes)) = some (some (.int .u8 0), 1, 1) := by kernel_rfl

theorem lies_lit {e : TypeId} {K : IntKind} (zs : List Int) (W : World) : Lies (W.alloc (.cells (zs.map (Value.int K)).toArray e)).heap.size (some ⟨W.heap.size, 0, none⟩) (zs.map (Value.int K)) (W.alloc (.cells (zs.map (Value.int K)).toArray e)) := by
  intro k hk
  have hk' : k < zs.length := by simpa using hk
  refine ⟨_, .int K zs[k], rfl, by simp, by simp [hk'], ?_⟩
  have h1 := (Box.made W e (zs.map (Value.int K)).toArray).at_ k
  have e1 : (⟨W.heap.size, 0, none⟩ : Addr).add k = ⟨W.heap.size, k, none⟩ := by
    unfold Addr.add
    by_cases h : k = 0 <;> simp [h]
  rw [e1, h1]
  simp [hk']

set_option maxHeartbeats 400000 in
theorem awake_any (w : World) : Calls Try.prog 9 #[] w fun e w' => e = .returned (.bool true) ∧ Below w.heap.size w w' := by
  have hl := lies_lit (e := 5) (K := .u8) [0, 1, 242, 3, 244, 245, 246, 247] w
  go_enter Try.func9, Try.ntmps9
  go_wp2_with fail
  refine (sum_any _ _ _ [0, 1, 242, 3, 244, 245, 246, 247] _ rfl (fun z hz => by simp at hz; omega) (by decide) (by simpa using hl)).mono ?_
  rintro e w1 ⟨rfl, q, rfl⟩
  have e1 : (sumOf [0, 1, 242, 3, 244, 245, 246, 247] == 8717) = true := by decide
  go_wp2_with fail
  refine (sum_any _ _ _ [] _ rfl (fun z hz => by simp at hz) (by decide) Lies.nothing).mono ?_
  rintro e w1 ⟨rfl, q2, rfl⟩
  have e2 : (sumOf [] == 65535) = true := by decide
  go_wp2
  go_ret
  exact ⟨rfl, below_drewN ((Below.refl _ _).alloc (Nat.le_refl _) _) _⟩

set_option maxHeartbeats 400000 in
theorem short_yes (A : Option Addr) (n c : Nat) (w : World) (hn : n ≤ 600) : Calls Try.prog 8 #[.slice A n c] w fun e w' => e = .returned (.bool true) ∧ w = w' := by
  go_enter Try.func8, Try.ntmps8
  go_wp2
  go_ret
  exact ⟨congrArg (fun b => Ending.returned (.bool b)) (decide_eq_true (by omega)), rfl⟩
set_option maxHeartbeats 400000 in
theorem short_no (A : Option Addr) (n c : Nat) (w : World) (h : n ≤ 9223372036854775807) (hn : 600 < n) : Calls Try.prog 8 #[.slice A n c] w fun e w' => e = .returned (.bool false) ∧ w = w' := by
  go_enter Try.func8, Try.ntmps8
  go_wp2
  go_ret
  exact ⟨congrArg (fun b => Ending.returned (.bool b)) (decide_eq_false (by omega)), rfl⟩
end Go.Proofs.Ytojapodjlpffdaa
