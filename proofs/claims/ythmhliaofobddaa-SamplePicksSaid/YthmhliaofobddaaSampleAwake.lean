/-
  Layer 37: the sanity check of the statements, walked with its own numbers.
-/
import Derived.Test.YthmhliaofobddaaPick
import Derived.Deep.QuietTactic
import Derived.BigQuiet
import Derived.Deep.RegionWith
import Derived.BigRegion
namespace Go.Proofs.Ythmhliaofobddaa
open Go.RowKit

def two : Array Value := #[.int .i64 0, .int .i64 1, .int .i64 10, .int .i64 1, .int .i64 2, .int .i64 0, .int .i64 0, .int .i64 3, .int .i64 30, .int .i64 1, .int .i64 2, .int .i64 0]

set_option maxHeartbeats 400000 in
theorem follows_two (w : World) : Calls Try.prog 14 #[.agg #[.int .i64 0, .int .i64 1, .int .i64 10, .int .i64 1, .int .i64 2, .int .i64 0], .agg #[.int .i64 0, .int .i64 3, .int .i64 30, .int .i64 1, .int .i64 2, .int .i64 0]] w fun e w' =>
    e = .returned (.bool true) ∧ Below w.heap.size w w' := by
  go_enter Try.func14, Try.ntmps14
  go_wp2
  go_ret
  exact ⟨rfl, ((Below.refl _ _).alloc (Nat.le_refl _) _).alloc (by simp) _⟩

set_option maxHeartbeats 2000000 in
theorem valid_two (g c : Nat) (w : World) (hB : Box g 32 two w) : Calls Try.prog 11 #[.slice (some ⟨g, 0, none⟩) 2 c] w fun e w' => e = .returned (.bool true) ∧ Below w.heap.size w w' := by
  have hg := hB.inside
  have k0 : w.cell? ⟨g, 0, none⟩ = some (.int .i64 0) := hB.at_ 0
  have k1 : w.cell? ⟨g, 1, none⟩ = some (.int .i64 1) := hB.at_ 1
  have k2 : w.cell? ⟨g, 2, none⟩ = some (.int .i64 10) := hB.at_ 2
  have k3 : w.cell? ⟨g, 3, none⟩ = some (.int .i64 1) := hB.at_ 3
  have k4 : w.cell? ⟨g, 4, none⟩ = some (.int .i64 2) := hB.at_ 4
  have k5 : w.cell? ⟨g, 5, none⟩ = some (.int .i64 0) := hB.at_ 5
  have k6 : w.cell? ⟨g, 6, none⟩ = some (.int .i64 0) := hB.at_ 6
  have k7 : w.cell? ⟨g, 7, none⟩ = some (.int .i64 3) := hB.at_ 7
  have k8 : w.cell? ⟨g, 8, none⟩ = some (.int .i64 30) := hB.at_ 8
  have k9 : w.cell? ⟨g, 9, none⟩ = some (.int .i64 1) := hB.at_ 9
  have k10 : w.cell? ⟨g, 10, none⟩ = some (.int .i64 2) := hB.at_ 10
  have k11 : w.cell? ⟨g, 11, none⟩ = some (.int .i64 0) := hB.at_ 11
  clear hB
  go_enter Try.func11, Try.ntmps11
  go_wp2_with fail
  refine wp_loop_rounds 3 ?_
  rw [rounds_succ]
  go_wp2_with (go_at_call 10; refine (within_yes _ _ _ _ (by decide) (by decide)).mono ?_; rintro e w' ⟨rfl, rfl⟩)
  go_quiet (fail)
  go_wp2_with (go_at_call 10; refine (within_yes _ _ _ _ (by decide) (by decide)).mono ?_; rintro e w' ⟨rfl, rfl⟩)
  rw [rounds_succ]
  go_wp2_with (go_at_call 10; refine (within_yes _ _ _ _ (by decide) (by decide)).mono ?_; rintro e w' ⟨rfl, rfl⟩)
  go_region_with (go_at_call 14; refine (follows_two _).mono ?_; rintro e w2 ⟨rfl, hb⟩)
  all_goals go_wp2
  all_goals rw [rounds_succ]
  all_goals go_wp2
  all_goals go_ret
  all_goals
    refine ⟨rfl, Below.trans ?_ (hb.mono (by simp <;> omega))⟩
    repeat (first | exact Below.refl _ _ | refine Below.drew ?_ | refine below_drewN ?_ _ | refine Below.alloc ?_ (by simp <;> omega) _)

set_option maxHeartbeats 400000 in
theorem lost_two (g c : Nat) (w : World) (hB : Box g 32 two w) : Calls Try.prog 12 #[.slice (some ⟨g, 0, none⟩) 2 c] w fun e w' => e = .returned (.int .i64 1) ∧ ∃ k, w' = w.drewN k := by
  have k1 : w.cell? ⟨g, 1, none⟩ = some (.int .i64 1) := hB.at_ 1
  have k7 : w.cell? ⟨g, 7, none⟩ = some (.int .i64 3) := hB.at_ 7
  clear hB
  go_enter Try.func12, Try.ntmps12
  go_wp2
  go_quiet (fail)
  go_wp2
  go_ret
  exact ⟨rfl, _, rfl⟩
set_option maxHeartbeats 400000 in
theorem span_two (g c : Nat) (w : World) (hB : Box g 32 two w) : Calls Try.prog 13 #[.slice (some ⟨g, 0, none⟩) 2 c] w fun e w' => e = .returned (.int .i64 21) ∧ ∃ k, w' = w.drewN k := by
  have k2 : w.cell? ⟨g, 2, none⟩ = some (.int .i64 10) := hB.at_ 2
  have k8 : w.cell? ⟨g, 8, none⟩ = some (.int .i64 30) := hB.at_ 8
  clear hB
  go_enter Try.func13, Try.ntmps13
  go_wp2
  go_quiet (fail)
  go_wp2
  go_ret
  exact ⟨rfl, _, rfl⟩

set_option maxHeartbeats 1000000 in
theorem awake_any (w : World) : Calls Try.prog 7 #[] w fun e w' => e = .returned (.bool true) ∧ Below w.heap.size w w' := by
  go_enter Try.func7, Try.ntmps7
  go_wp2_with fail
  refine (pick_ok 10 4 1 _ (by omega) (by omega) (by omega) (by omega) (by omega) (by omega) (by decide)).mono ?_
  rintro e w1 ⟨v, rfl, hown, hb⟩
  have h3 : cnt 10 4 1 = 3 := by decide
  rw [h3] at hown
  obtain ⟨g0, cap, rfl, hg1, hg2⟩ := hown.form (by omega)
  have e2 : w1.cell? ⟨g0, 2, none⟩ = some (.int .i64 9) := by rw [hown.cellAt 2 (by omega)]; rfl
  have hs := hb.size
  clear hown h3
  go_wp2_with fail
  refine (valid_two _ _ _ (Box.made _ _ _)).mono ?_
  rintro e w2 ⟨rfl, hb2⟩
  have hB2 := (Box.made w1 32 two).under hb2 (by simp)
  go_wp2_with fail
  refine (lost_two _ _ _ hB2).mono ?_
  rintro e w3 ⟨rfl, q, rfl⟩
  go_wp2_with fail
  refine (span_two _ _ _ (hB2.drawnN q)).mono ?_
  rintro e w3 ⟨rfl, q2, rfl⟩
  go_wp2
  go_ret
  refine ⟨rfl, ?_⟩
  exact below_drewN ((hb.alloc hs _).trans (hb2.mono (by simp; omega))) _
end Go.Proofs.Ythmhliaofobddaa
