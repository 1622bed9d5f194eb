/-
  Roles: a route's attributes that are all empty but for the mark: copied, sent, received.
-/
import Derived.Test.YtagkpocagkfhoaaRole1
import Derived.Test.YtagkpocagkfhoaaOpen
import Derived.Lib.SliceRun
namespace Go.Proofs.Ytagkpocagkfhoaa
open Go.RowKit
/-- Attributes that are all empty but for the mark. -/
abbrev markOf (x : Int) : Array Value := #[.int .i64 0, .slice none 0 0, .bool false, .int .u64 0, .int .u64 0, .int .i64 0, .int .i64 0, .int .i64 (x), .slice none 0 0, .slice none 0 0, .slice none 0 0]
set_option maxHeartbeats 400000 in
theorem each1_nil (f : Value) (w : World) : Calls Try.prog 41 #[.slice none 0 0, f] w fun e w' => e = .returned (.slice none 0 0) ∧ w = w' := by
  go_enter Try.func41, Try.ntmps41
  go_wp2
  go_ret
  exact ⟨rfl, rfl⟩
set_option maxHeartbeats 400000 in
theorem each2_nil (f : Value) (w : World) : Calls Try.prog 45 #[.slice none 0 0, f] w fun e w' => e = .returned (.slice none 0 0) ∧ w = w' := by
  go_enter Try.func45, Try.ntmps45
  go_wp2
  go_ret
  exact ⟨rfl, rfl⟩
set_option maxHeartbeats 400000 in
theorem clone1_nil (w : World) : Calls Try.prog 43 #[.slice none 0 0] w fun e w' => e = .returned (.slice none 0 0) ∧ w = w' := by
  have q := fun (w : World) => Lib.run_eql_slice_nil (P := Try.prog) w 39 _ none 0 0 0 0 Try.underlying39
  go_enter Try.func43, Try.ntmps43
  go_wp2
  go_ret
  exact ⟨rfl, rfl⟩
set_option maxHeartbeats 400000 in
theorem clone2_nil (w : World) : Calls Try.prog 44 #[.slice none 0 0] w fun e w' => e = .returned (.slice none 0 0) ∧ w = w' := by
  have q := fun (w : World) => Lib.run_eql_slice_nil (P := Try.prog) w 40 _ none 0 0 0 0 Try.underlying40
  go_enter Try.func44, Try.ntmps44
  go_wp2
  go_ret
  exact ⟨rfl, rfl⟩
set_option maxHeartbeats 1000000 in
theorem copies_mark (x : Int) (w : World) : Calls Try.prog 36 #[.agg #[.int .i64 0, .slice none 0 0, .bool false, .int .u64 0, .int .u64 0, .int .i64 0, .int .i64 0, .int .i64 (x), .slice none 0 0, .slice none 0 0, .slice none 0 0]] w fun e w' => e = .returned (.agg #[.int .i64 0, .slice none 0 0, .bool false, .int .u64 0, .int .u64 0, .int .i64 0, .int .i64 0, .int .i64 (x), .slice none 0 0, .slice none 0 0, .slice none 0 0]) ∧ Below w.heap.size w w' := by
  have hb := Box.made w 43 #[.int .i64 0, .slice none 0 0, .bool false, .int .u64 0, .int .u64 0, .int .i64 0, .int .i64 0, .int .i64 (x), .slice none 0 0, .slice none 0 0, .slice none 0 0]
  have hbp := hb.past (.cells #[.int .i64 0, .slice none 0 0, .bool false, .int .u64 0, .int .u64 0, .int .i64 0, .int .i64 0, .int .i64 (0), .slice none 0 0, .slice none 0 0, .slice none 0 0] 43)
  have hz : Box (w.heap.size + 1) 43 #[.int .i64 0, .slice none 0 0, .bool false, .int .u64 0, .int .u64 0, .int .i64 0, .int .i64 0, .int .i64 (0), .slice none 0 0, .slice none 0 0, .slice none 0 0] ((w.alloc (.cells #[.int .i64 0, .slice none 0 0, .bool false, .int .u64 0, .int .u64 0, .int .i64 0, .int .i64 0, .int .i64 (x), .slice none 0 0, .slice none 0 0, .slice none 0 0] 43)).alloc (.cells #[.int .i64 0, .slice none 0 0, .bool false, .int .u64 0, .int .u64 0, .int .i64 0, .int .i64 0, .int .i64 (0), .slice none 0 0, .slice none 0 0, .slice none 0 0] 43)) := Box.madeAt (by simp)
  have H1 := Lib.hid (fun f w => each1_nil f w)
  have H2 := Lib.hid (fun w => clone1_nil w)
  have H3 := Lib.hid (fun w => clone2_nil w)
  have H4 := Lib.hid (fun f w => each2_nil f w)
  have hbp_1 := hbp.at_ 1; have hbp_8 := hbp.at_ 8; have hbp_9 := hbp.at_ 9; have hbp_10 := hbp.at_ 10
  have hbo_1 := hbp.open_ 1; have hbo_8 := hbp.open_ 8; have hbo_9 := hbp.open_ 9; have hbo_10 := hbp.open_ 10
  go_enter Try.func36, Try.ntmps36
  go_wp2_with fail
  refine (H1.out _ _).mono ?_
  rintro e w1 ⟨rfl, rfl⟩
  go_wp2_with fail
  refine (H2.out _).mono ?_
  rintro e w1 ⟨rfl, rfl⟩
  go_wp2_with fail
  refine (H3.out _).mono ?_
  rintro e w1 ⟨rfl, rfl⟩
  go_wp2_with fail
  refine (H4.out _ _).mono ?_
  rintro e w1 ⟨rfl, rfl⟩
  go_wp2_with (first | refine load_box (t := 43) Try.underlying43 rfl (by kernel_rfl) rfl hbp ?_ | (refine store_box (t := 43) (by kernel_rfl) rfl rfl hz rfl (by simp [Value.oneCell']) ?_; intro w2 hz2 ho))
  have hbl : Below w.heap.size w ((w.alloc (.cells #[.int .i64 0, .slice none 0 0, .bool false, .int .u64 0, .int .u64 0, .int .i64 0, .int .i64 0, .int .i64 (x), .slice none 0 0, .slice none 0 0, .slice none 0 0] 43)).alloc (.cells #[.int .i64 0, .slice none 0 0, .bool false, .int .u64 0, .int .u64 0, .int .i64 0, .int .i64 0, .int .i64 (0), .slice none 0 0, .slice none 0 0, .slice none 0 0] 43)) := ((Below.refl _ _).alloc (Nat.le_refl _) _).alloc (by simp) _
  exact ret_box Try.results36 Try.underlying43 rfl (by kernel_rfl) rfl hz2 rfl ⟨rfl, (ho.stays (X := fun _ => False) (Stays.of_below hbl) (by omega)).below⟩
end Go.Proofs.Ytagkpocagkfhoaa
