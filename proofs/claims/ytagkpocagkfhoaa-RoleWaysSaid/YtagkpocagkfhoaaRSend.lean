/-
  The reference's sending and receiving.
-/
import Derived.Test.YtagkpocagkfhoaaJoined
import Derived.Test.YtagkpocagkfhoaaRole3
import Derived.Test.YtagkpocagkfhoaaRole4
namespace Go.Proofs.Ytagkpocagkfhoaa
open Go.RowKit
set_option maxHeartbeats 1000000 in
theorem rsend_arg (mine own x : Int) (w : World) (h1 : (isR mine && asnR own) = false) :
    Calls Try.prog 23 #[.int .i64 mine, .int .i64 own, .agg #[.int .i64 0, .slice none 0 0, .bool false, .int .u64 0, .int .u64 0, .int .i64 0, .int .i64 0, .int .i64 (x), .slice none 0 0, .slice none 0 0, .slice none 0 0]] w fun e w' => e = .returned (.tuple #[.agg #[.int .i64 0, .slice none 0 0, .bool false, .int .u64 0, .int .u64 0, .int .i64 0, .int .i64 0, .int .i64 (0), .slice none 0 0, .slice none 0 0, .slice none 0 0], .int .i64 1]) ∧ Below w.heap.size w w' := by
  have H1 := Lib.hid (fun w => bad_any mine own w)
  rw [h1, Bool.not_false] at H1
  clear h1
  have hb := (Box.made w 43 #[.int .i64 0, .slice none 0 0, .bool false, .int .u64 0, .int .u64 0, .int .i64 0, .int .i64 0, .int .i64 (x), .slice none 0 0, .slice none 0 0, .slice none 0 0]).past (.cells #[.int .i64 0, .slice none 0 0, .bool false, .int .u64 0, .int .u64 0, .int .i64 0, .int .i64 0, .int .i64 (0), .slice none 0 0, .slice none 0 0, .slice none 0 0] 43)
  have hz : Box (w.heap.size + 1) 43 #[.int .i64 0, .slice none 0 0, .bool false, .int .u64 0, .int .u64 0, .int .i64 0, .int .i64 0, .int .i64 (0), .slice none 0 0, .slice none 0 0, .slice none 0 0] ((w.alloc (.cells #[.int .i64 0, .slice none 0 0, .bool false, .int .u64 0, .int .u64 0, .int .i64 0, .int .i64 0, .int .i64 (x), .slice none 0 0, .slice none 0 0, .slice none 0 0] 43)).alloc (.cells #[.int .i64 0, .slice none 0 0, .bool false, .int .u64 0, .int .u64 0, .int .i64 0, .int .i64 0, .int .i64 (0), .slice none 0 0, .slice none 0 0, .slice none 0 0] 43)) := Box.madeAt (by simp)
  have hbl : Below w.heap.size w ((w.alloc (.cells #[.int .i64 0, .slice none 0 0, .bool false, .int .u64 0, .int .u64 0, .int .i64 0, .int .i64 0, .int .i64 (x), .slice none 0 0, .slice none 0 0, .slice none 0 0] 43)).alloc (.cells #[.int .i64 0, .slice none 0 0, .bool false, .int .u64 0, .int .u64 0, .int .i64 0, .int .i64 0, .int .i64 (0), .slice none 0 0, .slice none 0 0, .slice none 0 0] 43)) := ((Below.refl _ _).alloc (Nat.le_refl _) _).alloc (by simp) _
  have hb_7 := hb.at_ 7
  have hbo7 := hb.open_ 7
  go_enter Try.func23, Try.ntmps23
  go_wp2_with fail
  refine (H1.out _).mono ?_
  rintro e w1 ⟨rfl, rfl⟩
  go_wp2_with ((with_reducible refine store_box (t := 43) (us := ?_) ?_ ?_ ?_ hz ?_ ?_ ?_); rotate_left 3; (· exact rfl); (· rfl); (· simp [Value.oneCell']); rotate_left 1; (· kernel_rfl); (· rfl); intro w5 hz5 ho5)
  exact ret_box2 (v := .int .i64 1) Try.results23 Try.underlying43 rfl (by kernel_rfl) rfl rfl hz5 rfl ⟨rfl, (ho5.stays (X := fun _ => False) (Stays.of_below hbl) (by omega)).below⟩
set_option maxHeartbeats 1000000 in
theorem rrecv_arg (mine own x : Int) (w : World) (h1 : (isR mine && asnR own) = false) :
    Calls Try.prog 21 #[.int .i64 mine, .int .i64 own, .agg #[.int .i64 0, .slice none 0 0, .bool false, .int .u64 0, .int .u64 0, .int .i64 0, .int .i64 0, .int .i64 (x), .slice none 0 0, .slice none 0 0, .slice none 0 0]] w fun e w' => e = .returned (.tuple #[.agg #[.int .i64 0, .slice none 0 0, .bool false, .int .u64 0, .int .u64 0, .int .i64 0, .int .i64 0, .int .i64 (0), .slice none 0 0, .slice none 0 0, .slice none 0 0], .int .i64 1]) ∧ Below w.heap.size w w' := by
  have H1 := Lib.hid (fun w => bad_any mine own w)
  rw [h1, Bool.not_false] at H1
  clear h1
  have hb := (Box.made w 43 #[.int .i64 0, .slice none 0 0, .bool false, .int .u64 0, .int .u64 0, .int .i64 0, .int .i64 0, .int .i64 (x), .slice none 0 0, .slice none 0 0, .slice none 0 0]).past (.cells #[.int .i64 0, .slice none 0 0, .bool false, .int .u64 0, .int .u64 0, .int .i64 0, .int .i64 0, .int .i64 (0), .slice none 0 0, .slice none 0 0, .slice none 0 0] 43)
  have hz : Box (w.heap.size + 1) 43 #[.int .i64 0, .slice none 0 0, .bool false, .int .u64 0, .int .u64 0, .int .i64 0, .int .i64 0, .int .i64 (0), .slice none 0 0, .slice none 0 0, .slice none 0 0] ((w.alloc (.cells #[.int .i64 0, .slice none 0 0, .bool false, .int .u64 0, .int .u64 0, .int .i64 0, .int .i64 0, .int .i64 (x), .slice none 0 0, .slice none 0 0, .slice none 0 0] 43)).alloc (.cells #[.int .i64 0, .slice none 0 0, .bool false, .int .u64 0, .int .u64 0, .int .i64 0, .int .i64 0, .int .i64 (0), .slice none 0 0, .slice none 0 0, .slice none 0 0] 43)) := Box.madeAt (by simp)
  have hbl : Below w.heap.size w ((w.alloc (.cells #[.int .i64 0, .slice none 0 0, .bool false, .int .u64 0, .int .u64 0, .int .i64 0, .int .i64 0, .int .i64 (x), .slice none 0 0, .slice none 0 0, .slice none 0 0] 43)).alloc (.cells #[.int .i64 0, .slice none 0 0, .bool false, .int .u64 0, .int .u64 0, .int .i64 0, .int .i64 0, .int .i64 (0), .slice none 0 0, .slice none 0 0, .slice none 0 0] 43)) := ((Below.refl _ _).alloc (Nat.le_refl _) _).alloc (by simp) _
  have hb_7 := hb.at_ 7
  have hbo7 := hb.open_ 7
  go_enter Try.func21, Try.ntmps21
  go_wp2_with fail
  refine (H1.out _).mono ?_
  rintro e w1 ⟨rfl, rfl⟩
  go_wp2_with ((with_reducible refine store_box (t := 43) (us := ?_) ?_ ?_ ?_ hz ?_ ?_ ?_); rotate_left 3; (· exact rfl); (· rfl); (· simp [Value.oneCell']); rotate_left 1; (· kernel_rfl); (· rfl); intro w5 hz5 ho5)
  exact ret_box2 (v := .int .i64 1) Try.results21 Try.underlying43 rfl (by kernel_rfl) rfl rfl hz5 rfl ⟨rfl, (ho5.stays (X := fun _ => False) (Stays.of_below hbl) (by omega)).below⟩
set_option maxHeartbeats 2000000 in
theorem rsend_no (mine own x : Int) (w : World) (h1 : isR mine = true) (h2 : asnR own = true) (h3 : ¬ x = -1) (h4 : downR mine = false) :
    Calls Try.prog 23 #[.int .i64 mine, .int .i64 own, .agg #[.int .i64 0, .slice none 0 0, .bool false, .int .u64 0, .int .u64 0, .int .i64 0, .int .i64 0, .int .i64 (x), .slice none 0 0, .slice none 0 0, .slice none 0 0]] w fun e w' => e = .returned (.tuple #[.agg #[.int .i64 0, .slice none 0 0, .bool false, .int .u64 0, .int .u64 0, .int .i64 0, .int .i64 0, .int .i64 (0), .slice none 0 0, .slice none 0 0, .slice none 0 0], .int .i64 30]) ∧ Below w.heap.size w w' := by
  have H1 := Lib.hid (fun w => bad_any mine own w)
  rw [h1, h2] at H1
  simp only [Bool.and_self, Bool.not_true] at H1
  have x0 : (x == -1) = false := by simpa using h3
  have x1 : (x != -1) = true := by simpa using h3
  have hb := (Box.made w 43 #[.int .i64 0, .slice none 0 0, .bool false, .int .u64 0, .int .u64 0, .int .i64 0, .int .i64 0, .int .i64 (x), .slice none 0 0, .slice none 0 0, .slice none 0 0]).past (.cells #[.int .i64 0, .slice none 0 0, .bool false, .int .u64 0, .int .u64 0, .int .i64 0, .int .i64 0, .int .i64 (0), .slice none 0 0, .slice none 0 0, .slice none 0 0] 43)
  have hz : Box (w.heap.size + 1) 43 #[.int .i64 0, .slice none 0 0, .bool false, .int .u64 0, .int .u64 0, .int .i64 0, .int .i64 0, .int .i64 (0), .slice none 0 0, .slice none 0 0, .slice none 0 0] ((w.alloc (.cells #[.int .i64 0, .slice none 0 0, .bool false, .int .u64 0, .int .u64 0, .int .i64 0, .int .i64 0, .int .i64 (x), .slice none 0 0, .slice none 0 0, .slice none 0 0] 43)).alloc (.cells #[.int .i64 0, .slice none 0 0, .bool false, .int .u64 0, .int .u64 0, .int .i64 0, .int .i64 0, .int .i64 (0), .slice none 0 0, .slice none 0 0, .slice none 0 0] 43)) := Box.madeAt (by simp)
  have hbl : Below w.heap.size w ((w.alloc (.cells #[.int .i64 0, .slice none 0 0, .bool false, .int .u64 0, .int .u64 0, .int .i64 0, .int .i64 0, .int .i64 (x), .slice none 0 0, .slice none 0 0, .slice none 0 0] 43)).alloc (.cells #[.int .i64 0, .slice none 0 0, .bool false, .int .u64 0, .int .u64 0, .int .i64 0, .int .i64 0, .int .i64 (0), .slice none 0 0, .slice none 0 0, .slice none 0 0] 43)) := ((Below.refl _ _).alloc (Nat.le_refl _) _).alloc (by simp) _
  have hb_7 := hb.at_ 7
  have hbo7 := hb.open_ 7
  rcases isR_cases h1 with rfl | rfl | rfl | rfl | rfl
  · simp [downR] at h4
  · simp [downR] at h4
  all_goals
    clear h1 h2 h4
    go_enter Try.func23, Try.ntmps23
    go_wp2_with fail
    refine (H1.out _).mono ?_
    rintro e w1 ⟨rfl, rfl⟩
    go_wp2_with ((with_reducible refine store_box (t := 43) (us := ?_) ?_ ?_ ?_ hz ?_ ?_ ?_); rotate_left 3; (· exact rfl); (· rfl); (· simp [Value.oneCell']); rotate_left 1; (· kernel_rfl); (· rfl); intro w5 hz5 ho5)
    exact ret_box2 (v := .int .i64 30) Try.results23 Try.underlying43 rfl (by kernel_rfl) rfl rfl hz5 rfl ⟨rfl, (ho5.stays (X := fun _ => False) (Stays.of_below hbl) (by omega)).below⟩
set_option maxHeartbeats 4000000 in
theorem rsend_good (mine own x : Int) (w : World) (h1 : isR mine = true) (h2 : asnR own = true) (h3 : x = -1 ∨ downR mine = true) :
    Calls Try.prog 23 #[.int .i64 mine, .int .i64 own, .agg #[.int .i64 0, .slice none 0 0, .bool false, .int .u64 0, .int .u64 0, .int .i64 0, .int .i64 0, .int .i64 (x), .slice none 0 0, .slice none 0 0, .slice none 0 0]] w fun e w' => e = .returned (.tuple #[.agg #[.int .i64 0, .slice none 0 0, .bool false, .int .u64 0, .int .u64 0, .int .i64 0, .int .i64 0, .int .i64 (sendX mine own x), .slice none 0 0, .slice none 0 0, .slice none 0 0], .int .i64 0]) ∧ Below w.heap.size w w' := by
  have H1 := Lib.hid (fun w => bad_any mine own w)
  rw [h1, h2] at H1
  simp only [Bool.and_self, Bool.not_true] at H1
  by_cases hx : x = -1
  · subst hx
    have hb := (Box.made w 43 #[.int .i64 0, .slice none 0 0, .bool false, .int .u64 0, .int .u64 0, .int .i64 0, .int .i64 0, .int .i64 ((-1)), .slice none 0 0, .slice none 0 0, .slice none 0 0]).past (.cells #[.int .i64 0, .slice none 0 0, .bool false, .int .u64 0, .int .u64 0, .int .i64 0, .int .i64 0, .int .i64 (0), .slice none 0 0, .slice none 0 0, .slice none 0 0] 43)
    have hz : Box (w.heap.size + 1) 43 #[.int .i64 0, .slice none 0 0, .bool false, .int .u64 0, .int .u64 0, .int .i64 0, .int .i64 0, .int .i64 (0), .slice none 0 0, .slice none 0 0, .slice none 0 0] ((w.alloc (.cells #[.int .i64 0, .slice none 0 0, .bool false, .int .u64 0, .int .u64 0, .int .i64 0, .int .i64 0, .int .i64 ((-1)), .slice none 0 0, .slice none 0 0, .slice none 0 0] 43)).alloc (.cells #[.int .i64 0, .slice none 0 0, .bool false, .int .u64 0, .int .u64 0, .int .i64 0, .int .i64 0, .int .i64 (0), .slice none 0 0, .slice none 0 0, .slice none 0 0] 43)) := Box.madeAt (by simp)
    have hbl : Below w.heap.size w ((w.alloc (.cells #[.int .i64 0, .slice none 0 0, .bool false, .int .u64 0, .int .u64 0, .int .i64 0, .int .i64 0, .int .i64 ((-1)), .slice none 0 0, .slice none 0 0, .slice none 0 0] 43)).alloc (.cells #[.int .i64 0, .slice none 0 0, .bool false, .int .u64 0, .int .u64 0, .int .i64 0, .int .i64 0, .int .i64 (0), .slice none 0 0, .slice none 0 0, .slice none 0 0] 43)) := ((Below.refl _ _).alloc (Nat.le_refl _) _).alloc (by simp) _
    have hb_7 := hb.at_ 7
    have hbo7 := hb.open_ 7
    clear h3
    rcases isR_cases h1 with rfl | rfl | rfl | rfl | rfl
    · clear h1 h2
      rw [show sendX 0 own (-1) = own by simp [sendX, downR]]
      go_enter Try.func23, Try.ntmps23
      go_wp2_with fail
      refine (H1.out _).mono ?_
      rintro e w1 ⟨rfl, rfl⟩
      generalize ((w.alloc (.cells #[.int .i64 0, .slice none 0 0, .bool false, .int .u64 0, .int .u64 0, .int .i64 0, .int .i64 0, .int .i64 ((-1)), .slice none 0 0, .slice none 0 0, .slice none 0 0] 43)).alloc (.cells #[.int .i64 0, .slice none 0 0, .bool false, .int .u64 0, .int .u64 0, .int .i64 0, .int .i64 0, .int .i64 (0), .slice none 0 0, .slice none 0 0, .slice none 0 0] 43)) = wz at hb hz hbl hb_7 hbo7 ⊢
      have hy : Box w.heap.size 43 #[.int .i64 0, .slice none 0 0, .bool false, .int .u64 0, .int .u64 0, .int .i64 0, .int .i64 0, .int .i64 (own), .slice none 0 0, .slice none 0 0, .slice none 0 0] (wz.setCell ⟨w.heap.size, 7, none⟩ (.int .i64 own)) := box_eq (hb.put 7 _) (by simp)
      have hz' : Box (w.heap.size + 1) 43 #[.int .i64 0, .slice none 0 0, .bool false, .int .u64 0, .int .u64 0, .int .i64 0, .int .i64 0, .int .i64 (0), .slice none 0 0, .slice none 0 0, .slice none 0 0] (wz.setCell ⟨w.heap.size, 7, none⟩ (.int .i64 own)) := hz.aside (by simp) _
      have b' : Below w.heap.size w (wz.setCell ⟨w.heap.size, 7, none⟩ (.int .i64 own)) := hbl.setCell (by simp) _
      go_wp2_with (first | ((with_reducible refine load_box (t := 43) Try.underlying43 ?_ ?_ ?_ hy ?_); (· rfl); (· kernel_rfl); (· rfl)) | ((with_reducible refine store_box (t := 43) (us := ?_) ?_ ?_ ?_ hz' ?_ ?_ ?_); rotate_left 3; (· exact rfl); (· rfl); (· simp [Value.oneCell']); rotate_left 1; (· kernel_rfl); (· rfl); intro w5 hz5 ho5))
      exact ret_box2 (v := .int .i64 0) Try.results23 Try.underlying43 rfl (by kernel_rfl) rfl rfl hz5 rfl ⟨rfl, (ho5.stays (X := fun _ => False) (Stays.of_below b') (by omega)).below⟩
    · clear h1 h2
      rw [show sendX 1 own (-1) = own by simp [sendX, downR]]
      go_enter Try.func23, Try.ntmps23
      go_wp2_with fail
      refine (H1.out _).mono ?_
      rintro e w1 ⟨rfl, rfl⟩
      generalize ((w.alloc (.cells #[.int .i64 0, .slice none 0 0, .bool false, .int .u64 0, .int .u64 0, .int .i64 0, .int .i64 0, .int .i64 ((-1)), .slice none 0 0, .slice none 0 0, .slice none 0 0] 43)).alloc (.cells #[.int .i64 0, .slice none 0 0, .bool false, .int .u64 0, .int .u64 0, .int .i64 0, .int .i64 0, .int .i64 (0), .slice none 0 0, .slice none 0 0, .slice none 0 0] 43)) = wz at hb hz hbl hb_7 hbo7 ⊢
      have hy : Box w.heap.size 43 #[.int .i64 0, .slice none 0 0, .bool false, .int .u64 0, .int .u64 0, .int .i64 0, .int .i64 0, .int .i64 (own), .slice none 0 0, .slice none 0 0, .slice none 0 0] (wz.setCell ⟨w.heap.size, 7, none⟩ (.int .i64 own)) := box_eq (hb.put 7 _) (by simp)
      have hz' : Box (w.heap.size + 1) 43 #[.int .i64 0, .slice none 0 0, .bool false, .int .u64 0, .int .u64 0, .int .i64 0, .int .i64 0, .int .i64 (0), .slice none 0 0, .slice none 0 0, .slice none 0 0] (wz.setCell ⟨w.heap.size, 7, none⟩ (.int .i64 own)) := hz.aside (by simp) _
      have b' : Below w.heap.size w (wz.setCell ⟨w.heap.size, 7, none⟩ (.int .i64 own)) := hbl.setCell (by simp) _
      go_wp2_with (first | ((with_reducible refine load_box (t := 43) Try.underlying43 ?_ ?_ ?_ hy ?_); (· rfl); (· kernel_rfl); (· rfl)) | ((with_reducible refine store_box (t := 43) (us := ?_) ?_ ?_ ?_ hz' ?_ ?_ ?_); rotate_left 3; (· exact rfl); (· rfl); (· simp [Value.oneCell']); rotate_left 1; (· kernel_rfl); (· rfl); intro w5 hz5 ho5))
      exact ret_box2 (v := .int .i64 0) Try.results23 Try.underlying43 rfl (by kernel_rfl) rfl rfl hz5 rfl ⟨rfl, (ho5.stays (X := fun _ => False) (Stays.of_below b') (by omega)).below⟩
    · clear h1 h2
      rw [show sendX 2 own (-1) = -1 by simp [sendX, downR]]
      go_enter Try.func23, Try.ntmps23
      go_wp2_with fail
      refine (H1.out _).mono ?_
      rintro e w1 ⟨rfl, rfl⟩
      go_wp2_with (first | ((with_reducible refine load_box (t := 43) Try.underlying43 ?_ ?_ ?_ hb ?_); (· rfl); (· kernel_rfl); (· rfl)) | ((with_reducible refine store_box (t := 43) (us := ?_) ?_ ?_ ?_ hz ?_ ?_ ?_); rotate_left 3; (· exact rfl); (· rfl); (· simp [Value.oneCell']); rotate_left 1; (· kernel_rfl); (· rfl); intro w5 hz5 ho5))
      exact ret_box2 (v := .int .i64 0) Try.results23 Try.underlying43 rfl (by kernel_rfl) rfl rfl hz5 rfl ⟨rfl, (ho5.stays (X := fun _ => False) (Stays.of_below hbl) (by omega)).below⟩
    · clear h1 h2
      rw [show sendX 3 own (-1) = -1 by simp [sendX, downR]]
      go_enter Try.func23, Try.ntmps23
      go_wp2_with fail
      refine (H1.out _).mono ?_
      rintro e w1 ⟨rfl, rfl⟩
      go_wp2_with (first | ((with_reducible refine load_box (t := 43) Try.underlying43 ?_ ?_ ?_ hb ?_); (· rfl); (· kernel_rfl); (· rfl)) | ((with_reducible refine store_box (t := 43) (us := ?_) ?_ ?_ ?_ hz ?_ ?_ ?_); rotate_left 3; (· exact rfl); (· rfl); (· simp [Value.oneCell']); rotate_left 1; (· kernel_rfl); (· rfl); intro w5 hz5 ho5))
      exact ret_box2 (v := .int .i64 0) Try.results23 Try.underlying43 rfl (by kernel_rfl) rfl rfl hz5 rfl ⟨rfl, (ho5.stays (X := fun _ => False) (Stays.of_below hbl) (by omega)).below⟩
    · clear h1 h2
      rw [show sendX 4 own (-1) = own by simp [sendX, downR]]
      go_enter Try.func23, Try.ntmps23
      go_wp2_with fail
      refine (H1.out _).mono ?_
      rintro e w1 ⟨rfl, rfl⟩
      generalize ((w.alloc (.cells #[.int .i64 0, .slice none 0 0, .bool false, .int .u64 0, .int .u64 0, .int .i64 0, .int .i64 0, .int .i64 ((-1)), .slice none 0 0, .slice none 0 0, .slice none 0 0] 43)).alloc (.cells #[.int .i64 0, .slice none 0 0, .bool false, .int .u64 0, .int .u64 0, .int .i64 0, .int .i64 0, .int .i64 (0), .slice none 0 0, .slice none 0 0, .slice none 0 0] 43)) = wz at hb hz hbl hb_7 hbo7 ⊢
      have hy : Box w.heap.size 43 #[.int .i64 0, .slice none 0 0, .bool false, .int .u64 0, .int .u64 0, .int .i64 0, .int .i64 0, .int .i64 (own), .slice none 0 0, .slice none 0 0, .slice none 0 0] (wz.setCell ⟨w.heap.size, 7, none⟩ (.int .i64 own)) := box_eq (hb.put 7 _) (by simp)
      have hz' : Box (w.heap.size + 1) 43 #[.int .i64 0, .slice none 0 0, .bool false, .int .u64 0, .int .u64 0, .int .i64 0, .int .i64 0, .int .i64 (0), .slice none 0 0, .slice none 0 0, .slice none 0 0] (wz.setCell ⟨w.heap.size, 7, none⟩ (.int .i64 own)) := hz.aside (by simp) _
      have b' : Below w.heap.size w (wz.setCell ⟨w.heap.size, 7, none⟩ (.int .i64 own)) := hbl.setCell (by simp) _
      go_wp2_with (first | ((with_reducible refine load_box (t := 43) Try.underlying43 ?_ ?_ ?_ hy ?_); (· rfl); (· kernel_rfl); (· rfl)) | ((with_reducible refine store_box (t := 43) (us := ?_) ?_ ?_ ?_ hz' ?_ ?_ ?_); rotate_left 3; (· exact rfl); (· rfl); (· simp [Value.oneCell']); rotate_left 1; (· kernel_rfl); (· rfl); intro w5 hz5 ho5))
      exact ret_box2 (v := .int .i64 0) Try.results23 Try.underlying43 rfl (by kernel_rfl) rfl rfl hz5 rfl ⟨rfl, (ho5.stays (X := fun _ => False) (Stays.of_below b') (by omega)).below⟩
  · have x0 : (x == -1) = false := by simpa using hx
    have x1 : (x != -1) = true := by simpa using hx
    replace h3 := h3.resolve_left hx
    have hb := (Box.made w 43 #[.int .i64 0, .slice none 0 0, .bool false, .int .u64 0, .int .u64 0, .int .i64 0, .int .i64 0, .int .i64 (x), .slice none 0 0, .slice none 0 0, .slice none 0 0]).past (.cells #[.int .i64 0, .slice none 0 0, .bool false, .int .u64 0, .int .u64 0, .int .i64 0, .int .i64 0, .int .i64 (0), .slice none 0 0, .slice none 0 0, .slice none 0 0] 43)
    have hz : Box (w.heap.size + 1) 43 #[.int .i64 0, .slice none 0 0, .bool false, .int .u64 0, .int .u64 0, .int .i64 0, .int .i64 0, .int .i64 (0), .slice none 0 0, .slice none 0 0, .slice none 0 0] ((w.alloc (.cells #[.int .i64 0, .slice none 0 0, .bool false, .int .u64 0, .int .u64 0, .int .i64 0, .int .i64 0, .int .i64 (x), .slice none 0 0, .slice none 0 0, .slice none 0 0] 43)).alloc (.cells #[.int .i64 0, .slice none 0 0, .bool false, .int .u64 0, .int .u64 0, .int .i64 0, .int .i64 0, .int .i64 (0), .slice none 0 0, .slice none 0 0, .slice none 0 0] 43)) := Box.madeAt (by simp)
    have hbl : Below w.heap.size w ((w.alloc (.cells #[.int .i64 0, .slice none 0 0, .bool false, .int .u64 0, .int .u64 0, .int .i64 0, .int .i64 0, .int .i64 (x), .slice none 0 0, .slice none 0 0, .slice none 0 0] 43)).alloc (.cells #[.int .i64 0, .slice none 0 0, .bool false, .int .u64 0, .int .u64 0, .int .i64 0, .int .i64 0, .int .i64 (0), .slice none 0 0, .slice none 0 0, .slice none 0 0] 43)) := ((Below.refl _ _).alloc (Nat.le_refl _) _).alloc (by simp) _
    have hb_7 := hb.at_ 7
    have hbo7 := hb.open_ 7
    rw [show sendX mine own x = x by simp [sendX, hx]]
    rcases isR_cases h1 with rfl | rfl | rfl | rfl | rfl
    · clear h1 h2 h3
      go_enter Try.func23, Try.ntmps23
      go_wp2_with fail
      refine (H1.out _).mono ?_
      rintro e w1 ⟨rfl, rfl⟩
      go_wp2_with (first | ((with_reducible refine load_box (t := 43) Try.underlying43 ?_ ?_ ?_ hb ?_); (· rfl); (· kernel_rfl); (· rfl)) | ((with_reducible refine store_box (t := 43) (us := ?_) ?_ ?_ ?_ hz ?_ ?_ ?_); rotate_left 3; (· exact rfl); (· rfl); (· simp [Value.oneCell']); rotate_left 1; (· kernel_rfl); (· rfl); intro w5 hz5 ho5))
      exact ret_box2 (v := .int .i64 0) Try.results23 Try.underlying43 rfl (by kernel_rfl) rfl rfl hz5 rfl ⟨rfl, (ho5.stays (X := fun _ => False) (Stays.of_below hbl) (by omega)).below⟩
    · clear h1 h2 h3
      go_enter Try.func23, Try.ntmps23
      go_wp2_with fail
      refine (H1.out _).mono ?_
      rintro e w1 ⟨rfl, rfl⟩
      go_wp2_with (first | ((with_reducible refine load_box (t := 43) Try.underlying43 ?_ ?_ ?_ hb ?_); (· rfl); (· kernel_rfl); (· rfl)) | ((with_reducible refine store_box (t := 43) (us := ?_) ?_ ?_ ?_ hz ?_ ?_ ?_); rotate_left 3; (· exact rfl); (· rfl); (· simp [Value.oneCell']); rotate_left 1; (· kernel_rfl); (· rfl); intro w5 hz5 ho5))
      exact ret_box2 (v := .int .i64 0) Try.results23 Try.underlying43 rfl (by kernel_rfl) rfl rfl hz5 rfl ⟨rfl, (ho5.stays (X := fun _ => False) (Stays.of_below hbl) (by omega)).below⟩
    · simp [downR] at h3
    · simp [downR] at h3
    · simp [downR] at h3
set_option maxHeartbeats 4000000 in
theorem rrecv_good (mine fro x : Int) (w : World) (h1 : isR mine = true) (h2 : asnR fro = true) (h3 : x = -1 ∨ (downR mine = false ∧ (mine = 4 → x = fro))) :
    Calls Try.prog 21 #[.int .i64 mine, .int .i64 fro, .agg #[.int .i64 0, .slice none 0 0, .bool false, .int .u64 0, .int .u64 0, .int .i64 0, .int .i64 0, .int .i64 (x), .slice none 0 0, .slice none 0 0, .slice none 0 0]] w fun e w' => e = .returned (.tuple #[.agg #[.int .i64 0, .slice none 0 0, .bool false, .int .u64 0, .int .u64 0, .int .i64 0, .int .i64 0, .int .i64 (recvX mine fro x), .slice none 0 0, .slice none 0 0, .slice none 0 0], .int .i64 0]) ∧ Below w.heap.size w w' := by
  have H1 := Lib.hid (fun w => bad_any mine fro w)
  rw [h1, h2] at H1
  simp only [Bool.and_self, Bool.not_true] at H1
  by_cases hx : x = -1
  · subst hx
    have hb := (Box.made w 43 #[.int .i64 0, .slice none 0 0, .bool false, .int .u64 0, .int .u64 0, .int .i64 0, .int .i64 0, .int .i64 ((-1)), .slice none 0 0, .slice none 0 0, .slice none 0 0]).past (.cells #[.int .i64 0, .slice none 0 0, .bool false, .int .u64 0, .int .u64 0, .int .i64 0, .int .i64 0, .int .i64 (0), .slice none 0 0, .slice none 0 0, .slice none 0 0] 43)
    have hz : Box (w.heap.size + 1) 43 #[.int .i64 0, .slice none 0 0, .bool false, .int .u64 0, .int .u64 0, .int .i64 0, .int .i64 0, .int .i64 (0), .slice none 0 0, .slice none 0 0, .slice none 0 0] ((w.alloc (.cells #[.int .i64 0, .slice none 0 0, .bool false, .int .u64 0, .int .u64 0, .int .i64 0, .int .i64 0, .int .i64 ((-1)), .slice none 0 0, .slice none 0 0, .slice none 0 0] 43)).alloc (.cells #[.int .i64 0, .slice none 0 0, .bool false, .int .u64 0, .int .u64 0, .int .i64 0, .int .i64 0, .int .i64 (0), .slice none 0 0, .slice none 0 0, .slice none 0 0] 43)) := Box.madeAt (by simp)
    have hbl : Below w.heap.size w ((w.alloc (.cells #[.int .i64 0, .slice none 0 0, .bool false, .int .u64 0, .int .u64 0, .int .i64 0, .int .i64 0, .int .i64 ((-1)), .slice none 0 0, .slice none 0 0, .slice none 0 0] 43)).alloc (.cells #[.int .i64 0, .slice none 0 0, .bool false, .int .u64 0, .int .u64 0, .int .i64 0, .int .i64 0, .int .i64 (0), .slice none 0 0, .slice none 0 0, .slice none 0 0] 43)) := ((Below.refl _ _).alloc (Nat.le_refl _) _).alloc (by simp) _
    have hb_7 := hb.at_ 7
    have hbo7 := hb.open_ 7
    clear h3
    rcases isR_cases h1 with rfl | rfl | rfl | rfl | rfl
    · clear h1 h2
      rw [show recvX 0 fro (-1) = -1 by simp [recvX, downR]]
      go_enter Try.func21, Try.ntmps21
      go_wp2_with fail
      refine (H1.out _).mono ?_
      rintro e w1 ⟨rfl, rfl⟩
      go_wp2_with (first | ((with_reducible refine load_box (t := 43) Try.underlying43 ?_ ?_ ?_ hb ?_); (· rfl); (· kernel_rfl); (· rfl)) | ((with_reducible refine store_box (t := 43) (us := ?_) ?_ ?_ ?_ hz ?_ ?_ ?_); rotate_left 3; (· exact rfl); (· rfl); (· simp [Value.oneCell']); rotate_left 1; (· kernel_rfl); (· rfl); intro w5 hz5 ho5))
      exact ret_box2 (v := .int .i64 0) Try.results21 Try.underlying43 rfl (by kernel_rfl) rfl rfl hz5 rfl ⟨rfl, (ho5.stays (X := fun _ => False) (Stays.of_below hbl) (by omega)).below⟩
    · clear h1 h2
      rw [show recvX 1 fro (-1) = -1 by simp [recvX, downR]]
      go_enter Try.func21, Try.ntmps21
      go_wp2_with fail
      refine (H1.out _).mono ?_
      rintro e w1 ⟨rfl, rfl⟩
      go_wp2_with (first | ((with_reducible refine load_box (t := 43) Try.underlying43 ?_ ?_ ?_ hb ?_); (· rfl); (· kernel_rfl); (· rfl)) | ((with_reducible refine store_box (t := 43) (us := ?_) ?_ ?_ ?_ hz ?_ ?_ ?_); rotate_left 3; (· exact rfl); (· rfl); (· simp [Value.oneCell']); rotate_left 1; (· kernel_rfl); (· rfl); intro w5 hz5 ho5))
      exact ret_box2 (v := .int .i64 0) Try.results21 Try.underlying43 rfl (by kernel_rfl) rfl rfl hz5 rfl ⟨rfl, (ho5.stays (X := fun _ => False) (Stays.of_below hbl) (by omega)).below⟩
    · clear h1 h2
      rw [show recvX 2 fro (-1) = fro by simp [recvX, downR]]
      go_enter Try.func21, Try.ntmps21
      go_wp2_with fail
      refine (H1.out _).mono ?_
      rintro e w1 ⟨rfl, rfl⟩
      generalize ((w.alloc (.cells #[.int .i64 0, .slice none 0 0, .bool false, .int .u64 0, .int .u64 0, .int .i64 0, .int .i64 0, .int .i64 ((-1)), .slice none 0 0, .slice none 0 0, .slice none 0 0] 43)).alloc (.cells #[.int .i64 0, .slice none 0 0, .bool false, .int .u64 0, .int .u64 0, .int .i64 0, .int .i64 0, .int .i64 (0), .slice none 0 0, .slice none 0 0, .slice none 0 0] 43)) = wz at hb hz hbl hb_7 hbo7 ⊢
      have hy : Box w.heap.size 43 #[.int .i64 0, .slice none 0 0, .bool false, .int .u64 0, .int .u64 0, .int .i64 0, .int .i64 0, .int .i64 (fro), .slice none 0 0, .slice none 0 0, .slice none 0 0] (wz.setCell ⟨w.heap.size, 7, none⟩ (.int .i64 fro)) := box_eq (hb.put 7 _) (by simp)
      have hz' : Box (w.heap.size + 1) 43 #[.int .i64 0, .slice none 0 0, .bool false, .int .u64 0, .int .u64 0, .int .i64 0, .int .i64 0, .int .i64 (0), .slice none 0 0, .slice none 0 0, .slice none 0 0] (wz.setCell ⟨w.heap.size, 7, none⟩ (.int .i64 fro)) := hz.aside (by simp) _
      have b' : Below w.heap.size w (wz.setCell ⟨w.heap.size, 7, none⟩ (.int .i64 fro)) := hbl.setCell (by simp) _
      go_wp2_with (first | ((with_reducible refine load_box (t := 43) Try.underlying43 ?_ ?_ ?_ hy ?_); (· rfl); (· kernel_rfl); (· rfl)) | ((with_reducible refine store_box (t := 43) (us := ?_) ?_ ?_ ?_ hz' ?_ ?_ ?_); rotate_left 3; (· exact rfl); (· rfl); (· simp [Value.oneCell']); rotate_left 1; (· kernel_rfl); (· rfl); intro w5 hz5 ho5))
      exact ret_box2 (v := .int .i64 0) Try.results21 Try.underlying43 rfl (by kernel_rfl) rfl rfl hz5 rfl ⟨rfl, (ho5.stays (X := fun _ => False) (Stays.of_below b') (by omega)).below⟩
    · clear h1 h2
      rw [show recvX 3 fro (-1) = fro by simp [recvX, downR]]
      go_enter Try.func21, Try.ntmps21
      go_wp2_with fail
      refine (H1.out _).mono ?_
      rintro e w1 ⟨rfl, rfl⟩
      generalize ((w.alloc (.cells #[.int .i64 0, .slice none 0 0, .bool false, .int .u64 0, .int .u64 0, .int .i64 0, .int .i64 0, .int .i64 ((-1)), .slice none 0 0, .slice none 0 0, .slice none 0 0] 43)).alloc (.cells #[.int .i64 0, .slice none 0 0, .bool false, .int .u64 0, .int .u64 0, .int .i64 0, .int .i64 0, .int .i64 (0), .slice none 0 0, .slice none 0 0, .slice none 0 0] 43)) = wz at hb hz hbl hb_7 hbo7 ⊢
      have hy : Box w.heap.size 43 #[.int .i64 0, .slice none 0 0, .bool false, .int .u64 0, .int .u64 0, .int .i64 0, .int .i64 0, .int .i64 (fro), .slice none 0 0, .slice none 0 0, .slice none 0 0] (wz.setCell ⟨w.heap.size, 7, none⟩ (.int .i64 fro)) := box_eq (hb.put 7 _) (by simp)
      have hz' : Box (w.heap.size + 1) 43 #[.int .i64 0, .slice none 0 0, .bool false, .int .u64 0, .int .u64 0, .int .i64 0, .int .i64 0, .int .i64 (0), .slice none 0 0, .slice none 0 0, .slice none 0 0] (wz.setCell ⟨w.heap.size, 7, none⟩ (.int .i64 fro)) := hz.aside (by simp) _
      have b' : Below w.heap.size w (wz.setCell ⟨w.heap.size, 7, none⟩ (.int .i64 fro)) := hbl.setCell (by simp) _
      go_wp2_with (first | ((with_reducible refine load_box (t := 43) Try.underlying43 ?_ ?_ ?_ hy ?_); (· rfl); (· kernel_rfl); (· rfl)) | ((with_reducible refine store_box (t := 43) (us := ?_) ?_ ?_ ?_ hz' ?_ ?_ ?_); rotate_left 3; (· exact rfl); (· rfl); (· simp [Value.oneCell']); rotate_left 1; (· kernel_rfl); (· rfl); intro w5 hz5 ho5))
      exact ret_box2 (v := .int .i64 0) Try.results21 Try.underlying43 rfl (by kernel_rfl) rfl rfl hz5 rfl ⟨rfl, (ho5.stays (X := fun _ => False) (Stays.of_below b') (by omega)).below⟩
    · clear h1 h2
      rw [show recvX 4 fro (-1) = fro by simp [recvX, downR]]
      go_enter Try.func21, Try.ntmps21
      go_wp2_with fail
      refine (H1.out _).mono ?_
      rintro e w1 ⟨rfl, rfl⟩
      generalize ((w.alloc (.cells #[.int .i64 0, .slice none 0 0, .bool false, .int .u64 0, .int .u64 0, .int .i64 0, .int .i64 0, .int .i64 ((-1)), .slice none 0 0, .slice none 0 0, .slice none 0 0] 43)).alloc (.cells #[.int .i64 0, .slice none 0 0, .bool false, .int .u64 0, .int .u64 0, .int .i64 0, .int .i64 0, .int .i64 (0), .slice none 0 0, .slice none 0 0, .slice none 0 0] 43)) = wz at hb hz hbl hb_7 hbo7 ⊢
      have hy : Box w.heap.size 43 #[.int .i64 0, .slice none 0 0, .bool false, .int .u64 0, .int .u64 0, .int .i64 0, .int .i64 0, .int .i64 (fro), .slice none 0 0, .slice none 0 0, .slice none 0 0] (wz.setCell ⟨w.heap.size, 7, none⟩ (.int .i64 fro)) := box_eq (hb.put 7 _) (by simp)
      have hz' : Box (w.heap.size + 1) 43 #[.int .i64 0, .slice none 0 0, .bool false, .int .u64 0, .int .u64 0, .int .i64 0, .int .i64 0, .int .i64 (0), .slice none 0 0, .slice none 0 0, .slice none 0 0] (wz.setCell ⟨w.heap.size, 7, none⟩ (.int .i64 fro)) := hz.aside (by simp) _
      have b' : Below w.heap.size w (wz.setCell ⟨w.heap.size, 7, none⟩ (.int .i64 fro)) := hbl.setCell (by simp) _
      go_wp2_with (first | ((with_reducible refine load_box (t := 43) Try.underlying43 ?_ ?_ ?_ hy ?_); (· rfl); (· kernel_rfl); (· rfl)) | ((with_reducible refine store_box (t := 43) (us := ?_) ?_ ?_ ?_ hz' ?_ ?_ ?_); rotate_left 3; (· exact rfl); (· rfl); (· simp [Value.oneCell']); rotate_left 1; (· kernel_rfl); (· rfl); intro w5 hz5 ho5))
      exact ret_box2 (v := .int .i64 0) Try.results21 Try.underlying43 rfl (by kernel_rfl) rfl rfl hz5 rfl ⟨rfl, (ho5.stays (X := fun _ => False) (Stays.of_below b') (by omega)).below⟩
  · have x0 : (x == -1) = false := by simpa using hx
    have x1 : (x != -1) = true := by simpa using hx
    replace h3 := h3.resolve_left hx
    have hb := (Box.made w 43 #[.int .i64 0, .slice none 0 0, .bool false, .int .u64 0, .int .u64 0, .int .i64 0, .int .i64 0, .int .i64 (x), .slice none 0 0, .slice none 0 0, .slice none 0 0]).past (.cells #[.int .i64 0, .slice none 0 0, .bool false, .int .u64 0, .int .u64 0, .int .i64 0, .int .i64 0, .int .i64 (0), .slice none 0 0, .slice none 0 0, .slice none 0 0] 43)
    have hz : Box (w.heap.size + 1) 43 #[.int .i64 0, .slice none 0 0, .bool false, .int .u64 0, .int .u64 0, .int .i64 0, .int .i64 0, .int .i64 (0), .slice none 0 0, .slice none 0 0, .slice none 0 0] ((w.alloc (.cells #[.int .i64 0, .slice none 0 0, .bool false, .int .u64 0, .int .u64 0, .int .i64 0, .int .i64 0, .int .i64 (x), .slice none 0 0, .slice none 0 0, .slice none 0 0] 43)).alloc (.cells #[.int .i64 0, .slice none 0 0, .bool false, .int .u64 0, .int .u64 0, .int .i64 0, .int .i64 0, .int .i64 (0), .slice none 0 0, .slice none 0 0, .slice none 0 0] 43)) := Box.madeAt (by simp)
    have hbl : Below w.heap.size w ((w.alloc (.cells #[.int .i64 0, .slice none 0 0, .bool false, .int .u64 0, .int .u64 0, .int .i64 0, .int .i64 0, .int .i64 (x), .slice none 0 0, .slice none 0 0, .slice none 0 0] 43)).alloc (.cells #[.int .i64 0, .slice none 0 0, .bool false, .int .u64 0, .int .u64 0, .int .i64 0, .int .i64 0, .int .i64 (0), .slice none 0 0, .slice none 0 0, .slice none 0 0] 43)) := ((Below.refl _ _).alloc (Nat.le_refl _) _).alloc (by simp) _
    have hb_7 := hb.at_ 7
    have hbo7 := hb.open_ 7
    rw [show recvX mine fro x = x by simp [recvX, hx]]
    rcases isR_cases h1 with rfl | rfl | rfl | rfl | rfl
    · simp [downR] at h3
    · simp [downR] at h3
    · clear h1 h2 h3
      go_enter Try.func21, Try.ntmps21
      go_wp2_with fail
      refine (H1.out _).mono ?_
      rintro e w1 ⟨rfl, rfl⟩
      go_wp2_with (first | ((with_reducible refine load_box (t := 43) Try.underlying43 ?_ ?_ ?_ hb ?_); (· rfl); (· kernel_rfl); (· rfl)) | ((with_reducible refine store_box (t := 43) (us := ?_) ?_ ?_ ?_ hz ?_ ?_ ?_); rotate_left 3; (· exact rfl); (· rfl); (· simp [Value.oneCell']); rotate_left 1; (· kernel_rfl); (· rfl); intro w5 hz5 ho5))
      exact ret_box2 (v := .int .i64 0) Try.results21 Try.underlying43 rfl (by kernel_rfl) rfl rfl hz5 rfl ⟨rfl, (ho5.stays (X := fun _ => False) (Stays.of_below hbl) (by omega)).below⟩
    · clear h1 h2 h3
      go_enter Try.func21, Try.ntmps21
      go_wp2_with fail
      refine (H1.out _).mono ?_
      rintro e w1 ⟨rfl, rfl⟩
      go_wp2_with (first | ((with_reducible refine load_box (t := 43) Try.underlying43 ?_ ?_ ?_ hb ?_); (· rfl); (· kernel_rfl); (· rfl)) | ((with_reducible refine store_box (t := 43) (us := ?_) ?_ ?_ ?_ hz ?_ ?_ ?_); rotate_left 3; (· exact rfl); (· rfl); (· simp [Value.oneCell']); rotate_left 1; (· kernel_rfl); (· rfl); intro w5 hz5 ho5))
      exact ret_box2 (v := .int .i64 0) Try.results21 Try.underlying43 rfl (by kernel_rfl) rfl rfl hz5 rfl ⟨rfl, (ho5.stays (X := fun _ => False) (Stays.of_below hbl) (by omega)).below⟩
    · obtain rfl := h3.2 rfl
      clear h1 h2 h3
      go_enter Try.func21, Try.ntmps21
      go_wp2_with fail
      refine (H1.out _).mono ?_
      rintro e w1 ⟨rfl, rfl⟩
      go_wp2_with (first | ((with_reducible refine load_box (t := 43) Try.underlying43 ?_ ?_ ?_ hb ?_); (· rfl); (· kernel_rfl); (· rfl)) | ((with_reducible refine store_box (t := 43) (us := ?_) ?_ ?_ ?_ hz ?_ ?_ ?_); rotate_left 3; (· exact rfl); (· rfl); (· simp [Value.oneCell']); rotate_left 1; (· kernel_rfl); (· rfl); intro w5 hz5 ho5))
      exact ret_box2 (v := .int .i64 0) Try.results21 Try.underlying43 rfl (by kernel_rfl) rfl rfl hz5 rfl ⟨rfl, (ho5.stays (X := fun _ => False) (Stays.of_below hbl) (by omega)).below⟩
end Go.Proofs.Ytagkpocagkfhoaa
