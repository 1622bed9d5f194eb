/-
  Layer 5 (arp): requests and replies.
-/
import Derived.Test.YtghhidpggnbfgaaMac
import Derived.Test.YtghhidpggnbfgaaEqMac
import Derived.Test.YtghhidpggnbfgaaUse
import Derived.Test.YtghhidpggnbfgaaRow
import Derived.Laws.StructEq
namespace Go.Proofs.Ytghhidpggnbfgaa
open Go.RowKit

set_option maxHeartbeats 400000 in
theorem request_any (a0 a1 a2 a3 a4 a5 : Int) (sv : Bool) (sh sl : Int) (dv : Bool) (dh dl : Int) (w : World) :
    Calls Try.prog 18 #[.agg #[.int .u8 a0, .int .u8 a1, .int .u8 a2, .int .u8 a3, .int .u8 a4, .int .u8 a5], .agg #[.bool sv, .int .u64 sh, .int .u64 sl], .agg #[.bool dv, .int .u64 dh, .int .u64 dl]] w fun e w' => e = .returned (.agg #[.int .i64 (1), .int .u8 a0, .int .u8 a1, .int .u8 a2, .int .u8 a3, .int .u8 a4, .int .u8 a5, .bool sv, .int .u64 sh, .int .u64 sl, .int .u8 0, .int .u8 0, .int .u8 0, .int .u8 0, .int .u8 0, .int .u8 0, .bool dv, .int .u64 dh, .int .u64 dl]) ∧ Below w.heap.size w w' := by
  have hb4 : Box (w.heap.size + 1 + 1 + 1) 28 #[.int .i64 0, .int .u8 0, .int .u8 0, .int .u8 0, .int .u8 0, .int .u8 0, .int .u8 0, .bool false, .int .u64 0, .int .u64 0, .int .u8 0, .int .u8 0, .int .u8 0, .int .u8 0, .int .u8 0, .int .u8 0, .bool false, .int .u64 0, .int .u64 0] ((((w.alloc (.cells #[.int .u8 a0, .int .u8 a1, .int .u8 a2, .int .u8 a3, .int .u8 a4, .int .u8 a5] 23)).alloc (.cells #[.bool sv, .int .u64 sh, .int .u64 sl] 26)).alloc (.cells #[.bool dv, .int .u64 dh, .int .u64 dl] 26)).alloc (.cells #[.int .i64 0, .int .u8 0, .int .u8 0, .int .u8 0, .int .u8 0, .int .u8 0, .int .u8 0, .bool false, .int .u64 0, .int .u64 0, .int .u8 0, .int .u8 0, .int .u8 0, .int .u8 0, .int .u8 0, .int .u8 0, .bool false, .int .u64 0, .int .u64 0] 28)) := Box.madeAt (by simp)
  have hbl : Below w.heap.size w ((((w.alloc (.cells #[.int .u8 a0, .int .u8 a1, .int .u8 a2, .int .u8 a3, .int .u8 a4, .int .u8 a5] 23)).alloc (.cells #[.bool sv, .int .u64 sh, .int .u64 sl] 26)).alloc (.cells #[.bool dv, .int .u64 dh, .int .u64 dl] 26)).alloc (.cells #[.int .i64 0, .int .u8 0, .int .u8 0, .int .u8 0, .int .u8 0, .int .u8 0, .int .u8 0, .bool false, .int .u64 0, .int .u64 0, .int .u8 0, .int .u8 0, .int .u8 0, .int .u8 0, .int .u8 0, .int .u8 0, .bool false, .int .u64 0, .int .u64 0] 28)) := ((((Below.refl _ _).alloc (Nat.le_refl _) _).alloc (by simp) _).alloc (by simp; omega) _).alloc (by simp; omega) _
  go_enter Try.func18, Try.ntmps18
  go_wp2_with (refine store_box (t := 28) (by kernel_rfl) rfl rfl hb4 rfl (by simp [Value.oneCell']) ?_)
  intro W' hz ho
  go_wp2
  exact ret_box Try.results18 Try.underlying28 rfl (by kernel_rfl) rfl hz rfl ⟨rfl, (ho.stays (X := fun _ => False) (Stays.of_below hbl) (by omega)).below⟩
set_option maxHeartbeats 400000 in
theorem rrequest_any (a0 a1 a2 a3 a4 a5 : Int) (sv : Bool) (sh sl : Int) (dv : Bool) (dh dl : Int) (w : World) :
    Calls Try.prog 20 #[.agg #[.int .u8 a0, .int .u8 a1, .int .u8 a2, .int .u8 a3, .int .u8 a4, .int .u8 a5], .agg #[.bool sv, .int .u64 sh, .int .u64 sl], .agg #[.bool dv, .int .u64 dh, .int .u64 dl]] w fun e w' => e = .returned (.agg #[.int .i64 (1), .int .u8 a0, .int .u8 a1, .int .u8 a2, .int .u8 a3, .int .u8 a4, .int .u8 a5, .bool sv, .int .u64 sh, .int .u64 sl, .int .u8 0, .int .u8 0, .int .u8 0, .int .u8 0, .int .u8 0, .int .u8 0, .bool dv, .int .u64 dh, .int .u64 dl]) ∧ Below w.heap.size w w' := by
  have hb4 : Box (w.heap.size + 1 + 1 + 1) 28 #[.int .i64 0, .int .u8 0, .int .u8 0, .int .u8 0, .int .u8 0, .int .u8 0, .int .u8 0, .bool false, .int .u64 0, .int .u64 0, .int .u8 0, .int .u8 0, .int .u8 0, .int .u8 0, .int .u8 0, .int .u8 0, .bool false, .int .u64 0, .int .u64 0] ((((w.alloc (.cells #[.int .u8 a0, .int .u8 a1, .int .u8 a2, .int .u8 a3, .int .u8 a4, .int .u8 a5] 23)).alloc (.cells #[.bool sv, .int .u64 sh, .int .u64 sl] 26)).alloc (.cells #[.bool dv, .int .u64 dh, .int .u64 dl] 26)).alloc (.cells #[.int .i64 0, .int .u8 0, .int .u8 0, .int .u8 0, .int .u8 0, .int .u8 0, .int .u8 0, .bool false, .int .u64 0, .int .u64 0, .int .u8 0, .int .u8 0, .int .u8 0, .int .u8 0, .int .u8 0, .int .u8 0, .bool false, .int .u64 0, .int .u64 0] 28)) := Box.madeAt (by simp)
  have hbl : Below w.heap.size w ((((w.alloc (.cells #[.int .u8 a0, .int .u8 a1, .int .u8 a2, .int .u8 a3, .int .u8 a4, .int .u8 a5] 23)).alloc (.cells #[.bool sv, .int .u64 sh, .int .u64 sl] 26)).alloc (.cells #[.bool dv, .int .u64 dh, .int .u64 dl] 26)).alloc (.cells #[.int .i64 0, .int .u8 0, .int .u8 0, .int .u8 0, .int .u8 0, .int .u8 0, .int .u8 0, .bool false, .int .u64 0, .int .u64 0, .int .u8 0, .int .u8 0, .int .u8 0, .int .u8 0, .int .u8 0, .int .u8 0, .bool false, .int .u64 0, .int .u64 0] 28)) := ((((Below.refl _ _).alloc (Nat.le_refl _) _).alloc (by simp) _).alloc (by simp; omega) _).alloc (by simp; omega) _
  go_enter Try.func20, Try.ntmps20
  go_wp2_with (refine store_box (t := 28) (by kernel_rfl) rfl rfl hb4 rfl (by simp [Value.oneCell']) ?_)
  intro W' hz ho
  go_wp2
  exact ret_box Try.results20 Try.underlying28 rfl (by kernel_rfl) rfl hz rfl ⟨rfl, (ho.stays (X := fun _ => False) (Stays.of_below hbl) (by omega)).below⟩
set_option maxHeartbeats 400000 in
theorem reply_any (op : Int) (a0 a1 a2 a3 a4 a5 : Int) (sv : Bool) (sh sl : Int) (b0 b1 b2 b3 b4 b5 : Int) (dv : Bool) (dh dl : Int) (m0 m1 m2 m3 m4 m5 : Int) (w : World) :
    Calls Try.prog 19 #[.agg #[.int .i64 (op), .int .u8 a0, .int .u8 a1, .int .u8 a2, .int .u8 a3, .int .u8 a4, .int .u8 a5, .bool sv, .int .u64 sh, .int .u64 sl, .int .u8 b0, .int .u8 b1, .int .u8 b2, .int .u8 b3, .int .u8 b4, .int .u8 b5, .bool dv, .int .u64 dh, .int .u64 dl], .agg #[.int .u8 m0, .int .u8 m1, .int .u8 m2, .int .u8 m3, .int .u8 m4, .int .u8 m5]] w fun e w' => e = .returned (.agg #[.int .i64 (2), .int .u8 m0, .int .u8 m1, .int .u8 m2, .int .u8 m3, .int .u8 m4, .int .u8 m5, .bool dv, .int .u64 dh, .int .u64 dl, .int .u8 a0, .int .u8 a1, .int .u8 a2, .int .u8 a3, .int .u8 a4, .int .u8 a5, .bool sv, .int .u64 sh, .int .u64 sl]) ∧ Below w.heap.size w w' := by
  have hb4 : Box (w.heap.size + 1 + 1) 28 #[.int .i64 0, .int .u8 0, .int .u8 0, .int .u8 0, .int .u8 0, .int .u8 0, .int .u8 0, .bool false, .int .u64 0, .int .u64 0, .int .u8 0, .int .u8 0, .int .u8 0, .int .u8 0, .int .u8 0, .int .u8 0, .bool false, .int .u64 0, .int .u64 0] (((w.alloc (.cells #[.int .i64 (op), .int .u8 a0, .int .u8 a1, .int .u8 a2, .int .u8 a3, .int .u8 a4, .int .u8 a5, .bool sv, .int .u64 sh, .int .u64 sl, .int .u8 b0, .int .u8 b1, .int .u8 b2, .int .u8 b3, .int .u8 b4, .int .u8 b5, .bool dv, .int .u64 dh, .int .u64 dl] 28)).alloc (.cells #[.int .u8 m0, .int .u8 m1, .int .u8 m2, .int .u8 m3, .int .u8 m4, .int .u8 m5] 23)).alloc (.cells #[.int .i64 0, .int .u8 0, .int .u8 0, .int .u8 0, .int .u8 0, .int .u8 0, .int .u8 0, .bool false, .int .u64 0, .int .u64 0, .int .u8 0, .int .u8 0, .int .u8 0, .int .u8 0, .int .u8 0, .int .u8 0, .bool false, .int .u64 0, .int .u64 0] 28)) := Box.madeAt (by simp)
  have hbl : Below w.heap.size w (((w.alloc (.cells #[.int .i64 (op), .int .u8 a0, .int .u8 a1, .int .u8 a2, .int .u8 a3, .int .u8 a4, .int .u8 a5, .bool sv, .int .u64 sh, .int .u64 sl, .int .u8 b0, .int .u8 b1, .int .u8 b2, .int .u8 b3, .int .u8 b4, .int .u8 b5, .bool dv, .int .u64 dh, .int .u64 dl] 28)).alloc (.cells #[.int .u8 m0, .int .u8 m1, .int .u8 m2, .int .u8 m3, .int .u8 m4, .int .u8 m5] 23)).alloc (.cells #[.int .i64 0, .int .u8 0, .int .u8 0, .int .u8 0, .int .u8 0, .int .u8 0, .int .u8 0, .bool false, .int .u64 0, .int .u64 0, .int .u8 0, .int .u8 0, .int .u8 0, .int .u8 0, .int .u8 0, .int .u8 0, .bool false, .int .u64 0, .int .u64 0] 28)) := (((Below.refl _ _).alloc (Nat.le_refl _) _).alloc (by simp) _).alloc (by simp; omega) _
  go_enter Try.func19, Try.ntmps19
  go_wp2_with (refine store_box (t := 28) (by kernel_rfl) rfl rfl hb4 rfl (by simp [Value.oneCell']) ?_)
  intro W' hz ho
  go_wp2
  exact ret_box Try.results19 Try.underlying28 rfl (by kernel_rfl) rfl hz rfl ⟨rfl, (ho.stays (X := fun _ => False) (Stays.of_below hbl) (by omega)).below⟩
set_option maxHeartbeats 400000 in
theorem rreply_any (op : Int) (a0 a1 a2 a3 a4 a5 : Int) (sv : Bool) (sh sl : Int) (b0 b1 b2 b3 b4 b5 : Int) (dv : Bool) (dh dl : Int) (m0 m1 m2 m3 m4 m5 : Int) (w : World) :
    Calls Try.prog 21 #[.agg #[.int .i64 (op), .int .u8 a0, .int .u8 a1, .int .u8 a2, .int .u8 a3, .int .u8 a4, .int .u8 a5, .bool sv, .int .u64 sh, .int .u64 sl, .int .u8 b0, .int .u8 b1, .int .u8 b2, .int .u8 b3, .int .u8 b4, .int .u8 b5, .bool dv, .int .u64 dh, .int .u64 dl], .agg #[.int .u8 m0, .int .u8 m1, .int .u8 m2, .int .u8 m3, .int .u8 m4, .int .u8 m5]] w fun e w' => e = .returned (.agg #[.int .i64 (2), .int .u8 m0, .int .u8 m1, .int .u8 m2, .int .u8 m3, .int .u8 m4, .int .u8 m5, .bool dv, .int .u64 dh, .int .u64 dl, .int .u8 a0, .int .u8 a1, .int .u8 a2, .int .u8 a3, .int .u8 a4, .int .u8 a5, .bool sv, .int .u64 sh, .int .u64 sl]) ∧ Below w.heap.size w w' := by
  have hb4 : Box (w.heap.size + 1 + 1) 28 #[.int .i64 0, .int .u8 0, .int .u8 0, .int .u8 0, .int .u8 0, .int .u8 0, .int .u8 0, .bool false, .int .u64 0, .int .u64 0, .int .u8 0, .int .u8 0, .int .u8 0, .int .u8 0, .int .u8 0, .int .u8 0, .bool false, .int .u64 0, .int .u64 0] (((w.alloc (.cells #[.int .i64 (op), .int .u8 a0, .int .u8 a1, .int .u8 a2, .int .u8 a3, .int .u8 a4, .int .u8 a5, .bool sv, .int .u64 sh, .int .u64 sl, .int .u8 b0, .int .u8 b1, .int .u8 b2, .int .u8 b3, .int .u8 b4, .int .u8 b5, .bool dv, .int .u64 dh, .int .u64 dl] 28)).alloc (.cells #[.int .u8 m0, .int .u8 m1, .int .u8 m2, .int .u8 m3, .int .u8 m4, .int .u8 m5] 23)).alloc (.cells #[.int .i64 0, .int .u8 0, .int .u8 0, .int .u8 0, .int .u8 0, .int .u8 0, .int .u8 0, .bool false, .int .u64 0, .int .u64 0, .int .u8 0, .int .u8 0, .int .u8 0, .int .u8 0, .int .u8 0, .int .u8 0, .bool false, .int .u64 0, .int .u64 0] 28)) := Box.madeAt (by simp)
  have hbl : Below w.heap.size w (((w.alloc (.cells #[.int .i64 (op), .int .u8 a0, .int .u8 a1, .int .u8 a2, .int .u8 a3, .int .u8 a4, .int .u8 a5, .bool sv, .int .u64 sh, .int .u64 sl, .int .u8 b0, .int .u8 b1, .int .u8 b2, .int .u8 b3, .int .u8 b4, .int .u8 b5, .bool dv, .int .u64 dh, .int .u64 dl] 28)).alloc (.cells #[.int .u8 m0, .int .u8 m1, .int .u8 m2, .int .u8 m3, .int .u8 m4, .int .u8 m5] 23)).alloc (.cells #[.int .i64 0, .int .u8 0, .int .u8 0, .int .u8 0, .int .u8 0, .int .u8 0, .int .u8 0, .bool false, .int .u64 0, .int .u64 0, .int .u8 0, .int .u8 0, .int .u8 0, .int .u8 0, .int .u8 0, .int .u8 0, .bool false, .int .u64 0, .int .u64 0] 28)) := (((Below.refl _ _).alloc (Nat.le_refl _) _).alloc (by simp) _).alloc (by simp; omega) _
  go_enter Try.func21, Try.ntmps21
  go_wp2_with (refine store_box (t := 28) (by kernel_rfl) rfl rfl hb4 rfl (by simp [Value.oneCell']) ?_)
  intro W' hz ho
  go_wp2
  exact ret_box Try.results21 Try.underlying28 rfl (by kernel_rfl) rfl hz rfl ⟨rfl, (ho.stays (X := fun _ => False) (Stays.of_below hbl) (by omega)).below⟩
def sameA (sv dv : Bool) (sh sl dh dl : Int) : Bool := (sv == dv) && (sh == dh) && (sl == dl)
theorem sameA_refl (v : Bool) (h l : Int) : sameA v v h l h l = true := by simp [sameA]
set_option maxHeartbeats 400000 in
theorem eq_addr (sv : Bool) (sh sl : Int) (dv : Bool) (dh dl : Int) (w : World) : (Op.equalIn 10000 26 (.agg #[.bool sv, .int .u64 sh, .int .u64 sl]) (.agg #[.bool dv, .int .u64 dh, .int .u64 dl])).run Try.prog w = .ok (sameA sv dv sh sl dh dl) w := by
  unfold sameA
  cases h1 : (sv == dv) <;> cases h2 : (sh == dh) <;> cases h3 : (sl == dl) <;> go_simp
theorem eq_mac_at (d : Nat) (a0 a1 a2 a3 a4 a5 : Int) (w : World) : (Op.equalIn (d + 2) 23 (.agg #[.int .u8 a0, .int .u8 a1, .int .u8 a2, .int .u8 a3, .int .u8 a4, .int .u8 a5]) (.agg #[.int .u8 a0, .int .u8 a1, .int .u8 a2, .int .u8 a3, .int .u8 a4, .int .u8 a5])).run Try.prog w = .ok true w := by
  obtain ⟨i, hi⟩ := Option.isSome_iff_exists.1 (show (Try.prog.info? 5).isSome = true by kernel_rfl)
  have h := eq_ints_list Try.underlying5 d w [a0, a1, a2, a3, a4, a5] [a0, a1, a2, a3, a4, a5] (List.range 6) (by intro i hi; simp at hi; simp; omega)
  rw [run_equalIn_array w (d + 1) _ _ Try.underlying23 hi, show Try.prog.cellsOf 5 = 1 by kernel_rfl]
  rw [all_range _ _ 6 rfl rfl] at h
  simpa using h
set_option maxHeartbeats 1000000 in
theorem eq_arp (op : Int) (a0 a1 a2 a3 a4 a5 : Int) (sv : Bool) (sh sl : Int) (b0 b1 b2 b3 b4 b5 : Int) (dv : Bool) (dh dl : Int) (w : World) : (Op.equalIn 10000 28 (.agg #[.int .i64 (op), .int .u8 a0, .int .u8 a1, .int .u8 a2, .int .u8 a3, .int .u8 a4, .int .u8 a5, .bool sv, .int .u64 sh, .int .u64 sl, .int .u8 b0, .int .u8 b1, .int .u8 b2, .int .u8 b3, .int .u8 b4, .int .u8 b5, .bool dv, .int .u64 dh, .int .u64 dl]) (.agg #[.int .i64 (op), .int .u8 a0, .int .u8 a1, .int .u8 a2, .int .u8 a3, .int .u8 a4, .int .u8 a5, .bool sv, .int .u64 sh, .int .u64 sl, .int .u8 b0, .int .u8 b1, .int .u8 b2, .int .u8 b3, .int .u8 b4, .int .u8 b5, .bool dv, .int .u64 dh, .int .u64 dl])).run Try.prog w = .ok true w := by
  have e1 := fun w => eq_mac_at 9997 a0 a1 a2 a3 a4 a5 w
  have e2 := fun w => eq_mac_at 9997 b0 b1 b2 b3 b4 b5 w
  go_simp
set_option maxHeartbeats 400000 in
theorem own_any (op : Int) (a0 a1 a2 a3 a4 a5 : Int) (sv : Bool) (sh sl : Int) (b0 b1 b2 b3 b4 b5 : Int) (dv : Bool) (dh dl : Int) (w : World) :
    Calls Try.prog 22 #[.agg #[.int .i64 (op), .int .u8 a0, .int .u8 a1, .int .u8 a2, .int .u8 a3, .int .u8 a4, .int .u8 a5, .bool sv, .int .u64 sh, .int .u64 sl, .int .u8 b0, .int .u8 b1, .int .u8 b2, .int .u8 b3, .int .u8 b4, .int .u8 b5, .bool dv, .int .u64 dh, .int .u64 dl]] w fun e w' => e = .returned (.bool (sameA sv dv sh sl dh dl)) ∧ Below w.heap.size w w' := by
  have heq := fun w => eq_addr sv sh sl dv dh dl w
  generalize sameA sv dv sh sl dh dl = q at heq
  have hb := Box.made w 28 #[.int .i64 (op), .int .u8 a0, .int .u8 a1, .int .u8 a2, .int .u8 a3, .int .u8 a4, .int .u8 a5, .bool sv, .int .u64 sh, .int .u64 sl, .int .u8 b0, .int .u8 b1, .int .u8 b2, .int .u8 b3, .int .u8 b4, .int .u8 b5, .bool dv, .int .u64 dh, .int .u64 dl]
  have hb_0 := hb.at_ 0; have hb_1 := hb.at_ 1; have hb_2 := hb.at_ 2; have hb_3 := hb.at_ 3; have hb_4 := hb.at_ 4; have hb_5 := hb.at_ 5; have hb_6 := hb.at_ 6; have hb_7 := hb.at_ 7; have hb_8 := hb.at_ 8; have hb_9 := hb.at_ 9; have hb_10 := hb.at_ 10; have hb_11 := hb.at_ 11; have hb_12 := hb.at_ 12; have hb_13 := hb.at_ 13; have hb_14 := hb.at_ 14; have hb_15 := hb.at_ 15; have hb_16 := hb.at_ 16; have hb_17 := hb.at_ 17; have hb_18 := hb.at_ 18
  go_enter Try.func22, Try.ntmps22
  go_wp2
  go_ret
  exact ⟨rfl, (by repeat (with_reducible first | exact Below.refl _ _ | assumption | refine Below.drew ?_ | refine below_drewN ?_ _ | refine Below.alloc ?_ (by simp) _ | refine Below.setCell ?_ (by first | (simp; done) | omega | (simp; omega)) _ | refine Below.alloc ?_ (by simp; omega) _))⟩
set_option maxHeartbeats 400000 in
theorem rown_any (op : Int) (a0 a1 a2 a3 a4 a5 : Int) (sv : Bool) (sh sl : Int) (b0 b1 b2 b3 b4 b5 : Int) (dv : Bool) (dh dl : Int) (w : World) :
    Calls Try.prog 23 #[.agg #[.int .i64 (op), .int .u8 a0, .int .u8 a1, .int .u8 a2, .int .u8 a3, .int .u8 a4, .int .u8 a5, .bool sv, .int .u64 sh, .int .u64 sl, .int .u8 b0, .int .u8 b1, .int .u8 b2, .int .u8 b3, .int .u8 b4, .int .u8 b5, .bool dv, .int .u64 dh, .int .u64 dl]] w fun e w' => e = .returned (.bool (sameA sv dv sh sl dh dl)) ∧ Below w.heap.size w w' := by
  have heq := fun w => eq_addr sv sh sl dv dh dl w
  generalize sameA sv dv sh sl dh dl = q at heq
  have hb := Box.made w 28 #[.int .i64 (op), .int .u8 a0, .int .u8 a1, .int .u8 a2, .int .u8 a3, .int .u8 a4, .int .u8 a5, .bool sv, .int .u64 sh, .int .u64 sl, .int .u8 b0, .int .u8 b1, .int .u8 b2, .int .u8 b3, .int .u8 b4, .int .u8 b5, .bool dv, .int .u64 dh, .int .u64 dl]
  have hb_0 := hb.at_ 0; have hb_1 := hb.at_ 1; have hb_2 := hb.at_ 2; have hb_3 := hb.at_ 3; have hb_4 := hb.at_ 4; have hb_5 := hb.at_ 5; have hb_6 := hb.at_ 6; have hb_7 := hb.at_ 7; have hb_8 := hb.at_ 8; have hb_9 := hb.at_ 9; have hb_10 := hb.at_ 10; have hb_11 := hb.at_ 11; have hb_12 := hb.at_ 12; have hb_13 := hb.at_ 13; have hb_14 := hb.at_ 14; have hb_15 := hb.at_ 15; have hb_16 := hb.at_ 16; have hb_17 := hb.at_ 17; have hb_18 := hb.at_ 18
  go_enter Try.func23, Try.ntmps23
  go_wp2
  go_ret
  exact ⟨rfl, (by repeat (with_reducible first | exact Below.refl _ _ | assumption | refine Below.drew ?_ | refine below_drewN ?_ _ | refine Below.alloc ?_ (by simp) _ | refine Below.setCell ?_ (by first | (simp; done) | omega | (simp; omega)) _ | refine Below.alloc ?_ (by simp; omega) _))⟩
end Go.Proofs.Ytghhidpggnbfgaa
