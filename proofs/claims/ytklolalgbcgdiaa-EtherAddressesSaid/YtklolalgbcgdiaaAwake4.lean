/-
  Layer 4 (ether): the sanity check.
-/
import Derived.Test.YtklolalgbcgdiaaParseMac
namespace Go.Proofs.Ytklolalgbcgdiaa
open Go.RowKit
set_option maxHeartbeats 1000000 in
theorem awake4_any (w : World) : Calls Try.prog 8 #[] w fun e w' => e = .returned (.bool true) ∧ Below w.heap.size w w' := by
  have hp : strOfNums (macTxt [51, 51, 255, 0, 0, 1]) = ⟨#[51, 51, 58, 51, 51, 58, 102, 102, 58, 48, 48, 58, 48, 48, 58, 48, 49]⟩ := by kernel_rfl
  have hs : strOfNums [48, 49, 58, 56, 48, 58, 99, 50, 58, 48, 48, 58, 48, 48, 58, 48, 50] = ⟨#[48, 49, 58, 56, 48, 58, 99, 50, 58, 48, 48, 58, 48, 48, 58, 48, 50]⟩ := by kernel_rfl
  have hv : parseVal [48, 49, 58, 56, 48, 58, 99, 50, 58, 48, 48, 58, 48, 48, 58, 48, 50] = .tuple #[.agg #[.int .u8 1, .int .u8 128, .int .u8 194, .int .u8 0, .int .u8 0, .int .u8 2], .int .i64 0] := by kernel_rfl
  have hr : resB 1 128 194 0 0 2 = true := by kernel_rfl
  have c1 := fun W => solicited_yes 0 1 W (by omega) (by omega)
  have c2 := fun W => parse_any [48, 49, 58, 56, 48, 58, 99, 50, 58, 48, 48, 58, 48, 48, 58, 48, 50] W (by simp) (by simp)
  have c3 := fun W => print_any 51 51 255 0 0 1 W (by simp)
  have c4 := fun W => reserved_any 1 128 194 0 0 2 W
  have c5 := fun W => group_any 1 128 194 0 0 2 W (by omega) (by omega)
  rw [hs, hv] at c2
  rw [hp] at c3
  rw [hr] at c4
  simp at c1 c5
  have C1 := Lib.hid c1; have C2 := Lib.hid c2; have C3 := Lib.hid c3; have C4 := Lib.hid c4; have C5 := Lib.hid c5
  clear hp hs hv hr c1 c2 c3 c4 c5
  go_enter Try.func8, Try.ntmps8
  go_wp2_with fail
  refine (C1.out _).mono ?_
  rintro e w1 ⟨rfl, hb1⟩
  go_wp2_with fail
  refine (C2.out _).mono ?_
  rintro e w2 ⟨rfl, hb2⟩
  have x1 := (Box.made w1 23 #[.int .u8 51, .int .u8 51, .int .u8 255, .int .u8 0, .int .u8 0, .int .u8 1]).under hb2 (by simp)
  have x1_0 := fun o => (x1.past o).at_ 0; have x1_1 := fun o => (x1.past o).at_ 1; have x1_2 := fun o => (x1.past o).at_ 2; have x1_3 := fun o => (x1.past o).at_ 3; have x1_4 := fun o => (x1.past o).at_ 4; have x1_5 := fun o => (x1.past o).at_ 5
  go_wp2_with fail
  refine (C3.out _).mono ?_
  rintro e w3 ⟨rfl, hb3⟩
  have x2 := (Box.made w2 23 #[.int .u8 1, .int .u8 128, .int .u8 194, .int .u8 0, .int .u8 0, .int .u8 2]).under hb3 (by simp)
  have x2_0 := x2.at_ 0; have x2_1 := x2.at_ 1; have x2_2 := x2.at_ 2; have x2_3 := x2.at_ 3; have x2_4 := x2.at_ 4; have x2_5 := x2.at_ 5
  go_wp2_with fail
  refine (C4.out _).mono ?_
  rintro e w4 ⟨rfl, hb4⟩
  have x3 := x2.under hb4 x2.inside
  have x3_0 := x3.at_ 0; have x3_1 := x3.at_ 1; have x3_2 := x3.at_ 2; have x3_3 := x3.at_ 3; have x3_4 := x3.at_ 4; have x3_5 := x3.at_ 5
  go_wp2_with fail
  refine (C5.out _).mono ?_
  rintro e w5 ⟨rfl, hb5⟩
  go_wp2
  go_ret
  refine ⟨rfl, ?_⟩
  have hbb := fun {a b c : World} {B : Nat} (h : Below B a b) (h' : Below b.heap.size b c) (hB : B ≤ b.heap.size) => h.trans (h'.mono hB)
  have t1 := hbb (hb1.alloc hb1.size _) hb2 (by have := hb1.size; simp; omega)
  have t2 := hbb (t1.alloc t1.size _) hb3 (by have := t1.size; simp; omega)
  have t3 := hbb t2 hb4 t2.size
  exact hbb t3 hb5 t3.size
end Go.Proofs.Ytklolalgbcgdiaa
