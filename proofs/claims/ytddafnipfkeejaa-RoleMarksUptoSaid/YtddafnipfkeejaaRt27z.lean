/-
  Attributes and routes as lists of cells, by states.
-/
import Derived.Test.YtddafnipfkeejaaDeckN
import Derived.Test.YtddafnipfkeejaaAbsQ
import Derived.Test.YtddafnipfkeejaaAbsI
import Derived.Test.YtddafnipfkeejaaAbsN
namespace Go.Proofs.Ytddafnipfkeejaa
open Go.RowKit
structure AK where
  o : Int
  p : List (Bool × List Int)
  v6 : Bool
  hi : Int
  lo : Int
  med : Int
  pref : Int
  otc : Int
  cs : List (Int × Int)
  ls : List (Int × Int × Int)
  us : List (Int × Int × List Int)
def segA (s : Bool × List Int) : AVal := .agg [.val (.bool s.1), .ro (ints .i64 s.2)]
def comA (c : Int × Int) : AVal := .agg [.val (.int .i64 c.1), .val (.int .i64 c.2)]
def lrgA (c : Int × Int × Int) : AVal := .agg [.val (.int .i64 c.1), .val (.int .i64 c.2.1), .val (.int .i64 c.2.2)]
def unkA (u : Int × Int × List Int) : AVal := .agg [.val (.int .i64 u.1), .val (.int .i64 u.2.1), .ro (ints .u8 u.2.2)]
@[simp] theorem pures_segs (l : List (Bool × List Int)) : AVal.pures (l.map segA) = true := AVal.pures_of fun x hx => by
  obtain ⟨s, -, rfl⟩ := List.mem_map.1 hx
  simp [segA, AVal.pure, AVal.pures]
@[simp] theorem pures_coms (l : List (Int × Int)) : AVal.pures (l.map comA) = true := AVal.pures_of fun x hx => by
  obtain ⟨s, -, rfl⟩ := List.mem_map.1 hx
  simp [comA, AVal.pure, AVal.pures]
@[simp] theorem pures_lrgs (l : List (Int × Int × Int)) : AVal.pures (l.map lrgA) = true := AVal.pures_of fun x hx => by
  obtain ⟨s, -, rfl⟩ := List.mem_map.1 hx
  simp [lrgA, AVal.pure, AVal.pures]
@[simp] theorem pures_unks (l : List (Int × Int × List Int)) : AVal.pures (l.map unkA) = true := AVal.pures_of fun x hx => by
  obtain ⟨s, -, rfl⟩ := List.mem_map.1 hx
  simp [unkA, AVal.pure, AVal.pures]
@[simp] theorem pure_segA (s : Bool × List Int) : (segA s).pure = true := by simp [segA, AVal.pure, AVal.pures]
@[simp] theorem pure_unkA (s : Int × Int × List Int) : (unkA s).pure = true := by simp [unkA, AVal.pure, AVal.pures]
@[simp] theorem widths_segs (l : List (Bool × List Int)) : widths 2 (l.map segA) = true := by simp [widths, segA, AVal.flat]
@[simp] theorem widths_coms (l : List (Int × Int)) : widths 2 (l.map comA) = true := by simp [widths, comA, AVal.flat]
@[simp] theorem widths_lrgs (l : List (Int × Int × Int)) : widths 3 (l.map lrgA) = true := by simp [widths, lrgA, AVal.flat]
/-- No part of it is long. -/
def AK.sml (a : AK) : Prop := a.p.length ≤ 2 ∧ a.cs.length ≤ 8 ∧ a.ls.length ≤ 7 ∧ a.us.length ≤ 1 ∧ (∀ s ∈ a.p, s.2.length ≤ 100) ∧ ∀ u ∈ a.us, u.2.2.length ≤ 2
def AK.A (a : AK) : List AVal := [.val (.int .i64 a.o), .ro (a.p.map segA), .val (.bool a.v6), .val (.int .u64 a.hi), .val (.int .u64 a.lo), .val (.int .i64 a.med), .val (.int .i64 a.pref), .val (.int .i64 a.otc), .ro (a.cs.map comA), .ro (a.ls.map lrgA), .ro (a.us.map unkA)]
structure RK where
  v6 : Bool
  hi : Int
  lo : Int
  len : Int
  from_ : Int
  a : AK
def RK.A (r : RK) : List AVal := [.val (.bool r.v6), .val (.int .u64 r.hi), .val (.int .u64 r.lo), .val (.int .i64 r.len), .val (.int .i64 r.from_)] ++ r.a.A
set_option maxHeartbeats 2000000 in
set_option maxRecDepth 100000 in
theorem empty_spec : Spec Try.prog 30 [] [] (.agg [.val (.int .i64 (-1)), .val (.slice none 0 0), .val (.bool false), .val (.int .u64 0), .val (.int .u64 0), .val (.int .i64 (-1)), .val (.int .i64 (-1)), .val (.int .i64 (-1)), .val (.slice none 0 0), .val (.slice none 0 0), .val (.slice none 0 0)]) [] := by
  refine spec_of_awp Try.func30 rfl (Nat.le_of_ble_eq_true rfl) fun ini => ?_
  simp only [Try.ntmps30]
  (repeat (first | refine awp_reg_seq rfl fun k => ?_ | (refine awp_ret ?_; (apply ends_pure ?_ ?_ ?_ ?_ ?_ (.inl rfl); rotate_left 1; (· first | exact res_one rfl rfl | exact res_two rfl rfl rfl | exact res_none rfl | exact res_three rfl rfl rfl rfl | exact res_cell rfl rfl rfl rfl rfl | exact res_cell2 rfl rfl rfl rfl rfl rfl | exact res3 rfl (rv_cell rfl rfl rfl rfl) (rv_tmp rfl) (rv_tmp rfl) | exact res3 rfl (rv_cell rfl rfl rfl rfl) (rv_cell rfl rfl rfl rfl) (rv_cell rfl rfl rfl rfl)); (· first | rfl | ((conv => (lhs; whnf)); first | rfl | (simp; done))); (· first | rfl | (simp; done) | (simp [AVal.pure, AVal.pures, AObj.pure]; done)); (· rfl); (· rfl))) | (apply runk0 rfl rfl (opok_build rfl ?_ ?_ ?_ ?_ ?_) ?_; rotate_left 5; (· (conv => (lhs; whnf; arg 1; whnf))); (· (conv => (lhs; whnf; arg 1; repeat (whnf; arg 2)))); (· (conv => (lhs; whnf; arg 1; whnf))); (· (repeat (first | exact PartsOf.nil | (apply PartsOf.cons; (· (conv => (lhs; whnf))))))); (· (conv => (lhs; whnf; arg 1; repeat (whnf; arg 2))))) | (apply runk_alloc rfl rfl rfl ?_ ?_ ?_; rotate_left 2; (· (conv => (lhs; whnf; arg 1; whnf))); (· (conv => (lhs; whnf)))) | (apply runk_store rfl rfl rfl ?_ ?_ ?_ ?_ ?_ ?_ ?_ ?_ ?_ ?_ ?_; rotate_left 9; (· (conv => (lhs; whnf))); (· (conv => (lhs; whnf))); (· (conv => (lhs; whnf; arg 1; whnf; arg 2; whnf))); (· rfl); (· (conv => (lhs; whnf))); (· rfl); (· (unfold sizeIs; conv => (lhs; whnf; arg 1; whnf))); (· rfl); (· rfl); (· (conv => (lhs; repeat (whnf; arg 2))))) | refine runk_end (by kernel_rfl) ?_))
end Go.Proofs.Ytddafnipfkeejaa
