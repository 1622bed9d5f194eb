/-
  Layer 1's example: the address of eight groups.
-/
import Derived.Test.YtmbmodeiikhnkaaDoorPrt1
import Derived.Test.YtmbmodeiikhnkaaDoorAbsQue
namespace Go.Proofs.YtmbmodeiikhnkaaDoor
open Go.RowKit
set_option maxHeartbeats 16000000 in
set_option maxRecDepth 100000 in
theorem join_ex : Spec Tryd.prog 37 [.agg [.val (.int .u16 8193), .val (.int .u16 3512), .val (.int .u16 0), .val (.int .u16 0), .val (.int .u16 1), .val (.int .u16 0), .val (.int .u16 0), .val (.int .u16 1)]] [] (.agg [.val (.bool true), .val (.int .u64 2306139568115548160), .val (.int .u64 281474976710657)]) [] := by
  have f0 : IntKind.u64.wrap 0 = 0 := by decide +kernel
  have f1 : IntKind.u64.wrap 8193 = 8193 := by decide +kernel
  have f2 : bits .or .u64 0 8193 = 8193 := by decide +kernel
  have f3 : IntKind.u64.wrap 1 = 1 := by decide +kernel
  have f4 : bits .or .u64 0 1 = 1 := by decide +kernel
  have f5 : IntKind.u64.wrap 536936448 = 536936448 := by decide +kernel
  have f6 : IntKind.u64.wrap 3512 = 3512 := by decide +kernel
  have f7 : bits .or .u64 536936448 3512 = 536939960 := by decide +kernel
  have f8 : IntKind.u64.wrap 65536 = 65536 := by decide +kernel
  have f9 : bits .or .u64 65536 0 = 65536 := by decide +kernel
  have f10 : IntKind.u64.wrap 536939960 = 536939960 := by decide +kernel
  have f11 : IntKind.u64.wrap 35188897218560 = 35188897218560 := by decide +kernel
  have f12 : bits .or .u64 35188897218560 0 = 35188897218560 := by decide +kernel
  have f13 : IntKind.u64.wrap 4294967296 = 4294967296 := by decide +kernel
  have f14 : bits .or .u64 4294967296 0 = 4294967296 := by decide +kernel
  have f15 : IntKind.u64.wrap 2306139568115548160 = 2306139568115548160 := by decide +kernel
  have f16 : bits .or .u64 2306139568115548160 0 = 2306139568115548160 := by decide +kernel
  have f17 : IntKind.u64.wrap 281474976710656 = 281474976710656 := by decide +kernel
  have f18 : bits .or .u64 281474976710656 1 = 281474976710657 := by decide +kernel
  have f19 : IntKind.i64.wrap 0 = 0 := by decide +kernel
  have f20 : IntKind.i64.wrap 1 = 1 := by decide +kernel
  have f21 : IntKind.i64.wrap 2 = 2 := by decide +kernel
  have f22 : IntKind.i64.wrap 3 = 3 := by decide +kernel
  have f23 : IntKind.i64.wrap 4 = 4 := by decide +kernel
  have f24 : IntKind.i64.wrap 5 = 5 := by decide +kernel
  have f25 : IntKind.i64.wrap 6 = 6 := by decide +kernel
  have f26 : IntKind.i64.wrap 7 = 7 := by decide +kernel
  have f27 : IntKind.i64.wrap 8 = 8 := by decide +kernel
  refine spec_of_awp Tryd.func37 rfl (Nat.le_of_ble_eq_true rfl) fun ini => ?_
  simp only [Tryd.ntmps37]
  (repeat (first | refine awp_reg_seq rfl fun k => ?_ | refine awp_seq ?_ | refine awp_block ?_ | (apply runk0 rfl rfl (opok_move rfl ?_) ?_; rotate_left 1; (· (conv => (lhs; whnf)))) | (apply runk0 rfl rfl (opok_build rfl ?_ ?_ ?_ ?_ ?_) ?_; rotate_left 5; (· (conv => (lhs; whnf; arg 1; whnf))); (· (conv => (lhs; whnf; arg 1; repeat (whnf; arg 2)))); (· (conv => (lhs; whnf; arg 1; whnf))); (· (repeat (first | exact PartsOf.nil | (apply PartsOf.cons; (· (conv => (lhs; whnf))))))); (· (conv => (lhs; whnf; arg 1; repeat (whnf; arg 2))))) | (apply runk_box rfl rfl rfl ?_ ?_ ?_ ?_; rotate_left 2; (· (conv => (lhs; whnf))); (· rfl); (· (conv => (lhs; whnf)))) | (apply runk_alloc rfl rfl rfl ?_ ?_ ?_; rotate_left 2; (· (conv => (lhs; whnf; arg 1; whnf))); (· (conv => (lhs; whnf)))) | (apply runk_store rfl rfl rfl ?_ ?_ ?_ ?_ ?_ ?_ ?_ ?_ ?_ ?_ ?_; rotate_left 9; (· (conv => (lhs; whnf))); (· (conv => (lhs; whnf))); (· (conv => (lhs; whnf; arg 1; whnf; arg 2; whnf))); (· rfl); (· (conv => (lhs; whnf))); (· rfl); (· (unfold sizeIs; conv => (lhs; whnf; arg 1; whnf))); (· rfl); (· rfl); (· (conv => (lhs; repeat (whnf; arg 2))))) | refine runk_end (by kernel_rfl) ?_))
  refine awp_rounds 5 ?_
  (repeat (first | refine awp_reg_seq rfl fun k => ?_ | refine awp_reg rfl fun k => ?_ | refine awp_seq ?_ | refine awp_true rfl ?_ | refine awp_false rfl ?_ | refine awp_isF rfl (by assumption) ?_ | refine awp_skip (?_ : Awp _ _ _ _ _ _) | refine awp_block ?_ | refine awp_exit (?_ : Awp _ _ _ _ _ _) | (refine awp_ret ?_; (apply ends_pure ?_ ?_ ?_ ?_ ?_ (.inl rfl); rotate_left 1; (· first | exact res_one rfl rfl | exact res_two rfl rfl rfl | exact res_none rfl | exact res_three rfl rfl rfl rfl | exact res_cell rfl rfl rfl rfl rfl | exact res_cell2 rfl rfl rfl rfl rfl rfl | exact res3 rfl (rv_cell rfl rfl rfl rfl) (rv_tmp rfl) (rv_tmp rfl) | exact res3 rfl (rv_cell rfl rfl rfl rfl) (rv_cell rfl rfl rfl rfl) (rv_cell rfl rfl rfl rfl)); (· first | rfl | ((conv => (lhs; whnf)); first | rfl | (simp; done))); (· first | rfl | (simp; done) | (simp [AVal.pure, AVal.pures, AObj.pure]; done)); (· rfl); (· rfl))) | (((apply runk0 rfl rfl (opok_indexP rfl ?_ ?_ rfl ?_ ?_ ?_) ?_; rotate_left 6; (· (conv => (lhs; whnf))); (· (conv => (lhs; whnf))); (· (unfold sizeIs; conv => (lhs; whnf; arg 1; whnf))); (· first | omega | (simp; done) | (simp; omega)); (· first | omega | (simp; done) | (simp; omega))))) | (apply runk0 rfl rfl (opok_move rfl ?_) ?_; rotate_left 1; (· (conv => (lhs; whnf)))) | (apply runk0 rfl rfl (opok_assign rfl ?_) ?_; rotate_left 1; (· (conv => (lhs; whnf)))) | (apply runk_fa rfl rfl rfl ?_ rfl rfl ?_ ?_ ?_ ?_; rotate_left 5; (· (conv => (lhs; whnf))); (· (unfold sizeIs; conv => (lhs; whnf; arg 1; whnf))); (· rfl); (· (conv => (lhs; whnf)))) | (first | (apply runk0 rfl rfl (opok_load rfl ?_ ?_ ?_ ?_) ?_; rotate_left 5; (· (conv => (lhs; whnf))); (· (conv => (lhs; whnf; arg 1; whnf; arg 2; whnf))); (· rfl); (· (conv => (lhs; whnf; arg 1; whnf)))) | (apply runk0 rfl rfl (opok_loadR rfl ?_ ?_ ?_) ?_; rotate_left 2; (· (conv => (lhs; whnf))); (· rfl); (· (conv => (lhs; whnf; arg 1; whnf))))) | (apply runk0 rfl rfl (opok_loadA rfl ?_ ?_ ?_ ?_ ?_ ?_) ?_; rotate_left 6; (· (conv => (lhs; whnf))); (· (conv => (lhs; whnf; arg 1; whnf; arg 2; whnf))); (· rfl); (· (unfold sizeIs; conv => (lhs; whnf; arg 1; whnf))); (· (conv => (lhs; repeat (whnf; arg 2)))); (· rfl)) | (apply runk0 rfl rfl (opok_bin rfl ?_ ?_ ?_) ?_; rotate_left 3; (· (conv => (lhs; whnf))); (· (conv => (lhs; whnf))); (· (intro w; go_simp; first | done | rfl))) | (apply runk0 rfl rfl (opok_conv rfl ?_ ?_) ?_; rotate_left 2; (· (conv => (lhs; whnf))); (· (intro w; go_simp; first | done | rfl))) | (apply runk0 rfl rfl (opok_extract rfl ?_ ?_) ?_; rotate_left 2; (· (conv => (lhs; whnf))); (· (conv => (lhs; whnf; arg 1; whnf)))) | (apply runk_store rfl rfl rfl ?_ ?_ ?_ ?_ ?_ ?_ ?_ ?_ ?_ ?_ ?_; rotate_left 9; (· (conv => (lhs; whnf))); (· (conv => (lhs; whnf))); (· (conv => (lhs; whnf; arg 1; whnf; arg 2; whnf))); (· rfl); (· (conv => (lhs; whnf))); (· rfl); (· (unfold sizeIs; conv => (lhs; whnf; arg 1; whnf))); (· rfl); (· rfl); (· (conv => (lhs; repeat (whnf; arg 2))))) | refine runk_end (by kernel_rfl) ?_))
end Go.Proofs.YtmbmodeiikhnkaaDoor
