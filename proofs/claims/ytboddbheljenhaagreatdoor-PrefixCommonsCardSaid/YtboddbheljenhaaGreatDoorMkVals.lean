/-
  What the deck of exchangepointmake makes: addresses, by states.
-/
import Derived.Test.YtboddbheljenhaaGreatDoorMkValB
namespace Go.Proofs.YtboddbheljenhaaGreatDoor
open Go.RowKit
set_option maxHeartbeats 4000000 in
set_option maxRecDepth 100000 in
theorem addr_5 (zs : List Int) (p : Nat) (hz : zs.length ≤ 9223372036854775807) (hp : p ≤ zs.length) (hc : nextV zs p 6 = 5) : ∃ (v : Bool) (hi lo : Int) (q : Nat), AOk v hi lo ∧ q ≤ zs.length ∧
    Spec Tryz.prog 11 [.ptr 0 0 0] [(0, some (0, deckO zs p))] (.agg [.val (.bool v), .val (.int .u64 hi), .val (.int .u64 lo)]) [(0, some (0, deckO zs q))] := by
  have hp1 := nextPs_le zs 1 p hp
  have hp2 := nextPs_le zs 2 p hp
  refine ⟨false, 0, IntKind.u64.wrap (nextV zs (nextPs zs 1 p) 1073741824), nextPs zs 2 p, ?_, hp2, ?_⟩
  · have := nextV_range zs (nextPs zs 1 p) 1073741824 (by decide)
    exact aok4 (by simp only [IntKind.wrap_u64, IntKind.wrap_i64]; omega) (by simp only [IntKind.wrap_u64, IntKind.wrap_i64]; omega)
  · refine spec_of_awp Tryz.func11 rfl (Nat.le_of_ble_eq_true rfl) fun ini => ?_
    simp only [Tryz.ntmps11]
    refine awp_reg_seq rfl fun k1 => ?_
    (repeat (first | (apply runk_alloc rfl rfl rfl ?_ ?_ ?_; rotate_left 2; (· (conv => (lhs; whnf; arg 1; whnf))); (· (conv => (lhs; whnf)))) | refine runk_end (by kernel_rfl) ?_))
    refine awp_seq ?_
    refine awp_reg_seq rfl fun k2 => ?_
    (repeat (first | (apply runk0 rfl rfl (opok_move rfl ?_) ?_; rotate_left 1; (· (conv => (lhs; whnf))))))
    (apply runk_with rfl rfl rfl ?_ ?_ ?_ ?_ ?_ ?_ ?_ ?_ ?_ ?_ ?_; rotate_left 10; (· (conv => (lhs; whnf))); (· exact Tryz.func22); (· rfl); (· rfl); (· exact (next_spec zs p 6 (by decide) (by decide) hz hp)); (· (repeat (first | exact Rens.nil | (refine Rens.cons ?_ ?_; (· first | exact Ren.own _ _ _ _ _ _ rfl List.mem_cons_self | exact Ren.own _ _ _ _ _ _ rfl (List.mem_cons_of_mem _ List.mem_cons_self) | (refine (Ren.own _ _ _ _ _ _ ?_ List.mem_cons_self); first | rfl | (simp; done)) | (refine (Ren.own _ _ _ _ _ _ ?_ (List.mem_cons_of_mem _ List.mem_cons_self)); first | rfl | (simp; done)) | exact Ren.ptr _ _ _ _ _ List.mem_cons_self | (refine Ren.pureR ?_ rfl; (first | rfl | (simp; done) | (simp [AVal.pure, AVal.pures, AObj.pure]; done)))))))); (· rfl); (· first | rfl | (simp; done) | simp [AVal.pure, AVal.pures, AObj.pure]); (· first | rfl | (simp; done) | simp [AVal.pure, AVal.pures, AObj.pure]); (· first | rfl | (simp; done) | simp [AVal.pure, AVal.pures, AObj.pure]))
    rw [hc]
    (repeat (first | refine runk_end (by kernel_rfl) ?_))
    refine awp_block ?_
    refine awp_reg_seq rfl fun c0 => ?_
    (repeat (first | (apply runk0 rfl rfl (opok_assign rfl ?_) ?_; rotate_left 1; (· (conv => (lhs; whnf)))) | (apply runk0 rfl rfl (opok_bin rfl ?_ ?_ ?_) ?_; rotate_left 3; (· (conv => (lhs; whnf))); (· (conv => (lhs; whnf))); (· (intro w; go_simp; first | done | rfl))) | refine runk_end (by kernel_rfl) ?_))
    refine awp_false rfl ?_
    refine awp_reg_seq rfl fun c1 => ?_
    (repeat (first | (apply runk0 rfl rfl (opok_assign rfl ?_) ?_; rotate_left 1; (· (conv => (lhs; whnf)))) | (apply runk0 rfl rfl (opok_bin rfl ?_ ?_ ?_) ?_; rotate_left 3; (· (conv => (lhs; whnf))); (· (conv => (lhs; whnf))); (· (intro w; go_simp; first | done | rfl))) | refine runk_end (by kernel_rfl) ?_))
    refine awp_false rfl ?_
    refine awp_reg_seq rfl fun c2 => ?_
    (repeat (first | (apply runk0 rfl rfl (opok_assign rfl ?_) ?_; rotate_left 1; (· (conv => (lhs; whnf)))) | (apply runk0 rfl rfl (opok_bin rfl ?_ ?_ ?_) ?_; rotate_left 3; (· (conv => (lhs; whnf))); (· (conv => (lhs; whnf))); (· (intro w; go_simp; first | done | rfl))) | refine runk_end (by kernel_rfl) ?_))
    refine awp_false rfl ?_
    refine awp_reg_seq rfl fun c3 => ?_
    (repeat (first | (apply runk0 rfl rfl (opok_assign rfl ?_) ?_; rotate_left 1; (· (conv => (lhs; whnf)))) | (apply runk0 rfl rfl (opok_bin rfl ?_ ?_ ?_) ?_; rotate_left 3; (· (conv => (lhs; whnf))); (· (conv => (lhs; whnf))); (· (intro w; go_simp; first | done | rfl))) | refine runk_end (by kernel_rfl) ?_))
    refine awp_false rfl ?_
    refine awp_reg_seq rfl fun c4 => ?_
    (repeat (first | (apply runk0 rfl rfl (opok_assign rfl ?_) ?_; rotate_left 1; (· (conv => (lhs; whnf)))) | (apply runk0 rfl rfl (opok_bin rfl ?_ ?_ ?_) ?_; rotate_left 3; (· (conv => (lhs; whnf))); (· (conv => (lhs; whnf))); (· (intro w; go_simp; first | done | rfl))) | refine runk_end (by kernel_rfl) ?_))
    refine awp_false rfl ?_
    refine awp_skip (?_ : Awp _ _ _ _ _ _)
    refine awp_reg_seq rfl fun k4 => ?_
    (repeat (first | (apply runk0 rfl rfl (opok_move rfl ?_) ?_; rotate_left 1; (· (conv => (lhs; whnf))))))
    (apply runk_with rfl rfl rfl ?_ ?_ ?_ ?_ ?_ ?_ ?_ ?_ ?_ ?_ ?_; rotate_left 10; (· (conv => (lhs; whnf))); (· exact Tryz.func22); (· rfl); (· rfl); (· exact (next_spec zs (nextPs zs 1 p) 1073741824 (by decide) (by decide) hz hp1)); (· (repeat (first | exact Rens.nil | (refine Rens.cons ?_ ?_; (· first | exact Ren.own _ _ _ _ _ _ rfl List.mem_cons_self | exact Ren.own _ _ _ _ _ _ rfl (List.mem_cons_of_mem _ List.mem_cons_self) | (refine (Ren.own _ _ _ _ _ _ ?_ List.mem_cons_self); first | rfl | (simp; done)) | (refine (Ren.own _ _ _ _ _ _ ?_ (List.mem_cons_of_mem _ List.mem_cons_self)); first | rfl | (simp; done)) | exact Ren.ptr _ _ _ _ _ List.mem_cons_self | (refine Ren.pureR ?_ rfl; (first | rfl | (simp; done) | (simp [AVal.pure, AVal.pures, AObj.pure]; done)))))))); (· rfl); (· first | rfl | (simp; done) | simp [AVal.pure, AVal.pures, AObj.pure]); (· first | rfl | (simp; done) | simp [AVal.pure, AVal.pures, AObj.pure]); (· first | rfl | (simp; done) | simp [AVal.pure, AVal.pures, AObj.pure]))
    (repeat (first | (apply runk0 rfl rfl (opok_conv rfl ?_ ?_) ?_; rotate_left 2; (· (conv => (lhs; whnf))); (· (intro w; go_simp; first | done | rfl))) | (apply runk0 rfl rfl (opok_build rfl ?_ ?_ ?_ ?_ ?_) ?_; rotate_left 5; (· (conv => (lhs; whnf; arg 1; whnf))); (· (conv => (lhs; whnf; arg 1; repeat (whnf; arg 2)))); (· (conv => (lhs; whnf; arg 1; whnf))); (· (repeat (first | exact PartsOf.nil | (apply PartsOf.cons; (· (conv => (lhs; whnf))))))); (· (conv => (lhs; whnf; arg 1; repeat (whnf; arg 2))))) | (apply runk_store rfl rfl rfl ?_ ?_ ?_ ?_ ?_ ?_ ?_ ?_ ?_ ?_ ?_; rotate_left 9; (· (conv => (lhs; whnf))); (· (conv => (lhs; whnf))); (· (conv => (lhs; whnf; arg 1; whnf; arg 2; whnf))); (· rfl); (· (conv => (lhs; whnf))); (· rfl); (· (unfold sizeIs; conv => (lhs; whnf; arg 1; whnf))); (· rfl); (· rfl); (· (conv => (lhs; repeat (whnf; arg 2))))) | refine runk_end (by kernel_rfl) ?_))
    refine awp_ret ?_
    (apply ends_with ?_ ?_ ?_ ?_ ?_ ?_ ?_ ?_ (.inl rfl); rotate_left 3; (· first | exact res_one rfl rfl | exact res_two rfl rfl rfl | exact res_none rfl | exact res_three rfl rfl rfl rfl | exact res_cell rfl rfl rfl rfl rfl | exact res_cell2 rfl rfl rfl rfl rfl rfl | exact res3 rfl (rv_cell rfl rfl rfl rfl) (rv_tmp rfl) (rv_tmp rfl) | exact res3 rfl (rv_cell rfl rfl rfl rfl) (rv_cell rfl rfl rfl rfl) (rv_cell rfl rfl rfl rfl)); (· first | rfl | ((conv => (lhs; whnf)); first | rfl | (simp; done) | (rfl))); (· first | rfl | (simp; done) | (simp [AVal.pure, AVal.pures, AObj.pure]; done)); (· (conv => (lhs; whnf; arg 1; whnf))); (· rfl); (· first | rfl | (simp; done) | (rfl)); (· first | rfl | (simp; done) | (simp [AVal.pure, AVal.pures, AObj.pure]; done)); (· rfl))
theorem addr_ex (zs : List Int) (p : Nat) (hz : zs.length ≤ 9223372036854775807) (hp : p ≤ zs.length) : ∃ (v : Bool) (hi lo : Int) (q : Nat), AOk v hi lo ∧ q ≤ zs.length ∧
    Spec Tryz.prog 11 [.ptr 0 0 0] [(0, some (0, deckO zs p))] (.agg [.val (.bool v), .val (.int .u64 hi), .val (.int .u64 lo)]) [(0, some (0, deckO zs q))] := by
  obtain ⟨r0, r1⟩ := nextV_range zs p 6 (by decide)
  have hc : nextV zs p 6 = 0 ∨ nextV zs p 6 = 1 ∨ nextV zs p 6 = 2 ∨ nextV zs p 6 = 3 ∨ nextV zs p 6 = 4 ∨ nextV zs p 6 = 5 := by omega
  rcases hc with hc | hc | hc | hc | hc | hc
  · exact addr_0 zs p hz hp hc
  · exact addr_1 zs p hz hp hc
  · exact addr_2 zs p hz hp hc
  · exact addr_3 zs p hz hp hc
  · exact addr_4 zs p hz hp hc
  · exact addr_5 zs p hz hp hc
end Go.Proofs.YtboddbheljenhaaGreatDoor
