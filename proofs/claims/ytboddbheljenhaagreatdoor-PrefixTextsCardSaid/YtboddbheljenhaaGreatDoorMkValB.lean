/-
  What the deck of exchangepointmake makes: addresses, by states.
-/
import Derived.Test.YtboddbheljenhaaGreatDoorG09
namespace Go.Proofs.YtboddbheljenhaaGreatDoor
open Go.RowKit
set_option maxHeartbeats 4000000 in
set_option maxRecDepth 100000 in
theorem addr_3 (zs : List Int) (p : Nat) (hz : zs.length ≤ 9223372036854775807) (hp : p ≤ zs.length) (hc : nextV zs p 6 = 3) : ∃ (v : Bool) (hi lo : Int) (q : Nat), AOk v hi lo ∧ q ≤ zs.length ∧
    Spec Tryz.prog 11 [.ptr 0 0 0] [(0, some (0, deckO zs p))] (.agg [.val (.bool v), .val (.int .u64 hi), .val (.int .u64 lo)]) [(0, some (0, deckO zs q))] := by
  have hp1 := nextPs_le zs 1 p hp
  have hp2 := nextPs_le zs 2 p hp
  have hp3 := nextPs_le zs 3 p hp
  have s30 := nextV_range zs (nextPs zs 1 p) 4 (by decide)
  have s31 := nextV_range zs (nextPs zs 2 p) 4 (by decide)
  refine ⟨true, [0, 1, 18446744073709551615, 9223372036854775808].getD (nextV zs (nextPs zs 1 p) 4).toNat 0, [0, 1, 18446744073709551615, 9223372036854775808].getD (nextV zs (nextPs zs 2 p) 4).toNat 0, nextPs zs 3 p, ?_, hp3, ?_⟩
  · exact aok6 (pick_ok (by decide) (by simp only [List.length_cons, List.length_nil]; omega)) (pick_ok (by decide) (by simp only [List.length_cons, List.length_nil]; omega))
  · refine spec_of_awp Tryz.func11 rfl (Nat.le_of_ble_eq_true rfl) fun ini => ?_
    simp only [Tryz.ntmps11]
    refine awp_reg_seq rfl fun k1 => ?_
    (repeat (first | (apply runk_alloc rfl rfl rfl ?_ ?_ ?_; rotate_left 2; (· (conv => (lhs; whnf; arg 1; whnf))); (· (conv => (lhs; whnf)))) | refine runk_end (by kernel_rfl) ?_))
    refine awp_seq ?_
    refine awp_reg_seq rfl fun k2 => ?_
    (repeat (first | (apply runk0 rfl rfl (opok_move rfl ?_) ?_; rotate_left 1; (· (conv => (lhs; whnf))))))
    (apply runk_with rfl rfl rfl ?_ ?_ ?_ ?_ ?_ ?_ ?_ ?_ ?_ ?_ ?_; rotate_left 10; (· (conv => (lhs; whnf))); (· exact Tryz.func22); (· rfl); (· rfl); (· exact (next_spec zs p 6 (by decide) (by decide) hz hp)); (· (repeat (first | exact Rens.nil | (refine Rens.cons ?_ ?_; (· first | exact Ren.ptr _ _ _ _ _ List.mem_cons_self | (refine Ren.pureR ?_ rfl; (rfl))))))); (· rfl); (· rfl); (· ((simp; done))); (· ((simp; done))))
    rw [hc]
    (repeat (first | refine runk_end (by kernel_rfl) ?_))
    refine awp_block ?_
    refine awp_reg_seq rfl fun c0 => ?_
    (repeat (first | (apply runk0 rfl rfl (opok_assign rfl ?_) ?_; rotate_left 1; (· (conv => (lhs; whnf)))) | (apply runk0 rfl rfl (opok_bin rfl ?_ ?_ ?_) ?_; rotate_left 3; (· (conv => (lhs; whnf))); (· (conv => (lhs; whnf))); (· (intro w; go_simp; rfl))) | refine runk_end (by kernel_rfl) ?_))
    refine awp_false rfl ?_
    refine awp_reg_seq rfl fun c1 => ?_
    (repeat (first | (apply runk0 rfl rfl (opok_assign rfl ?_) ?_; rotate_left 1; (· (conv => (lhs; whnf)))) | (apply runk0 rfl rfl (opok_bin rfl ?_ ?_ ?_) ?_; rotate_left 3; (· (conv => (lhs; whnf))); (· (conv => (lhs; whnf))); (· (intro w; go_simp; rfl))) | refine runk_end (by kernel_rfl) ?_))
    refine awp_false rfl ?_
    refine awp_reg_seq rfl fun c2 => ?_
    (repeat (first | (apply runk0 rfl rfl (opok_assign rfl ?_) ?_; rotate_left 1; (· (conv => (lhs; whnf)))) | (apply runk0 rfl rfl (opok_bin rfl ?_ ?_ ?_) ?_; rotate_left 3; (· (conv => (lhs; whnf))); (· (conv => (lhs; whnf))); (· (intro w; go_simp; rfl))) | refine runk_end (by kernel_rfl) ?_))
    refine awp_false rfl ?_
    refine awp_reg_seq rfl fun c9 => ?_
    (repeat (first | (apply runk0 rfl rfl (opok_assign rfl ?_) ?_; rotate_left 1; (· (conv => (lhs; whnf)))) | (apply runk0 rfl rfl (opok_bin rfl ?_ ?_ ?_) ?_; rotate_left 3; (· (conv => (lhs; whnf))); (· (conv => (lhs; whnf))); (· (intro w; go_simp; rfl))) | refine runk_end (by kernel_rfl) ?_))
    refine awp_true rfl ?_
    refine awp_reg_seq rfl fun k4 => ?_
    (repeat (first | (apply runk0 rfl rfl (opok_move rfl ?_) ?_; rotate_left 1; (· (conv => (lhs; whnf)))) | (apply runk_lit rfl rfl rfl ?_ ?_ ?_ ?_ ?_ ?_ ?_ ?_ ?_ ?_ ?_; rotate_left 4; (· (conv => (lhs; whnf; arg 1; whnf))); (· (unfold sizeIs; conv => (lhs; whnf; arg 1; whnf))); (· (conv => (lhs; whnf; arg 1; whnf))); (· rfl); (· rfl); (· rfl); (· rfl); (· (repeat (first | exact PartsAre.nil _ | (apply PartsAre.cons; (· (conv => (lhs; whnf))))))); (· rfl); (· rfl))))
    (apply runk_with rfl rfl rfl ?_ ?_ ?_ ?_ ?_ ?_ ?_ ?_ ?_ ?_ ?_; rotate_left 10; (· (conv => (lhs; whnf))); (· exact Tryz.func22); (· rfl); (· rfl); (· exact (next_spec zs (nextPs zs 1 p) 4 (by decide) (by decide) hz hp1)); (· (repeat (first | exact Rens.nil | (refine Rens.cons ?_ ?_; (· first | exact Ren.ptr _ _ _ _ _ List.mem_cons_self | (refine Ren.pureR ?_ rfl; (rfl))))))); (· rfl); (· rfl); (· ((simp; done))); (· ((simp; done))))
    (apply runk0 rfl rfl (opok_index_own rfl ?_ ?_ ?_ ?_ ?_ ?_ ?_ ?_) ?_; rotate_left 10; (· (conv => (lhs; whnf))); (· (conv => (lhs; whnf; arg 1; whnf; arg 2; whnf))); (· (conv => (lhs; whnf))); (· (conv => (lhs; whnf; arg 1; whnf))); (· (unfold sizeIs; conv => (lhs; whnf; arg 1; whnf))); (· omega); (· omega); (· rfl))
    (apply runk0 rfl rfl (opok_elem ((nextV zs (nextPs zs 1 p) 4).toNat) rfl ?_ ?_ ?_ ?_ ?_ ?_ ?_ ?_) ?_; rotate_left 7; (· (conv => (lhs; whnf))); (· (conv => (lhs; whnf; arg 1; whnf; arg 2; whnf))); (· rfl); (· rfl); (· rfl); (· rfl); (· exact ints_getD .u64 [0, 1, 18446744073709551615, 9223372036854775808] _ (by show _ < 4; omega)); (· rfl))
    (repeat (first | (apply runk0 rfl rfl (opok_move rfl ?_) ?_; rotate_left 1; (· (conv => (lhs; whnf)))) | (apply runk_lit rfl rfl rfl ?_ ?_ ?_ ?_ ?_ ?_ ?_ ?_ ?_ ?_ ?_; rotate_left 4; (· (conv => (lhs; whnf; arg 1; whnf))); (· (unfold sizeIs; conv => (lhs; whnf; arg 1; whnf))); (· (conv => (lhs; whnf; arg 1; whnf))); (· rfl); (· rfl); (· rfl); (· rfl); (· (repeat (first | exact PartsAre.nil _ | (apply PartsAre.cons; (· (conv => (lhs; whnf))))))); (· rfl); (· rfl))))
    (apply runk_with rfl rfl rfl ?_ ?_ ?_ ?_ ?_ ?_ ?_ ?_ ?_ ?_ ?_; rotate_left 10; (· (conv => (lhs; whnf))); (· exact Tryz.func22); (· rfl); (· rfl); (· exact (next_spec zs (nextPs zs 2 p) 4 (by decide) (by decide) hz hp2)); (· (repeat (first | exact Rens.nil | (refine Rens.cons ?_ ?_; (· first | exact Ren.ptr _ _ _ _ _ List.mem_cons_self | (refine Ren.pureR ?_ rfl; (rfl))))))); (· rfl); (· rfl); (· ((simp; done))); (· ((simp; done))))
    (apply runk0 rfl rfl (opok_index_own rfl ?_ ?_ ?_ ?_ ?_ ?_ ?_ ?_) ?_; rotate_left 10; (· (conv => (lhs; whnf))); (· (conv => (lhs; whnf; arg 1; whnf; arg 2; whnf))); (· (conv => (lhs; whnf))); (· (conv => (lhs; whnf; arg 1; whnf))); (· (unfold sizeIs; conv => (lhs; whnf; arg 1; whnf))); (· omega); (· omega); (· rfl))
    (apply runk0 rfl rfl (opok_elem ((nextV zs (nextPs zs 2 p) 4).toNat) rfl ?_ ?_ ?_ ?_ ?_ ?_ ?_ ?_) ?_; rotate_left 7; (· (conv => (lhs; whnf))); (· (conv => (lhs; whnf; arg 1; whnf; arg 2; whnf))); (· rfl); (· rfl); (· rfl); (· rfl); (· exact ints_getD .u64 [0, 1, 18446744073709551615, 9223372036854775808] _ (by show _ < 4; omega)); (· rfl))
    (repeat (first | (apply runk0 rfl rfl (opok_build rfl ?_ ?_ ?_ ?_ ?_) ?_; rotate_left 5; (· (conv => (lhs; whnf; arg 1; whnf))); (· (conv => (lhs; whnf; arg 1; repeat (whnf; arg 2)))); (· (conv => (lhs; whnf; arg 1; whnf))); (· (repeat (first | exact PartsOf.nil | (apply PartsOf.cons; (· (conv => (lhs; whnf))))))); (· (conv => (lhs; whnf; arg 1; repeat (whnf; arg 2))))) | (apply runk_store rfl rfl rfl ?_ ?_ ?_ ?_ ?_ ?_ ?_ ?_ ?_ ?_ ?_; rotate_left 9; (· (conv => (lhs; whnf))); (· (conv => (lhs; whnf))); (· (conv => (lhs; whnf; arg 1; whnf; arg 2; whnf))); (· rfl); (· (conv => (lhs; whnf))); (· rfl); (· (unfold sizeIs; conv => (lhs; whnf; arg 1; whnf))); (· rfl); (· rfl); (· (conv => (lhs; repeat (whnf; arg 2))))) | refine runk_end (by kernel_rfl) ?_))
    refine awp_ret ?_
    (apply ends_with ?_ ?_ ?_ ?_ ?_ ?_ ?_ ?_ (.inl rfl); rotate_left 3; (· (exact res_cell rfl rfl rfl rfl rfl)); (· rfl); (· rfl); (· (conv => (lhs; whnf; arg 1; whnf))); (· rfl); (· rfl); (· ((simp; done))); (· rfl))
set_option maxHeartbeats 4000000 in
set_option maxRecDepth 100000 in
theorem addr_4 (zs : List Int) (p : Nat) (hz : zs.length ≤ 9223372036854775807) (hp : p ≤ zs.length) (hc : nextV zs p 6 = 4) : ∃ (v : Bool) (hi lo : Int) (q : Nat), AOk v hi lo ∧ q ≤ zs.length ∧
    Spec Tryz.prog 11 [.ptr 0 0 0] [(0, some (0, deckO zs p))] (.agg [.val (.bool v), .val (.int .u64 hi), .val (.int .u64 lo)]) [(0, some (0, deckO zs q))] := by
  have hp1 := nextPs_le zs 1 p hp
  have hp2 := nextPs_le zs 2 p hp
  have hp3 := nextPs_le zs 3 p hp
  have hp4 := nextPs_le zs 4 p hp
  have hp5 := nextPs_le zs 5 p hp
  refine ⟨true, IntKind.u64.wrap (IntKind.u64.wrap (nextV zs (nextPs zs 1 p) 1073741824) * 2 ^ min (IntKind.u64.wrap (IntKind.i64.wrap (nextV zs (nextPs zs 2 p) 5 * 8))).toNat 64), IntKind.u64.wrap (IntKind.u64.wrap (nextV zs (nextPs zs 3 p) 1073741824) * 2 ^ min (IntKind.u64.wrap (IntKind.i64.wrap (nextV zs (nextPs zs 4 p) 5 * 8))).toNat 64), nextPs zs 5 p, ?_, hp5, ?_⟩
  · exact aok6 (wrapU _) (wrapU _)
  · refine spec_of_awp Tryz.func11 rfl (Nat.le_of_ble_eq_true rfl) fun ini => ?_
    simp only [Tryz.ntmps11]
    refine awp_reg_seq rfl fun k1 => ?_
    (repeat (first | (apply runk_alloc rfl rfl rfl ?_ ?_ ?_; rotate_left 2; (· (conv => (lhs; whnf; arg 1; whnf))); (· (conv => (lhs; whnf)))) | refine runk_end (by kernel_rfl) ?_))
    refine awp_seq ?_
    refine awp_reg_seq rfl fun k2 => ?_
    (repeat (first | (apply runk0 rfl rfl (opok_move rfl ?_) ?_; rotate_left 1; (· (conv => (lhs; whnf))))))
    (apply runk_with rfl rfl rfl ?_ ?_ ?_ ?_ ?_ ?_ ?_ ?_ ?_ ?_ ?_; rotate_left 10; (· (conv => (lhs; whnf))); (· exact Tryz.func22); (· rfl); (· rfl); (· exact (next_spec zs p 6 (by decide) (by decide) hz hp)); (· (repeat (first | exact Rens.nil | (refine Rens.cons ?_ ?_; (· first | exact Ren.ptr _ _ _ _ _ List.mem_cons_self | (refine Ren.pureR ?_ rfl; (rfl))))))); (· rfl); (· rfl); (· ((simp; done))); (· ((simp; done))))
    rw [hc]
    (repeat (first | refine runk_end (by kernel_rfl) ?_))
    refine awp_block ?_
    refine awp_reg_seq rfl fun c0 => ?_
    (repeat (first | (apply runk0 rfl rfl (opok_assign rfl ?_) ?_; rotate_left 1; (· (conv => (lhs; whnf)))) | (apply runk0 rfl rfl (opok_bin rfl ?_ ?_ ?_) ?_; rotate_left 3; (· (conv => (lhs; whnf))); (· (conv => (lhs; whnf))); (· (intro w; go_simp; rfl))) | refine runk_end (by kernel_rfl) ?_))
    refine awp_false rfl ?_
    refine awp_reg_seq rfl fun c1 => ?_
    (repeat (first | (apply runk0 rfl rfl (opok_assign rfl ?_) ?_; rotate_left 1; (· (conv => (lhs; whnf)))) | (apply runk0 rfl rfl (opok_bin rfl ?_ ?_ ?_) ?_; rotate_left 3; (· (conv => (lhs; whnf))); (· (conv => (lhs; whnf))); (· (intro w; go_simp; rfl))) | refine runk_end (by kernel_rfl) ?_))
    refine awp_false rfl ?_
    refine awp_reg_seq rfl fun c2 => ?_
    (repeat (first | (apply runk0 rfl rfl (opok_assign rfl ?_) ?_; rotate_left 1; (· (conv => (lhs; whnf)))) | (apply runk0 rfl rfl (opok_bin rfl ?_ ?_ ?_) ?_; rotate_left 3; (· (conv => (lhs; whnf))); (· (conv => (lhs; whnf))); (· (intro w; go_simp; rfl))) | refine runk_end (by kernel_rfl) ?_))
    refine awp_false rfl ?_
    refine awp_reg_seq rfl fun c3 => ?_
    (repeat (first | (apply runk0 rfl rfl (opok_assign rfl ?_) ?_; rotate_left 1; (· (conv => (lhs; whnf)))) | (apply runk0 rfl rfl (opok_bin rfl ?_ ?_ ?_) ?_; rotate_left 3; (· (conv => (lhs; whnf))); (· (conv => (lhs; whnf))); (· (intro w; go_simp; rfl))) | refine runk_end (by kernel_rfl) ?_))
    refine awp_false rfl ?_
    refine awp_reg_seq rfl fun c9 => ?_
    (repeat (first | (apply runk0 rfl rfl (opok_assign rfl ?_) ?_; rotate_left 1; (· (conv => (lhs; whnf)))) | (apply runk0 rfl rfl (opok_bin rfl ?_ ?_ ?_) ?_; rotate_left 3; (· (conv => (lhs; whnf))); (· (conv => (lhs; whnf))); (· (intro w; go_simp; rfl))) | refine runk_end (by kernel_rfl) ?_))
    refine awp_true rfl ?_
    refine awp_reg_seq rfl fun k4 => ?_
    (repeat (first | (apply runk0 rfl rfl (opok_move rfl ?_) ?_; rotate_left 1; (· (conv => (lhs; whnf))))))
    (apply runk_with rfl rfl rfl ?_ ?_ ?_ ?_ ?_ ?_ ?_ ?_ ?_ ?_ ?_; rotate_left 10; (· (conv => (lhs; whnf))); (· exact Tryz.func22); (· rfl); (· rfl); (· exact (next_spec zs (nextPs zs 1 p) 1073741824 (by decide) (by decide) hz hp1)); (· (repeat (first | exact Rens.nil | (refine Rens.cons ?_ ?_; (· first | exact Ren.ptr _ _ _ _ _ List.mem_cons_self | (refine Ren.pureR ?_ rfl; (rfl))))))); (· rfl); (· rfl); (· ((simp; done))); (· ((simp; done))))
    (repeat (first | (apply runk0 rfl rfl (opok_move rfl ?_) ?_; rotate_left 1; (· (conv => (lhs; whnf)))) | (apply runk0 rfl rfl (opok_conv rfl ?_ ?_) ?_; rotate_left 2; (· (conv => (lhs; whnf))); (· (intro w; go_simp; first | done | rfl)))))
    (apply runk_with rfl rfl rfl ?_ ?_ ?_ ?_ ?_ ?_ ?_ ?_ ?_ ?_ ?_; rotate_left 10; (· (conv => (lhs; whnf))); (· exact Tryz.func22); (· rfl); (· rfl); (· exact (next_spec zs (nextPs zs 2 p) 5 (by decide) (by decide) hz hp2)); (· (repeat (first | exact Rens.nil | (refine Rens.cons ?_ ?_; (· first | exact Ren.ptr _ _ _ _ _ List.mem_cons_self | (refine Ren.pureR ?_ rfl; (rfl))))))); (· rfl); (· rfl); (· ((simp; done))); (· ((simp; done))))
    (repeat (first | (apply runk0 rfl rfl (opok_move rfl ?_) ?_; rotate_left 1; (· (conv => (lhs; whnf)))) | (apply runk0 rfl rfl (opok_bin rfl ?_ ?_ ?_) ?_; rotate_left 3; (· (conv => (lhs; whnf))); (· (conv => (lhs; whnf))); (· (intro w; go_simp; rfl))) | (apply runk0 rfl rfl (opok_conv rfl ?_ ?_) ?_; rotate_left 2; (· (conv => (lhs; whnf))); (· (intro w; go_simp; rfl)))))
    (apply runk_with rfl rfl rfl ?_ ?_ ?_ ?_ ?_ ?_ ?_ ?_ ?_ ?_ ?_; rotate_left 10; (· (conv => (lhs; whnf))); (· exact Tryz.func22); (· rfl); (· rfl); (· exact (next_spec zs (nextPs zs 3 p) 1073741824 (by decide) (by decide) hz hp3)); (· (repeat (first | exact Rens.nil | (refine Rens.cons ?_ ?_; (· first | exact Ren.ptr _ _ _ _ _ List.mem_cons_self | (refine Ren.pureR ?_ rfl; (rfl))))))); (· rfl); (· rfl); (· ((simp; done))); (· ((simp; done))))
    (repeat (first | (apply runk0 rfl rfl (opok_move rfl ?_) ?_; rotate_left 1; (· (conv => (lhs; whnf)))) | (apply runk0 rfl rfl (opok_conv rfl ?_ ?_) ?_; rotate_left 2; (· (conv => (lhs; whnf))); (· (intro w; go_simp; first | done | rfl)))))
    (apply runk_with rfl rfl rfl ?_ ?_ ?_ ?_ ?_ ?_ ?_ ?_ ?_ ?_ ?_; rotate_left 10; (· (conv => (lhs; whnf))); (· exact Tryz.func22); (· rfl); (· rfl); (· exact (next_spec zs (nextPs zs 4 p) 5 (by decide) (by decide) hz hp4)); (· (repeat (first | exact Rens.nil | (refine Rens.cons ?_ ?_; (· first | exact Ren.ptr _ _ _ _ _ List.mem_cons_self | (refine Ren.pureR ?_ rfl; (rfl))))))); (· rfl); (· rfl); (· ((simp; done))); (· ((simp; done))))
    (repeat (first | (apply runk0 rfl rfl (opok_bin rfl ?_ ?_ ?_) ?_; rotate_left 3; (· (conv => (lhs; whnf))); (· (conv => (lhs; whnf))); (· (intro w; go_simp; rfl))) | (apply runk0 rfl rfl (opok_conv rfl ?_ ?_) ?_; rotate_left 2; (· (conv => (lhs; whnf))); (· (intro w; go_simp; rfl))) | (apply runk0 rfl rfl (opok_build rfl ?_ ?_ ?_ ?_ ?_) ?_; rotate_left 5; (· (conv => (lhs; whnf; arg 1; whnf))); (· (conv => (lhs; whnf; arg 1; repeat (whnf; arg 2)))); (· (conv => (lhs; whnf; arg 1; whnf))); (· (repeat (first | exact PartsOf.nil | (apply PartsOf.cons; (· (conv => (lhs; whnf))))))); (· (conv => (lhs; whnf; arg 1; repeat (whnf; arg 2))))) | (apply runk_store rfl rfl rfl ?_ ?_ ?_ ?_ ?_ ?_ ?_ ?_ ?_ ?_ ?_; rotate_left 9; (· (conv => (lhs; whnf))); (· (conv => (lhs; whnf))); (· (conv => (lhs; whnf; arg 1; whnf; arg 2; whnf))); (· rfl); (· (conv => (lhs; whnf))); (· rfl); (· (unfold sizeIs; conv => (lhs; whnf; arg 1; whnf))); (· rfl); (· rfl); (· (conv => (lhs; repeat (whnf; arg 2))))) | refine runk_end (by kernel_rfl) ?_))
    refine awp_ret ?_
    (apply ends_with ?_ ?_ ?_ ?_ ?_ ?_ ?_ ?_ (.inl rfl); rotate_left 3; (· (exact res_cell rfl rfl rfl rfl rfl)); (· rfl); (· rfl); (· (conv => (lhs; whnf; arg 1; whnf))); (· rfl); (· rfl); (· ((simp; done))); (· rfl))
end Go.Proofs.YtboddbheljenhaaGreatDoor
