/-
  What the deck of exchangepointmake makes: addresses, by states.
-/
import Derived.Test.YtboddbheljenhaaGreatDoorG10
import Derived.Laws.BitsAllLaws
import Derived.WalkKit
namespace Go.Proofs.YtboddbheljenhaaGreatDoor
open Go.RowKit
set_option maxHeartbeats 4000000 in
set_option maxRecDepth 100000 in
theorem addr_3 (zs : List Int) (p : Nat) (hz : zs.length ≤ 9223372036854775807) (hp : p ≤ zs.length) (hc : nextV zs p 6 = 3) : ∃ (v : Bool) (hi lo : Int) (q : Nat), AOk v hi lo ∧ q ≤ zs.length ∧
    Spec Tryz.prog 11 [.ptr 0 0 0] [(0, some (0, deckO zs p))] (.agg [.val (.bool v), .val (.int .u64 hi), .val (.int .u64 lo)]) [(0, some (0, deckO zs q))] := by
  have hp1 := nextPs_le zs 1 p hp
  have hp2 := nextPs_le zs 2 p hp
  have hp3 := nextPs_le zs 3 p hp
  have s30 := nextV_range zs (nextPs zs 1 p) 4 (by decide)
  have s31 := nextV_range zs (nextPs zs 2 p) 4 (by decide)
  refine ⟨true, [0, 1, 18446744073709551615, 9223372036854775808].getD (nextV zs (nextPs zs 1 p) 4).toNat 0, [0, 1, 18446744073709551615, 9223372036854775808].getD (nextV zs (nextPs zs 2 p) 4).toNat 0, nextPs zs 3 p, ?_, hp3, ?_⟩
  · exact aok6 (pick_ok (by decide) (by simp only [List.length_cons, List.length_nil]; omega)) (pick_ok (by decide) (by simp only [List.length_cons, List.length_nil]; omega))
  · refine spec_of_awp Tryz.func11 rfl (Nat.le_of_ble_eq_true rfl) fun ini => ?_
    simp only [Tryz.ntmps11]
    refine awp_reg_seq rfl fun k1 => ?_
    (repeat (first | (apply runk_alloc rfl rfl rfl ?_ ?_ ?_; rotate_left 2; (· (conv => (lhs; whnf; arg 1; whnf))); (· (conv => (lhs; whnf)))) | refine runk_end (by kernel_rfl) ?_))
    refine awp_seq ?_
    refine awp_reg_seq rfl fun k2 => ?_
    (repeat (first | (apply runk0 rfl rfl (opok_move rfl ?_) ?_; rotate_left 1; (· (conv => (lhs; whnf))))))
    (apply runk_with rfl rfl rfl ?_ ?_ ?_ ?_ ?_ ?_ ?_ ?_ ?_ ?_ ?_; rotate_left 10; (· (conv => (lhs; whnf))); (· exact Tryz.func22); (· rfl); (· rfl); (· exact (next_spec zs p 6 (by decide) (by decide) hz hp)); (· (repeat (first | exact Rens.nil | (refine Rens.cons ?_ ?_; (· first | exact Ren.ptr _ _ _ _ _ List.mem_cons_self | (refine Ren.pureR ?_ rfl; (rfl))))))); (· rfl); (· rfl); (· ((simp; done))); (· ((simp; done))))
    rw [hc]
    (repeat (first | refine runk_end (by kernel_rfl) ?_))
    refine awp_block ?_
    refine awp_reg_seq rfl fun c0 => ?_
    (repeat (first | (apply runk0 rfl rfl (opok_assign rfl ?_) ?_; rotate_left 1; (· (conv => (lhs; whnf)))) | (apply runk0 rfl rfl (opok_bin rfl ?_ ?_ ?_) ?_; rotate_left 3; (· (conv => (lhs; whnf))); (· (conv => (lhs; whnf))); (· (intro w; go_simp; rfl))) | refine runk_end (by kernel_rfl) ?_))
    refine awp_false rfl ?_
    refine awp_reg_seq rfl fun c1 => ?_
    (repeat (first | (apply runk0 rfl rfl (opok_assign rfl ?_) ?_; rotate_left 1; (· (conv => (lhs; whnf)))) | (apply runk0 rfl rfl (opok_bin rfl ?_ ?_ ?_) ?_; rotate_left 3; (· (conv => (lhs; whnf))); (· (conv => (lhs; whnf))); (· (intro w; go_simp; rfl))) | refine runk_end (by kernel_rfl) ?_))
    refine awp_false rfl ?_
    refine awp_reg_seq rfl fun c2 => ?_
    (repeat (first | (apply runk0 rfl rfl (opok_assign rfl ?_) ?_; rotate_left 1; (· (conv => (lhs; whnf)))) | (apply runk0 rfl rfl (opok_bin rfl ?_ ?_ ?_) ?_; rotate_left 3; (· (conv => (lhs; whnf))); (· (conv => (lhs; whnf))); (· (intro w; go_simp; rfl))) | refine runk_end (by kernel_rfl) ?_))
    refine awp_false rfl ?_
    refine awp_reg_seq rfl fun c9 => ?_
    (repeat (first | (apply runk0 rfl rfl (opok_assign rfl ?_) ?_; rotate_left 1; (· (conv => (lhs; whnf)))) | (apply runk0 rfl rfl (opok_bin rfl ?_ ?_ ?_) ?_; rotate_left 3; (· (conv => (lhs; whnf))); (· (conv => (lhs; whnf))); (· (intro w; go_simp; rfl))) | refine runk_end (by kernel_rfl) ?_))
    refine awp_true rfl ?_
    refine awp_reg_seq rfl fun k4 => ?_
    (repeat (first | (apply runk0 rfl rfl (opok_move rfl ?_) ?_; rotate_left 1; (· (conv => (lhs; whnf)))) | (apply runk_lit rfl rfl rfl ?_ ?_ ?_ ?_ ?_ ?_ ?_ ?_ ?_ ?_ ?_; rotate_left 4; (· (conv => (lhs; whnf; arg 1; whnf))); (· (unfold sizeIs; conv => (lhs; whnf; arg 1; whnf))); (· (conv => (lhs; whnf; arg 1; whnf))); (· rfl); (· rfl); (· rfl); (· rfl); (· (repeat (first | exact PartsAre.nil _ | (apply PartsAre.cons; (· (conv => (lhs; whnf))))))); (· rfl); (· rfl))))
    (apply runk_with rfl rfl rfl ?_ ?_ ?_ ?_ ?_ ?_ ?_ ?_ ?_ ?_ ?_; rotate_left 10; (· (conv => (lhs; whnf))); (· exact Tryz.func22); (· rfl); (· rfl); (· exact (next_spec zs (nextPs zs 1 p) 4 (by decide) (by decide) hz hp1)); (· (repeat (first | exact Rens.nil | (refine Rens.cons ?_ ?_; (· first | exact Ren.ptr _ _ _ _ _ List.mem_cons_self | (refine Ren.pureR ?_ rfl; (rfl))))))); (· rfl); (· rfl); (· ((simp; done))); (· ((simp; done))))
    (apply runk0 rfl rfl (opok_index_own rfl ?_ ?_ ?_ ?_ ?_ ?_ ?_ ?_) ?_; rotate_left 10; (· (conv => (lhs; whnf))); (· (conv => (lhs; whnf; arg 1; whnf; arg 2; whnf))); (· (conv => (lhs; whnf))); (· (conv => (lhs; whnf; arg 1; whnf))); (· (unfold sizeIs; conv => (lhs; whnf; arg 1; whnf))); (· omega); (· omega); (· rfl))
    (apply runk0 rfl rfl (opok_elem ((nextV zs (nextPs zs 1 p) 4).toNat) rfl ?_ ?_ ?_ ?_ ?_ ?_ ?_ ?_) ?_; rotate_left 7; (· (conv => (lhs; whnf))); (· (conv => (lhs; whnf; arg 1; whnf; arg 2; whnf))); (· rfl); (· rfl); (· rfl); (· rfl); (· exact ints_getD .u64 [0, 1, 18446744073709551615, 9223372036854775808] _ (by show _ < 4; omega)); (· rfl))
    (repeat (first | (apply runk0 rfl rfl (opok_move rfl ?_) ?_; rotate_left 1; (· (conv => (lhs; whnf)))) | (apply runk_lit rfl rfl rfl ?_ ?_ ?_ ?_ ?_ ?_ ?_ ?_ ?_ ?_ ?_; rotate_left 4; (· (conv => (lhs; whnf; arg 1; whnf))); (· (unfold sizeIs; conv => (lhs; whnf; arg 1; whnf))); (· (conv => (lhs; whnf; arg 1; whnf))); (· rfl); (· rfl); (· rfl); (· rfl); (· (repeat (first | exact PartsAre.nil _ | (apply PartsAre.cons; (· (conv => (lhs; whnf))))))); (· rfl); (· rfl))))
    (apply runk_with rfl rfl rfl ?_ ?_ ?_ ?_ ?_ ?_ ?_ ?_ ?_ ?_ ?_; rotate_left 10; (· (conv => (lhs; whnf))); (· exact Tryz.func22); (· rfl); (· rfl); (· exact (next_spec zs (nextPs zs 2 p) 4 (by decide) (by decide) hz hp2)); (· (repeat (first | exact Rens.nil | (refine Rens.cons ?_ ?_; (· first | exact Ren.ptr _ _ _ _ _ List.mem_cons_self | (refine Ren.pureR ?_ rfl; (rfl))))))); (· rfl); (· rfl); (· ((simp; done))); (· ((simp; done))))
    (apply runk0 rfl rfl (opok_index_own rfl ?_ ?_ ?_ ?_ ?_ ?_ ?_ ?_) ?_; rotate_left 10; (· (conv => (lhs; whnf))); (· (conv => (lhs; whnf; arg 1; whnf; arg 2; whnf))); (· (conv => (lhs; whnf))); (· (conv => (lhs; whnf; arg 1; whnf))); (· (unfold sizeIs; conv => (lhs; whnf; arg 1; whnf))); (· omega); (· omega); (· rfl))
    (apply runk0 rfl rfl (opok_elem ((nextV zs (nextPs zs 2 p) 4).toNat) rfl ?_ ?_ ?_ ?_ ?_ ?_ ?_ ?_) ?_; rotate_left 7; (· (conv => (lhs; whnf))); (· (conv => (lhs; whnf; arg 1; whnf; arg 2; whnf))); (· rfl); (· rfl); (· rfl); (· rfl); (· exact ints_getD .u64 [0, 1, 18446744073709551615, 9223372036854775808] _ (by show _ < 4; omega)); (· rfl))
    (repeat (first | (apply runk0 rfl rfl (opok_build rfl ?_ ?_ ?_ ?_ ?_) ?_; rotate_left 5; (· (conv => (lhs; whnf; arg 1; whnf))); (· (conv => (lhs; whnf; arg 1; repeat (whnf; arg 2)))); (· (conv => (lhs; whnf; arg 1; whnf))); (· (repeat (first | exact PartsOf.nil | (apply PartsOf.cons; (· (conv => (lhs; whnf))))))); (· (conv => (lhs; whnf; arg 1; repeat (whnf; arg 2))))) | (apply runk_store rfl rfl rfl ?_ ?_ ?_ ?_ ?_ ?_ ?_ ?_ ?_ ?_ ?_; rotate_left 9; (· (conv => (lhs; whnf))); (· (conv => (lhs; whnf))); (· (conv => (lhs; whnf; arg 1; whnf; arg 2; whnf))); (· rfl); (· (conv => (lhs; whnf))); (· rfl); (· (unfold sizeIs; conv => (lhs; whnf; arg 1; whnf))); (· rfl); (· rfl); (· (conv => (lhs; repeat (whnf; arg 2))))) | refine runk_end (by kernel_rfl) ?_))
    refine awp_ret ?_
    (apply ends_with ?_ ?_ ?_ ?_ ?_ ?_ ?_ ?_ (.inl rfl); rotate_left 3; (· (exact res_cell rfl rfl rfl rfl rfl)); (· rfl); (· rfl); (· (conv => (lhs; whnf; arg 1; whnf))); (· rfl); (· rfl); (· ((simp; done))); (· rfl))
set_option maxHeartbeats 4000000 in
set_option maxRecDepth 100000 in
theorem addr_4 (zs : List Int) (p : Nat) (hz : zs.length ≤ 9223372036854775807) (hp : p ≤ zs.length) (hc : nextV zs p 6 = 4) : ∃ (v : Bool) (hi lo : Int) (q : Nat), AOk v hi lo ∧ q ≤ zs.length ∧
    Spec Tryz.prog 11 [.ptr 0 0 0] [(0, some (0, deckO zs p))] (.agg [.val (.bool v), .val (.int .u64 hi), .val (.int .u64 lo)]) [(0, some (0, deckO zs q))] := by
  have hp1 := nextPs_le zs 1 p hp
  have hp2 := nextPs_le zs 2 p hp
  have hp3 := nextPs_le zs 3 p hp
  have hp4 := nextPs_le zs 4 p hp
  have hp5 := nextPs_le zs 5 p hp
  refine ⟨true, IntKind.u64.wrap (IntKind.u64.wrap (nextV zs (nextPs zs 1 p) 1073741824) * 2 ^ min (IntKind.u64.wrap (IntKind.i64.wrap (nextV zs (nextPs zs 2 p) 5 * 8))).toNat 64), IntKind.u64.wrap (IntKind.u64.wrap (nextV zs (nextPs zs 3 p) 1073741824) * 2 ^ min (IntKind.u64.wrap (IntKind.i64.wrap (nextV zs (nextPs zs 4 p) 5 * 8))).toNat 64), nextPs zs 5 p, ?_, hp5, ?_⟩
  · exact aok6 (wrapU _) (wrapU _)
  · refine spec_of_awp Tryz.func11 rfl (Nat.le_of_ble_eq_true rfl) fun ini => ?_
    simp only [Tryz.ntmps11]
    refine awp_reg_seq rfl fun k1 => ?_
    (repeat (first | (apply runk_alloc rfl rfl rfl ?_ ?_ ?_; rotate_left 2; (· (conv => (lhs; whnf; arg 1; whnf))); (· (conv => (lhs; whnf)))) | refine runk_end (by kernel_rfl) ?_))
    refine awp_seq ?_
    refine awp_reg_seq rfl fun k2 => ?_
    (repeat (first | (apply runk0 rfl rfl (opok_move rfl ?_) ?_; rotate_left 1; (· (conv => (lhs; whnf))))))
    (apply runk_with rfl rfl rfl ?_ ?_ ?_ ?_ ?_ ?_ ?_ ?_ ?_ ?_ ?_; rotate_left 10; (· (conv => (lhs; whnf))); (· exact Tryz.func22); (· rfl); (· rfl); (· exact (next_spec zs p 6 (by decide) (by decide) hz hp)); (· (repeat (first | exact Rens.nil | (refine Rens.cons ?_ ?_; (· first | exact Ren.ptr _ _ _ _ _ List.mem_cons_self | (refine Ren.pureR ?_ rfl; (rfl))))))); (· rfl); (· rfl); (· ((simp; done))); (· ((simp; done))))
    rw [hc]
    (repeat (first | refine runk_end (by kernel_rfl) ?_))
    refine awp_block ?_
    refine awp_reg_seq rfl fun c0 => ?_
    (repeat (first | (apply runk0 rfl rfl (opok_assign rfl ?_) ?_; rotate_left 1; (· (conv => (lhs; whnf)))) | (apply runk0 rfl rfl (opok_bin rfl ?_ ?_ ?_) ?_; rotate_left 3; (· (conv => (lhs; whnf))); (· (conv => (lhs; whnf))); (· (intro w; go_simp; rfl))) | refine runk_end (by kernel_rfl) ?_))
    refine awp_false rfl ?_
    refine awp_reg_seq rfl fun c1 => ?_
    (repeat (first | (apply runk0 rfl rfl (opok_assign rfl ?_) ?_; rotate_left 1; (· (conv => (lhs; whnf)))) | (apply runk0 rfl rfl (opok_bin rfl ?_ ?_ ?_) ?_; rotate_left 3; (· (conv => (lhs; whnf))); (· (conv => (lhs; whnf))); (· (intro w; go_simp; rfl))) | refine runk_end (by kernel_rfl) ?_))
    refine awp_false rfl ?_
    refine awp_reg_seq rfl fun c2 => ?_
    (repeat (first | (apply runk0 rfl rfl (opok_assign rfl ?_) ?_; rotate_left 1; (· (conv => (lhs; whnf)))) | (apply runk0 rfl rfl (opok_bin rfl ?_ ?_ ?_) ?_; rotate_left 3; (· (conv => (lhs; whnf))); (· (conv => (lhs; whnf))); (· (intro w; go_simp; rfl))) | refine runk_end (by kernel_rfl) ?_))
    refine awp_false rfl ?_
    refine awp_reg_seq rfl fun c3 => ?_
    (repeat (first | (apply runk0 rfl rfl (opok_assign rfl ?_) ?_; rotate_left 1; (· (conv => (lhs; whnf)))) | (apply runk0 rfl rfl (opok_bin rfl ?_ ?_ ?_) ?_; rotate_left 3; (· (conv => (lhs; whnf))); (· (conv => (lhs; whnf))); (· (intro w; go_simp; rfl))) | refine runk_end (by kernel_rfl) ?_))
    refine awp_false rfl ?_
    refine awp_reg_seq rfl fun c9 => ?_
    (repeat (first | (apply runk0 rfl rfl (opok_assign rfl ?_) ?_; rotate_left 1; (· (conv => (lhs; whnf)))) | (apply runk0 rfl rfl (opok_bin rfl ?_ ?_ ?_) ?_; rotate_left 3; (· (conv => (lhs; whnf))); (· (conv => (lhs; whnf))); (· (intro w; go_simp; rfl))) | refine runk_end (by kernel_rfl) ?_))
    refine awp_true rfl ?_
    refine awp_reg_seq rfl fun k4 => ?_
    (repeat (first | (apply runk0 rfl rfl (opok_move rfl ?_) ?_; rotate_left 1; (· (conv => (lhs; whnf))))))
    (apply runk_with rfl rfl rfl ?_ ?_ ?_ ?_ ?_ ?_ ?_ ?_ ?_ ?_ ?_; rotate_left 10; (· (conv => (lhs; whnf))); (· exact Tryz.func22); (· rfl); (· rfl); (· exact (next_spec zs (nextPs zs 1 p) 1073741824 (by decide) (by decide) hz hp1)); (· (repeat (first | exact Rens.nil | (refine Rens.cons ?_ ?_; (· first | exact Ren.ptr _ _ _ _ _ List.mem_cons_self | (refine Ren.pureR ?_ rfl; (rfl))))))); (· rfl); (· rfl); (· ((simp; done))); (· ((simp; done))))
    (repeat (first | (apply runk0 rfl rfl (opok_move rfl ?_) ?_; rotate_left 1; (· (conv => (lhs; whnf)))) | (apply runk0 rfl rfl (opok_conv rfl ?_ ?_) ?_; rotate_left 2; (· (conv => (lhs; whnf))); (· (intro w; go_simp; first | done | rfl)))))
    (apply runk_with rfl rfl rfl ?_ ?_ ?_ ?_ ?_ ?_ ?_ ?_ ?_ ?_ ?_; rotate_left 10; (· (conv => (lhs; whnf))); (· exact Tryz.func22); (· rfl); (· rfl); (· exact (next_spec zs (nextPs zs 2 p) 5 (by decide) (by decide) hz hp2)); (· (repeat (first | exact Rens.nil | (refine Rens.cons ?_ ?_; (· first | exact Ren.ptr _ _ _ _ _ List.mem_cons_self | (refine Ren.pureR ?_ rfl; (rfl))))))); (· rfl); (· rfl); (· ((simp; done))); (· ((simp; done))))
    (repeat (first | (apply runk0 rfl rfl (opok_move rfl ?_) ?_; rotate_left 1; (· (conv => (lhs; whnf)))) | (apply runk0 rfl rfl (opok_bin rfl ?_ ?_ ?_) ?_; rotate_left 3; (· (conv => (lhs; whnf))); (· (conv => (lhs; whnf))); (· (intro w; go_simp; rfl))) | (apply runk0 rfl rfl (opok_conv rfl ?_ ?_) ?_; rotate_left 2; (· (conv => (lhs; whnf))); (· (intro w; go_simp; rfl)))))
    (apply runk_with rfl rfl rfl ?_ ?_ ?_ ?_ ?_ ?_ ?_ ?_ ?_ ?_ ?_; rotate_left 10; (· (conv => (lhs; whnf))); (· exact Tryz.func22); (· rfl); (· rfl); (· exact (next_spec zs (nextPs zs 3 p) 1073741824 (by decide) (by decide) hz hp3)); (· (repeat (first | exact Rens.nil | (refine Rens.cons ?_ ?_; (· first | exact Ren.ptr _ _ _ _ _ List.mem_cons_self | (refine Ren.pureR ?_ rfl; (rfl))))))); (· rfl); (· rfl); (· ((simp; done))); (· ((simp; done))))
    (repeat (first | (apply runk0 rfl rfl (opok_move rfl ?_) ?_; rotate_left 1; (· (conv => (lhs; whnf)))) | (apply runk0 rfl rfl (opok_conv rfl ?_ ?_) ?_; rotate_left 2; (· (conv => (lhs; whnf))); (· (intro w; go_simp; first | done | rfl)))))
    (apply runk_with rfl rfl rfl ?_ ?_ ?_ ?_ ?_ ?_ ?_ ?_ ?_ ?_ ?_; rotate_left 10; (· (conv => (lhs; whnf))); (· exact Tryz.func22); (· rfl); (· rfl); (· exact (next_spec zs (nextPs zs 4 p) 5 (by decide) (by decide) hz hp4)); (· (repeat (first | exact Rens.nil | (refine Rens.cons ?_ ?_; (· first | exact Ren.ptr _ _ _ _ _ List.mem_cons_self | (refine Ren.pureR ?_ rfl; (rfl))))))); (· rfl); (· rfl); (· ((simp; done))); (· ((simp; done))))
    (repeat (first | (apply runk0 rfl rfl (opok_bin rfl ?_ ?_ ?_) ?_; rotate_left 3; (· (conv => (lhs; whnf))); (· (conv => (lhs; whnf))); (· (intro w; go_simp; rfl))) | (apply runk0 rfl rfl (opok_conv rfl ?_ ?_) ?_; rotate_left 2; (· (conv => (lhs; whnf))); (· (intro w; go_simp; rfl))) | (apply runk0 rfl rfl (opok_build rfl ?_ ?_ ?_ ?_ ?_) ?_; rotate_left 5; (· (conv => (lhs; whnf; arg 1; whnf))); (· (conv => (lhs; whnf; arg 1; repeat (whnf; arg 2)))); (· (conv => (lhs; whnf; arg 1; whnf))); (· (repeat (first | exact PartsOf.nil | (apply PartsOf.cons; (· (conv => (lhs; whnf))))))); (· (conv => (lhs; whnf; arg 1; repeat (whnf; arg 2))))) | (apply runk_store rfl rfl rfl ?_ ?_ ?_ ?_ ?_ ?_ ?_ ?_ ?_ ?_ ?_; rotate_left 9; (· (conv => (lhs; whnf))); (· (conv => (lhs; whnf))); (· (conv => (lhs; whnf; arg 1; whnf; arg 2; whnf))); (· rfl); (· (conv => (lhs; whnf))); (· rfl); (· (unfold sizeIs; conv => (lhs; whnf; arg 1; whnf))); (· rfl); (· rfl); (· (conv => (lhs; repeat (whnf; arg 2))))) | refine runk_end (by kernel_rfl) ?_))
    refine awp_ret ?_
    (apply ends_with ?_ ?_ ?_ ?_ ?_ ?_ ?_ ?_ (.inl rfl); rotate_left 3; (· (exact res_cell rfl rfl rfl rfl rfl)); (· rfl); (· rfl); (· (conv => (lhs; whnf; arg 1; whnf))); (· rfl); (· rfl); (· ((simp; done))); (· rfl))
end Go.Proofs.YtboddbheljenhaaGreatDoor
namespace Go.Proofs.YtboddbheljenhaaGreatDoor
open Go.RowKit
set_option maxHeartbeats 4000000 in
set_option maxRecDepth 100000 in
theorem addr_5 (zs : List Int) (p : Nat) (hz : zs.length ≤ 9223372036854775807) (hp : p ≤ zs.length) (hc : nextV zs p 6 = 5) : ∃ (v : Bool) (hi lo : Int) (q : Nat), AOk v hi lo ∧ q ≤ zs.length ∧
    Spec Tryz.prog 11 [.ptr 0 0 0] [(0, some (0, deckO zs p))] (.agg [.val (.bool v), .val (.int .u64 hi), .val (.int .u64 lo)]) [(0, some (0, deckO zs q))] := by
  have hp1 := nextPs_le zs 1 p hp
  have hp2 := nextPs_le zs 2 p hp
  refine ⟨false, 0, IntKind.u64.wrap (nextV zs (nextPs zs 1 p) 1073741824), nextPs zs 2 p, ?_, hp2, ?_⟩
  · have := nextV_range zs (nextPs zs 1 p) 1073741824 (by decide)
    exact aok4 (by simp only [IntKind.wrap_u64, IntKind.wrap_i64]; omega) (by simp only [IntKind.wrap_u64, IntKind.wrap_i64]; omega)
  · refine spec_of_awp Tryz.func11 rfl (Nat.le_of_ble_eq_true rfl) fun ini => ?_
    simp only [Tryz.ntmps11]
    refine awp_reg_seq rfl fun k1 => ?_
    (repeat (first | (apply runk_alloc rfl rfl rfl ?_ ?_ ?_; rotate_left 2; (· (conv => (lhs; whnf; arg 1; whnf))); (· (conv => (lhs; whnf)))) | refine runk_end (by kernel_rfl) ?_))
    refine awp_seq ?_
    refine awp_reg_seq rfl fun k2 => ?_
    (repeat (first | (apply runk0 rfl rfl (opok_move rfl ?_) ?_; rotate_left 1; (· (conv => (lhs; whnf))))))
    (apply runk_with rfl rfl rfl ?_ ?_ ?_ ?_ ?_ ?_ ?_ ?_ ?_ ?_ ?_; rotate_left 10; (· (conv => (lhs; whnf))); (· exact Tryz.func22); (· rfl); (· rfl); (· exact (next_spec zs p 6 (by decide) (by decide) hz hp)); (· (repeat (first | exact Rens.nil | (refine Rens.cons ?_ ?_; (· first | exact Ren.ptr _ _ _ _ _ List.mem_cons_self | (refine Ren.pureR ?_ rfl; (rfl))))))); (· rfl); (· rfl); (· ((simp; done))); (· ((simp; done))))
    rw [hc]
    (repeat (first | refine runk_end (by kernel_rfl) ?_))
    refine awp_block ?_
    refine awp_reg_seq rfl fun c0 => ?_
    (repeat (first | (apply runk0 rfl rfl (opok_assign rfl ?_) ?_; rotate_left 1; (· (conv => (lhs; whnf)))) | (apply runk0 rfl rfl (opok_bin rfl ?_ ?_ ?_) ?_; rotate_left 3; (· (conv => (lhs; whnf))); (· (conv => (lhs; whnf))); (· (intro w; go_simp; rfl))) | refine runk_end (by kernel_rfl) ?_))
    refine awp_false rfl ?_
    refine awp_reg_seq rfl fun c1 => ?_
    (repeat (first | (apply runk0 rfl rfl (opok_assign rfl ?_) ?_; rotate_left 1; (· (conv => (lhs; whnf)))) | (apply runk0 rfl rfl (opok_bin rfl ?_ ?_ ?_) ?_; rotate_left 3; (· (conv => (lhs; whnf))); (· (conv => (lhs; whnf))); (· (intro w; go_simp; rfl))) | refine runk_end (by kernel_rfl) ?_))
    refine awp_false rfl ?_
    refine awp_reg_seq rfl fun c2 => ?_
    (repeat (first | (apply runk0 rfl rfl (opok_assign rfl ?_) ?_; rotate_left 1; (· (conv => (lhs; whnf)))) | (apply runk0 rfl rfl (opok_bin rfl ?_ ?_ ?_) ?_; rotate_left 3; (· (conv => (lhs; whnf))); (· (conv => (lhs; whnf))); (· (intro w; go_simp; rfl))) | refine runk_end (by kernel_rfl) ?_))
    refine awp_false rfl ?_
    refine awp_reg_seq rfl fun c3 => ?_
    (repeat (first | (apply runk0 rfl rfl (opok_assign rfl ?_) ?_; rotate_left 1; (· (conv => (lhs; whnf)))) | (apply runk0 rfl rfl (opok_bin rfl ?_ ?_ ?_) ?_; rotate_left 3; (· (conv => (lhs; whnf))); (· (conv => (lhs; whnf))); (· (intro w; go_simp; rfl))) | refine runk_end (by kernel_rfl) ?_))
    refine awp_false rfl ?_
    refine awp_reg_seq rfl fun c4 => ?_
    (repeat (first | (apply runk0 rfl rfl (opok_assign rfl ?_) ?_; rotate_left 1; (· (conv => (lhs; whnf)))) | (apply runk0 rfl rfl (opok_bin rfl ?_ ?_ ?_) ?_; rotate_left 3; (· (conv => (lhs; whnf))); (· (conv => (lhs; whnf))); (· (intro w; go_simp; rfl))) | refine runk_end (by kernel_rfl) ?_))
    refine awp_false rfl ?_
    refine awp_skip (?_ : Awp _ _ _ _ _ _)
    refine awp_reg_seq rfl fun k4 => ?_
    (repeat (first | (apply runk0 rfl rfl (opok_move rfl ?_) ?_; rotate_left 1; (· (conv => (lhs; whnf))))))
    (apply runk_with rfl rfl rfl ?_ ?_ ?_ ?_ ?_ ?_ ?_ ?_ ?_ ?_ ?_; rotate_left 10; (· (conv => (lhs; whnf))); (· exact Tryz.func22); (· rfl); (· rfl); (· exact (next_spec zs (nextPs zs 1 p) 1073741824 (by decide) (by decide) hz hp1)); (· (repeat (first | exact Rens.nil | (refine Rens.cons ?_ ?_; (· first | exact Ren.ptr _ _ _ _ _ List.mem_cons_self | (refine Ren.pureR ?_ rfl; (rfl))))))); (· rfl); (· rfl); (· ((simp; done))); (· ((simp; done))))
    (repeat (first | (apply runk0 rfl rfl (opok_conv rfl ?_ ?_) ?_; rotate_left 2; (· (conv => (lhs; whnf))); (· (intro w; go_simp; rfl))) | (apply runk0 rfl rfl (opok_build rfl ?_ ?_ ?_ ?_ ?_) ?_; rotate_left 5; (· (conv => (lhs; whnf; arg 1; whnf))); (· (conv => (lhs; whnf; arg 1; repeat (whnf; arg 2)))); (· (conv => (lhs; whnf; arg 1; whnf))); (· (repeat (first | exact PartsOf.nil | (apply PartsOf.cons; (· (conv => (lhs; whnf))))))); (· (conv => (lhs; whnf; arg 1; repeat (whnf; arg 2))))) | (apply runk_store rfl rfl rfl ?_ ?_ ?_ ?_ ?_ ?_ ?_ ?_ ?_ ?_ ?_; rotate_left 9; (· (conv => (lhs; whnf))); (· (conv => (lhs; whnf))); (· (conv => (lhs; whnf; arg 1; whnf; arg 2; whnf))); (· rfl); (· (conv => (lhs; whnf))); (· rfl); (· (unfold sizeIs; conv => (lhs; whnf; arg 1; whnf))); (· rfl); (· rfl); (· (conv => (lhs; repeat (whnf; arg 2))))) | refine runk_end (by kernel_rfl) ?_))
    refine awp_ret ?_
    (apply ends_with ?_ ?_ ?_ ?_ ?_ ?_ ?_ ?_ (.inl rfl); rotate_left 3; (· (exact res_cell rfl rfl rfl rfl rfl)); (· rfl); (· rfl); (· (conv => (lhs; whnf; arg 1; whnf))); (· rfl); (· rfl); (· ((simp; done))); (· rfl))
theorem addr_ex (zs : List Int) (p : Nat) (hz : zs.length ≤ 9223372036854775807) (hp : p ≤ zs.length) : ∃ (v : Bool) (hi lo : Int) (q : Nat), AOk v hi lo ∧ q ≤ zs.length ∧
    Spec Tryz.prog 11 [.ptr 0 0 0] [(0, some (0, deckO zs p))] (.agg [.val (.bool v), .val (.int .u64 hi), .val (.int .u64 lo)]) [(0, some (0, deckO zs q))] := by
  obtain ⟨r0, r1⟩ := nextV_range zs p 6 (by decide)
  have hc : nextV zs p 6 = 0 ∨ nextV zs p 6 = 1 ∨ nextV zs p 6 = 2 ∨ nextV zs p 6 = 3 ∨ nextV zs p 6 = 4 ∨ nextV zs p 6 = 5 := by omega
  rcases hc with hc | hc | hc | hc | hc | hc
  · exact addr_0 zs p hz hp hc
  · exact addr_1 zs p hz hp hc
  · exact addr_2 zs p hz hp hc
  · exact addr_3 zs p hz hp hc
  · exact addr_4 zs p hz hp hc
  · exact addr_5 zs p hz hp hc
end Go.Proofs.YtboddbheljenhaaGreatDoor
namespace Go.Proofs.YtboddbheljenhaaGreatDoor
open Go.RowKit
theorem nat_hi (x k : Nat) (hk : k ≤ 64) (hx : x < 2 ^ 64) : x &&& (2 ^ 64 - 2 ^ k) = x - x % 2 ^ k := by
  have h1 : x - x % 2 ^ k = 2 ^ k * (x / 2 ^ k) + 0 := by have := Nat.div_add_mod x (2 ^ k); omega
  have h2 : 2 ^ 64 - 2 ^ k = 2 ^ k * (2 ^ (64 - k) - 1) + 0 := by rw [Nat.add_zero, Nat.mul_sub, ← Nat.pow_add, Nat.mul_one, show k + (64 - k) = 64 by omega]
  rw [h1, h2]
  apply Nat.eq_of_testBit_eq
  intro i
  rw [Nat.testBit_and, Nat.testBit_two_pow_mul_add _ (Nat.two_pow_pos k), Nat.testBit_two_pow_mul_add _ (Nat.two_pow_pos k)]
  by_cases h : i < k
  · simp [h]
  · rw [if_neg h, if_neg h, Nat.testBit_two_pow_sub_one, Nat.testBit_div_two_pow, show i - k + k = i by omega]
    by_cases h' : i < 64
    · rw [decide_eq_true (by omega), Bool.and_true]
    · have : x.testBit i = false := Nat.testBit_lt_two_pow (Nat.lt_of_lt_of_le hx (Nat.pow_le_pow_right (by decide) (by omega)))
      rw [this, Bool.false_and]
theorem andnot_low (x : Int) (k : Nat) (h0 : 0 ≤ x) (h1 : x < 18446744073709551616) (hk : k ≤ 64) : bits .andNot .u64 x (2 ^ k - 1) = x - x % 2 ^ k := by
  obtain ⟨X, rfl⟩ := Int.eq_ofNat_of_zero_le h0
  have hp : (2 : Nat) ^ k ≤ 2 ^ 64 := Nat.pow_le_pow_right (by decide) hk
  have h64 : (2 : Nat) ^ 64 = 18446744073709551616 := by decide
  have hp0 := Nat.two_pow_pos k
  have hc : ((2 ^ k : Nat) : Int) = (2 : Int) ^ k := Int.natCast_pow 2 k
  have e : ((2 : Int) ^ k - 1) = ((2 ^ k - 1 : Nat) : Int) := by rw [← hc]; omega
  rw [e, u64_andNot_nat X (2 ^ k - 1) (by omega) (by omega)]
  have e2 : 18446744073709551615 - (2 ^ k - 1) = 2 ^ 64 - 2 ^ k := by omega
  rw [e2, nat_hi X k hk (by omega)]
  have := Nat.mod_le X (2 ^ k)
  rw [Int.ofNat_sub this, Int.natCast_emod, hc]
end Go.Proofs.YtboddbheljenhaaGreatDoor
namespace Go.Proofs.YtboddbheljenhaaGreatDoor
open Go.RowKit
def clr (x k c : Nat) : Nat := 2 ^ k * (x / 2 ^ k) + x % 2 ^ c
theorem clr_bit {x k c : Nat} (h : c ≤ k) (t : Nat) : (clr x k c).testBit t = (x.testBit t && !(decide (c ≤ t) && decide (t < k))) := by
  unfold clr
  have hl : x % 2 ^ c < 2 ^ k := Nat.lt_of_lt_of_le (Nat.mod_lt _ (Nat.two_pow_pos c)) (Nat.pow_le_pow_right (by decide) h)
  rw [Nat.testBit_two_pow_mul_add _ hl, Nat.testBit_mod_two_pow, Nat.testBit_div_two_pow]
  by_cases h1 : t < k
  · rw [if_pos h1]
    by_cases h2 : t < c
    · first | (simp [h1, h2]; done) | (simp [h1, h2]; omega)
    · first | (simp [h1, h2]; done) | (simp [h1, h2]; omega)
  · rw [if_neg h1, show t - k + k = t by omega]
    simp [h1]
theorem clr_top {x k : Nat} : clr x k k = x := by unfold clr; exact Nat.div_add_mod x (2 ^ k)
theorem clr_zero {x k : Nat} : clr x k 0 = x - x % 2 ^ k := by unfold clr; have := Nat.div_add_mod x (2 ^ k); simp; omega
def sets (x k c : Nat) : Nat := 2 ^ k * (x / 2 ^ k) + (2 ^ k - 2 ^ c) + x % 2 ^ c
theorem sets_top {x k : Nat} : sets x k k = x := by unfold sets; have := Nat.div_add_mod x (2 ^ k); omega
def beB (m : Nat) (y : Nat) : List Int := (List.range m).map fun j => ((y / 256 ^ (m - 1 - j) % 256 : Nat) : Int)
theorem beB_length (m y : Nat) : (beB m y).length = m := by simp [beB]
theorem beB_get (m y j : Nat) (h : j < m) : (beB m y)[j]? = some ((y / 256 ^ (m - 1 - j) % 256 : Nat) : Int) := by
  unfold beB
  rw [List.getElem?_map, List.getElem?_range h]; rfl
theorem byte_bit (y e t : Nat) : (y / 256 ^ e % 256).testBit t = (decide (t < 8) && y.testBit (8 * e + t)) := by
  rw [show (256 : Nat) = 2 ^ 8 by decide, ← Nat.pow_mul, Nat.testBit_mod_two_pow, Nat.testBit_div_two_pow, Nat.add_comm t]
theorem pow_bit : ∀ r, r < 8 → ∀ t, t < 8 → (255 - 2 ^ r : Nat).testBit t = !decide (t = r) := by decide
theorem pow_bit' : ∀ r, r < 8 → ∀ t, t < 8 → (2 ^ r : Nat).testBit t = decide (t = r) := by decide
theorem beB_clear (m y y' i : Nat) (hi : i < 8 * m) (h : ∀ t, y'.testBit t = (y.testBit t && !decide (t = 8 * m - 1 - i))) :
    (beB m y).set (i / 8) (((y / 256 ^ (m - 1 - i / 8) % 256 &&& (255 - 2 ^ (7 - i % 8)) : Nat)) : Int) = beB m y' := by
  apply List.ext_getElem?
  intro j
  by_cases hj : j < m
  · rw [beB_get m y' j hj, List.getElem?_set]
    by_cases hji : i / 8 = j
    · rw [if_pos hji, if_pos (by rw [beB_length]; omega)]
      subst hji
      congr 2
      apply Nat.eq_of_testBit_eq
      intro t
      rw [Nat.testBit_and, byte_bit, byte_bit, h]
      by_cases ht : t < 8
      · rw [pow_bit (7 - i % 8) (by omega) t ht, decide_eq_true ht, Bool.true_and, Bool.true_and]
        congr 2
        rw [decide_eq_decide]
        omega
      · simp [ht]
    · rw [if_neg hji, beB_get m y j hj]
      congr 2
      apply Nat.eq_of_testBit_eq
      intro t
      rw [byte_bit, byte_bit, h]
      by_cases ht : t < 8
      · rw [decide_eq_false (by omega : ¬ 8 * (m - 1 - j) + t = 8 * m - 1 - i)]
        simp
      · simp [ht]
  · rw [List.getElem?_eq_none (by rw [List.length_set, beB_length]; omega), List.getElem?_eq_none (by rw [beB_length]; omega)]
end Go.Proofs.YtboddbheljenhaaGreatDoor
namespace Go.Proofs.YtboddbheljenhaaGreatDoor
open Go.RowKit
def khN (v : Bool) (n : Nat) : Nat := if v = true then 64 - n else 0
def klN (v : Bool) (n : Nat) : Nat := if v = true then min 64 (128 - n) else 32 - n
def wiN (v : Bool) : Nat := if v = true then 128 else 32
def cutZ (x : Int) (k : Nat) : Int := x - x % 2 ^ k
def filZ (x : Int) (k : Nat) : Int := x - x % 2 ^ k + (2 ^ k - 1)
theorem two_pos (k : Nat) : (0 : Int) < 2 ^ k := Int.pow_pos (by decide)
theorem cast_pow (k : Nat) : ((2 ^ k : Nat) : Int) = (2 : Int) ^ k := Int.natCast_pow 2 k
theorem cutZ_nat (x k : Nat) : cutZ (x : Int) k = ((x - x % 2 ^ k : Nat) : Int) := by
  unfold cutZ
  rw [Int.ofNat_sub (Nat.mod_le _ _), Int.natCast_emod, cast_pow]
theorem cutZ_zero (x : Int) : cutZ x 0 = x := by unfold cutZ; simp
theorem filZ_zero (x : Int) : filZ x 0 = x := by unfold filZ; simp
theorem cutZ_bd {x : Int} (k : Nat) (h : 0 ≤ x) : 0 ≤ cutZ x k ∧ cutZ x k ≤ x := by
  obtain ⟨X, rfl⟩ := Int.eq_ofNat_of_zero_le h
  rw [cutZ_nat]
  omega
theorem cutZ_mod (x : Int) (k : Nat) : cutZ x k % 2 ^ k = 0 := by
  unfold cutZ
  have e : x - x % 2 ^ k = 2 ^ k * (x / 2 ^ k) := by rw [Int.emod_def]; omega
  rw [e, Int.mul_emod_right]
theorem cutZ_idem (x : Int) (k : Nat) : cutZ (cutZ x k) k = cutZ x k := by
  rw [cutZ, cutZ_mod, Int.sub_zero]
def bitZ (x : Int) (b : Nat) : Int := x / 2 ^ b % 2
end Go.Proofs.YtboddbheljenhaaGreatDoor
namespace Go.Proofs.YtboddbheljenhaaGreatDoor

def words : List Int → Int
  | [] => 0
  | [a] => a * 256
  | a :: b :: r => a * 256 + b + words r
def fold (t : Int) : Int := if t = 0 then 0 else (t - 1) % 65535 + 1
def sumOf (zs : List Int) : Int := 65535 - fold (words zs)

def Bytes (zs : List Int) : Prop := ∀ z ∈ zs, 0 ≤ z ∧ z < 256

theorem bytes_take {zs : List Int} (h : Bytes zs) (k : Nat) : Bytes (zs.take k) := fun z hz => h z (List.mem_of_mem_take hz)
theorem bytes_at {zs : List Int} (h : Bytes zs) (k : Nat) : 0 ≤ zs.getD k 0 ∧ zs.getD k 0 < 256 := by
  rw [List.getD_eq_getElem?_getD]
  rcases Nat.lt_or_ge k zs.length with hk | hk
  · rw [List.getElem?_eq_getElem hk]; exact h _ (List.getElem_mem hk)
  · rw [List.getElem?_eq_none hk]; exact ⟨Int.le_refl _, by decide⟩

def put2 (zs : List Int) (i : Nat) (a b : Int) : List Int := (zs.set i a).set (i + 1) b
end Go.Proofs.YtboddbheljenhaaGreatDoor
