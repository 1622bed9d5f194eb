/-
  Layer 5: the messages that are made, Short, the check that is awake, by states.
-/
import Derived.Test.YtghhidpggnbfgaaAd5
import Derived.Test.YtghhidpggnbfgaaAwake5
import Derived.Test.YtghhidpggnbfgaaMkDeck
import Derived.Test.YtghhidpggnbfgaaMac
import Derived.Test.YtghhidpggnbfgaaSpoilt
namespace Go.Proofs.Ytghhidpggnbfgaa
open Go.RowKit
theorem mac_spec (n : Int) : Spec Try.prog 24 [.val (.int .i64 n)] [] (.val (.agg #[.int .u8 2, .int .u8 0, .int .u8 (n / 16777216 % 256), .int .u8 (n / 65536 % 256), .int .u8 (n / 256 % 256), .int .u8 (n % 256)])) [] :=
  spec_of_calls (vs := #[.int .i64 n]) (mac_any n)
theorem awake_spec : Spec Try.prog 7 [] [] (.val (.bool true)) [] := spec_of_calls (vs := #[]) awake5_any
set_option maxHeartbeats 2000000 in
set_option maxRecDepth 100000 in
theorem short_spec (xs : List Int) (hx : xs.length ≤ 9223372036854775807) : Spec Try.prog 6 [.ro (ints .u8 xs)] [] (.val (.bool (decide (xs.length ≤ 600)))) [] := by
  have e : decide ((xs.length : Int) ≤ 600) = decide (xs.length ≤ 600) := by rw [decide_eq_decide]; omega
  refine spec_of_awp Try.func6 rfl (Nat.le_of_ble_eq_true rfl) fun ini => ?_
  simp only [Try.ntmps6]
  (repeat (first | refine awp_reg_seq rfl fun k => ?_ | (refine awp_ret ?_; (apply ends_pure ?_ ?_ ?_ ?_ ?_ (.inl rfl); rotate_left 1; (· first | exact res_one rfl rfl | exact res_two rfl rfl rfl | exact res_none rfl | exact res_three rfl rfl rfl rfl | exact res_cell rfl rfl rfl rfl rfl | exact res_cell2 rfl rfl rfl rfl rfl rfl | exact res3 rfl (rv_cell rfl rfl rfl rfl) (rv_tmp rfl) (rv_tmp rfl) | exact res3 rfl (rv_cell rfl rfl rfl rfl) (rv_cell rfl rfl rfl rfl) (rv_cell rfl rfl rfl rfl)); (· first | rfl | ((conv => (lhs; whnf)); first | rfl | (simp; done))); (· first | rfl | (simp; done) | (simp [AVal.pure, AVal.pures, AObj.pure]; done)); (· rfl); (· rfl))) | (apply runk0 rfl rfl (opok_move rfl ?_) ?_; rotate_left 1; (· (conv => (lhs; whnf)))) | (apply runk0 rfl rfl (opok_assign rfl ?_) ?_; rotate_left 1; (· (conv => (lhs; whnf)))) | (apply runk0 rfl rfl (opok_bin rfl ?_ ?_ ?_) ?_; rotate_left 3; (· (conv => (lhs; whnf))); (· (conv => (lhs; whnf))); (· (intro w; go_simp; first | done | rfl))) | (first | (apply runk0 rfl rfl (opok_lenO rfl ?_ ?_ ?_) ?_; rotate_left 5; (· (conv => (lhs; whnf))); (· (conv => (lhs; whnf; arg 1; whnf))); (· first | exact length_ints _ _ | rfl)) | (apply runk0 rfl rfl (opok_len_own rfl ?_ ?_) ?_; rotate_left 4; (· (conv => (lhs; whnf))); (· (conv => (lhs; whnf; arg 1; whnf)))) | (apply runk0 rfl rfl (opok_len rfl ?_ ?_ ?_) ?_; rotate_left 3; (· (conv => (lhs; whnf))); (· (conv => (lhs; whnf; arg 1; whnf))); (· first | exact length_ints _ _ | rfl))) | refine runk_end (by kernel_rfl) ?_))
set_option maxHeartbeats 8000000 in
set_option maxRecDepth 100000 in
theorem message_ex (zs : List Int) (p : Nat) (hz : zs.length ≤ 9223372036854775807) (hp : p ≤ zs.length) : ∃ (m : AK) (q : Nat), (0 ≤ m.fl ∧ 0 ≤ m.tl) ∧ m.ok = true ∧ Bytes [m.a0, m.a1, m.a2, m.a3, m.a4, m.a5, m.b0, m.b1, m.b2, m.b3, m.b4, m.b5] ∧ q ≤ zs.length ∧ Spec Try.prog 8 [.ptr 0 0 0] [(0, some (0, deckO zs p))] (.agg m.A) [(0, some (0, deckO zs q))] := by
  have hp1 := nextP_le zs p hp
  have n1 := next_spec zs p 2 (by decide) (by decide) hz hp
  obtain ⟨r1, s1⟩ := nextV_range zs p 2 (by decide)
  generalize nextV zs p 2 = v1 at *
  generalize nextP zs p = p1 at *
  have hp2 := nextP_le zs p1 hp1
  have n2 := next_spec zs p1 99 (by decide) (by decide) hz hp1
  generalize nextV zs p1 99 = v2 at *
  generalize nextP zs p1 = p2 at *
  have hp3 := nextP_le zs p2 hp2
  have n3 := next_spec zs p2 1073741824 (by decide) (by decide) hz hp2
  obtain ⟨r3, s3⟩ := nextV_range zs p2 1073741824 (by decide)
  generalize nextV zs p2 1073741824 = v3 at *
  generalize nextP zs p2 = p3 at *
  have hp4 := nextP_le zs p3 hp3
  have n4 := next_spec zs p3 99 (by decide) (by decide) hz hp3
  generalize nextV zs p3 99 = v4 at *
  generalize nextP zs p3 = p4 at *
  have hp5 := nextP_le zs p4 hp4
  have n5 := next_spec zs p4 5 (by decide) (by decide) hz hp4
  obtain ⟨r5, s5⟩ := nextV_range zs p4 5 (by decide)
  generalize nextV zs p4 5 = v5 at *
  generalize nextP zs p4 = p5 at *
  refine ⟨⟨1 + v1, 2, 0, v2 / 16777216 % 256, v2 / 65536 % 256, v2 / 256 % 256, v2 % 256, false, 0, v3, 2, 0, v4 / 16777216 % 256, v4 / 65536 % 256, v4 / 256 % 256, v4 % 256, false, 0, v5⟩, p5, ⟨r3, r5⟩, ?_, ?_, hp5, ?_⟩
  · have e1 : v1 = 0 ∨ v1 = 1 := by omega
    have e3 : decide (v3 ≤ 4294967295) = true := by simp; omega
    have e5 : decide (v5 ≤ 4294967295) = true := by simp; omega
    rcases e1 with rfl | rfl <;> simp [AK.ok, v4ok, e3, e5]
  · intro z hz
    simp only [List.mem_cons, List.not_mem_nil, or_false] at hz
    omega
  · have w1 : IntKind.i64.wrap (1 + v1) = 1 + v1 := by rw [IntKind.wrap_i64]; omega
    have w3 : IntKind.u64.wrap v3 = v3 := by rw [IntKind.wrap_u64]; omega
    have w5 : IntKind.u64.wrap v5 = v5 := by rw [IntKind.wrap_u64]; omega
    have m2 := mac_spec v2
    have m4 := mac_spec v4
    generalize v2 / 16777216 % 256 = a2 at *
    generalize v2 / 65536 % 256 = a3 at *
    generalize v2 / 256 % 256 = a4 at *
    generalize v2 % 256 = a5 at *
    generalize v4 / 16777216 % 256 = b2 at *
    generalize v4 / 65536 % 256 = b3 at *
    generalize v4 / 256 % 256 = b4 at *
    generalize v4 % 256 = b5 at *
    unfold AK.A
    dsimp only
    refine spec_of_awp Try.func8 rfl (Nat.le_of_ble_eq_true rfl) fun ini => ?_
    simp only [Try.ntmps8]
    (repeat (first | refine awp_reg_seq rfl fun k => ?_ | (refine awp_ret ?_; (apply ends_with ?_ ?_ ?_ ?_ ?_ ?_ ?_ ?_ (.inl rfl); rotate_left 3; (· first | exact res_one rfl rfl | exact res_two rfl rfl rfl | exact res_none rfl | exact res_three rfl rfl rfl rfl | exact res_cell rfl rfl rfl rfl rfl | exact res_cell2 rfl rfl rfl rfl rfl rfl | exact res3 rfl (rv_cell rfl rfl rfl rfl) (rv_tmp rfl) (rv_tmp rfl) | exact res3 rfl (rv_cell rfl rfl rfl rfl) (rv_cell rfl rfl rfl rfl) (rv_cell rfl rfl rfl rfl)); (· first | rfl | ((conv => (lhs; whnf)); first | rfl | (simp; done) | (rfl))); (· first | rfl | (simp; done) | (simp [AVal.pure, AVal.pures, AObj.pure]; done)); (· (conv => (lhs; whnf; arg 1; whnf))); (· rfl); (· first | rfl | (simp; done) | (rfl)); (· first | rfl | (simp; done) | (simp [AVal.pure, AVal.pures, AObj.pure]; done)); (· rfl))) | (apply runk_with rfl rfl rfl ?_ ?_ ?_ ?_ ?_ ?_ ?_ ?_ ?_ ?_ ?_; rotate_left 10; (· (conv => (lhs; whnf))); (· exact Try.func25); (· rfl); (· rfl); (· exact (n1)); (· (repeat (first | exact Rens.nil | (refine Rens.cons ?_ ?_; (· first | exact Ren.own _ _ _ _ _ _ rfl List.mem_cons_self | exact Ren.own _ _ _ _ _ _ rfl (List.mem_cons_of_mem _ List.mem_cons_self) | (refine (Ren.own _ _ _ _ _ _ ?_ List.mem_cons_self); first | rfl | (simp; done)) | (refine (Ren.own _ _ _ _ _ _ ?_ (List.mem_cons_of_mem _ List.mem_cons_self)); first | rfl | (simp; done)) | exact Ren.ptr _ _ _ _ _ List.mem_cons_self | (refine Ren.pureR ?_ rfl; (first | rfl | (simp; done) | (simp [AVal.pure, AVal.pures, AObj.pure]; done)))))))); (· rfl); (· first | rfl | (simp; done) | simp [AVal.pure, AVal.pures, AObj.pure]); (· first | rfl | (simp; done) | simp [AVal.pure, AVal.pures, AObj.pure]); (· first | rfl | (simp; done) | simp [AVal.pure, AVal.pures, AObj.pure])) | (apply runk_with rfl rfl rfl ?_ ?_ ?_ ?_ ?_ ?_ ?_ ?_ ?_ ?_ ?_; rotate_left 10; (· (conv => (lhs; whnf))); (· exact Try.func25); (· rfl); (· rfl); (· exact (n2)); (· (repeat (first | exact Rens.nil | (refine Rens.cons ?_ ?_; (· first | exact Ren.own _ _ _ _ _ _ rfl List.mem_cons_self | exact Ren.own _ _ _ _ _ _ rfl (List.mem_cons_of_mem _ List.mem_cons_self) | (refine (Ren.own _ _ _ _ _ _ ?_ List.mem_cons_self); first | rfl | (simp; done)) | (refine (Ren.own _ _ _ _ _ _ ?_ (List.mem_cons_of_mem _ List.mem_cons_self)); first | rfl | (simp; done)) | exact Ren.ptr _ _ _ _ _ List.mem_cons_self | (refine Ren.pureR ?_ rfl; (first | rfl | (simp; done) | (simp [AVal.pure, AVal.pures, AObj.pure]; done)))))))); (· rfl); (· first | rfl | (simp; done) | simp [AVal.pure, AVal.pures, AObj.pure]); (· first | rfl | (simp; done) | simp [AVal.pure, AVal.pures, AObj.pure]); (· first | rfl | (simp; done) | simp [AVal.pure, AVal.pures, AObj.pure])) | (apply runk_with rfl rfl rfl ?_ ?_ ?_ ?_ ?_ ?_ ?_ ?_ ?_ ?_ ?_; rotate_left 10; (· (conv => (lhs; whnf))); (· exact Try.func25); (· rfl); (· rfl); (· exact (n3)); (· (repeat (first | exact Rens.nil | (refine Rens.cons ?_ ?_; (· first | exact Ren.own _ _ _ _ _ _ rfl List.mem_cons_self | exact Ren.own _ _ _ _ _ _ rfl (List.mem_cons_of_mem _ List.mem_cons_self) | (refine (Ren.own _ _ _ _ _ _ ?_ List.mem_cons_self); first | rfl | (simp; done)) | (refine (Ren.own _ _ _ _ _ _ ?_ (List.mem_cons_of_mem _ List.mem_cons_self)); first | rfl | (simp; done)) | exact Ren.ptr _ _ _ _ _ List.mem_cons_self | (refine Ren.pureR ?_ rfl; (first | rfl | (simp; done) | (simp [AVal.pure, AVal.pures, AObj.pure]; done)))))))); (· rfl); (· first | rfl | (simp; done) | simp [AVal.pure, AVal.pures, AObj.pure]); (· first | rfl | (simp; done) | simp [AVal.pure, AVal.pures, AObj.pure]); (· first | rfl | (simp; done) | simp [AVal.pure, AVal.pures, AObj.pure])) | (apply runk_with rfl rfl rfl ?_ ?_ ?_ ?_ ?_ ?_ ?_ ?_ ?_ ?_ ?_; rotate_left 10; (· (conv => (lhs; whnf))); (· exact Try.func25); (· rfl); (· rfl); (· exact (n4)); (· (repeat (first | exact Rens.nil | (refine Rens.cons ?_ ?_; (· first | exact Ren.own _ _ _ _ _ _ rfl List.mem_cons_self | exact Ren.own _ _ _ _ _ _ rfl (List.mem_cons_of_mem _ List.mem_cons_self) | (refine (Ren.own _ _ _ _ _ _ ?_ List.mem_cons_self); first | rfl | (simp; done)) | (refine (Ren.own _ _ _ _ _ _ ?_ (List.mem_cons_of_mem _ List.mem_cons_self)); first | rfl | (simp; done)) | exact Ren.ptr _ _ _ _ _ List.mem_cons_self | (refine Ren.pureR ?_ rfl; (first | rfl | (simp; done) | (simp [AVal.pure, AVal.pures, AObj.pure]; done)))))))); (· rfl); (· first | rfl | (simp; done) | simp [AVal.pure, AVal.pures, AObj.pure]); (· first | rfl | (simp; done) | simp [AVal.pure, AVal.pures, AObj.pure]); (· first | rfl | (simp; done) | simp [AVal.pure, AVal.pures, AObj.pure])) | (apply runk_with rfl rfl rfl ?_ ?_ ?_ ?_ ?_ ?_ ?_ ?_ ?_ ?_ ?_; rotate_left 10; (· (conv => (lhs; whnf))); (· exact Try.func25); (· rfl); (· rfl); (· exact (n5)); (· (repeat (first | exact Rens.nil | (refine Rens.cons ?_ ?_; (· first | exact Ren.own _ _ _ _ _ _ rfl List.mem_cons_self | exact Ren.own _ _ _ _ _ _ rfl (List.mem_cons_of_mem _ List.mem_cons_self) | (refine (Ren.own _ _ _ _ _ _ ?_ List.mem_cons_self); first | rfl | (simp; done)) | (refine (Ren.own _ _ _ _ _ _ ?_ (List.mem_cons_of_mem _ List.mem_cons_self)); first | rfl | (simp; done)) | exact Ren.ptr _ _ _ _ _ List.mem_cons_self | (refine Ren.pureR ?_ rfl; (first | rfl | (simp; done) | (simp [AVal.pure, AVal.pures, AObj.pure]; done)))))))); (· rfl); (· first | rfl | (simp; done) | simp [AVal.pure, AVal.pures, AObj.pure]); (· first | rfl | (simp; done) | simp [AVal.pure, AVal.pures, AObj.pure]); (· first | rfl | (simp; done) | simp [AVal.pure, AVal.pures, AObj.pure])) | (apply runk_pure rfl rfl rfl ?_ ?_ ?_ ?_ ?_ ?_ ?_ ?_; rotate_left 6; (· (conv => (lhs; whnf))); (· exact Try.func24); (· rfl); (· rfl); (· exact (m2)); (· (repeat (first | exact Rens.nil | (refine Rens.cons ?_ ?_; (· first | exact Ren.own _ _ _ _ _ _ rfl List.mem_cons_self | exact Ren.own _ _ _ _ _ _ rfl (List.mem_cons_of_mem _ List.mem_cons_self) | (refine (Ren.own _ _ _ _ _ _ ?_ List.mem_cons_self); first | rfl | (simp; done)) | (refine (Ren.own _ _ _ _ _ _ ?_ (List.mem_cons_of_mem _ List.mem_cons_self)); first | rfl | (simp; done)) | exact Ren.ptr _ _ _ _ _ List.mem_cons_self | (refine Ren.pureR ?_ rfl; (first | rfl | (simp; done) | (simp [AVal.pure, AVal.pures, AObj.pure]; done)))))))); (· first | rfl | (simp; done) | simp [AVal.pure, AVal.pures, AObj.pure])) | (apply runk_pure rfl rfl rfl ?_ ?_ ?_ ?_ ?_ ?_ ?_ ?_; rotate_left 6; (· (conv => (lhs; whnf))); (· exact Try.func24); (· rfl); (· rfl); (· exact (m4)); (· (repeat (first | exact Rens.nil | (refine Rens.cons ?_ ?_; (· first | exact Ren.own _ _ _ _ _ _ rfl List.mem_cons_self | exact Ren.own _ _ _ _ _ _ rfl (List.mem_cons_of_mem _ List.mem_cons_self) | (refine (Ren.own _ _ _ _ _ _ ?_ List.mem_cons_self); first | rfl | (simp; done)) | (refine (Ren.own _ _ _ _ _ _ ?_ (List.mem_cons_of_mem _ List.mem_cons_self)); first | rfl | (simp; done)) | exact Ren.ptr _ _ _ _ _ List.mem_cons_self | (refine Ren.pureR ?_ rfl; (first | rfl | (simp; done) | (simp [AVal.pure, AVal.pures, AObj.pure]; done)))))))); (· first | rfl | (simp; done) | simp [AVal.pure, AVal.pures, AObj.pure])) | (apply runk0 rfl rfl (opok_move rfl ?_) ?_; rotate_left 1; (· (conv => (lhs; whnf)))) | (apply runk0 rfl rfl (opok_bin rfl ?_ ?_ ?_) ?_; rotate_left 3; (· (conv => (lhs; whnf))); (· (conv => (lhs; whnf))); (· (intro w; go_simp; first | done | rfl))) | (apply runk0 rfl rfl (opok_conv rfl ?_ ?_) ?_; rotate_left 2; (· (conv => (lhs; whnf))); (· (intro w; go_simp; first | done | rfl))) | (apply runk0 rfl rfl (opok_build rfl ?_ ?_ ?_ ?_ ?_) ?_; rotate_left 5; (· (conv => (lhs; whnf; arg 1; whnf))); (· (conv => (lhs; whnf; arg 1; repeat (whnf; arg 2)))); (· (conv => (lhs; whnf; arg 1; whnf))); (· (repeat (first | exact PartsOf.nil | (apply PartsOf.cons; (· (conv => (lhs; whnf))))))); (· (conv => (lhs; whnf; arg 1; repeat (whnf; arg 2))))) | (apply runk_alloc rfl rfl rfl ?_ ?_ ?_; rotate_left 2; (· (conv => (lhs; whnf; arg 1; whnf))); (· (conv => (lhs; whnf)))) | (apply runk_store rfl rfl rfl ?_ ?_ ?_ ?_ ?_ ?_ ?_ ?_ ?_ ?_ ?_; rotate_left 9; (· (conv => (lhs; whnf))); (· (conv => (lhs; whnf))); (· (conv => (lhs; whnf; arg 1; whnf; arg 2; whnf))); (· rfl); (· (conv => (lhs; whnf))); (· rfl); (· (unfold sizeIs; conv => (lhs; whnf; arg 1; whnf))); (· rfl); (· rfl); (· (conv => (lhs; repeat (whnf; arg 2))))) | refine runk_end (by kernel_rfl) ?_))
end Go.Proofs.Ytghhidpggnbfgaa
