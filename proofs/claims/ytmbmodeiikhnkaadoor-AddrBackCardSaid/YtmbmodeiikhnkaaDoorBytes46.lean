/-
  The bytes of an address without V6, by states.
-/
import Derived.Test.YtmbmodeiikhnkaaDoorBytes6
namespace Go.Proofs.YtmbmodeiikhnkaaDoor
open Go.RowKit
def by4 (n : Int) (m : Nat) : List Int := (List.range (4 - m)).map fun j => n / 256 ^ (3 - j) % 256
@[simp] theorem by4_length (n : Int) (m : Nat) : (by4 n m).length = 4 - m := by simp [by4]
theorem by4_step (n : Int) (m : Nat) (h : m < 4) : by4 n (m + 1) ++ [n / 256 ^ m % 256] = by4 n m := by
  have : m = 0 ∨ m = 1 ∨ m = 2 ∨ m = 3 := by omega
  rcases this with rfl | rfl | rfl | rfl <;> simp [by4, List.range_succ]
set_option maxHeartbeats 1000000 in
theorem valid4_any (hi lo : Int) (w : World) : Calls Tryd.prog 12 #[.agg #[.bool false, .int .u64 hi, .int .u64 lo]] w fun e w' => e = .returned (.bool (decide (hi = 0) && decide (lo ≤ 4294967295))) ∧ Below w.heap.size w w' := by
  have e3 : decide (lo < 4294967296) = decide (lo ≤ 4294967295) := by rw [decide_eq_decide]; omega
  by_cases h1 : hi = 0
  · have e1 : decide (hi = 0) = true := by simpa using h1
    have e2 : (hi == 0) = true := by simpa using h1
    rw [e1]
    go_enter Tryd.func12, Tryd.ntmps12
    go_wp2
    go_ret
    refine ⟨?_, (by repeat (with_reducible first | exact Below.refl _ _ | assumption | refine Below.drew ?_ | refine below_drewN ?_ _ | refine Below.alloc ?_ (by simp) _ | refine Below.setCell ?_ (by first | (simp; done) | omega | (simp; omega)) _ | refine Below.alloc ?_ (by simp; omega) _))⟩
    first | rfl | (rw [← e3]; rfl)
  · have e1 : decide (hi = 0) = false := by simpa using h1
    have e2 : (hi == 0) = false := by simpa using h1
    rw [e1]
    go_enter Tryd.func12, Tryd.ntmps12
    go_wp2
    go_ret
    refine ⟨?_, (by repeat (with_reducible first | exact Below.refl _ _ | assumption | refine Below.drew ?_ | refine below_drewN ?_ _ | refine Below.alloc ?_ (by simp) _ | refine Below.setCell ?_ (by first | (simp; done) | omega | (simp; omega)) _ | refine Below.alloc ?_ (by simp; omega) _))⟩
    first | rfl | (rw [← e3]; rfl)
theorem valid_v4 (hi lo : Int) : Spec Tryd.prog 12 [.agg [.val (.bool false), .val (.int .u64 hi), .val (.int .u64 lo)]] [] (.val (.bool (decide (hi = 0) && decide (lo ≤ 4294967295)))) [] :=
  (spec_of_calls (vs := #[.agg #[.bool false, .int .u64 hi, .int .u64 lo]]) fun w => valid4_any hi lo w).of (.agg (vs := [.bool false, .int .u64 hi, .int .u64 lo]) .nil)
set_option maxHeartbeats 1000000 in
theorem rvalid4_any (hi lo : Int) (w : World) : Calls Tryd.prog 13 #[.agg #[.bool false, .int .u64 hi, .int .u64 lo]] w fun e w' => e = .returned (.bool (decide (hi = 0) && decide (lo ≤ 4294967295))) ∧ Below w.heap.size w w' := by
  have e3 : decide (lo < 4294967296) = decide (lo ≤ 4294967295) := by rw [decide_eq_decide]; omega
  by_cases h1 : hi = 0
  · have e1 : decide (hi = 0) = true := by simpa using h1
    have e2 : (hi == 0) = true := by simpa using h1
    rw [e1]
    go_enter Tryd.func13, Tryd.ntmps13
    go_wp2
    go_ret
    refine ⟨?_, (by repeat (with_reducible first | exact Below.refl _ _ | assumption | refine Below.drew ?_ | refine below_drewN ?_ _ | refine Below.alloc ?_ (by simp) _ | refine Below.setCell ?_ (by first | (simp; done) | omega | (simp; omega)) _ | refine Below.alloc ?_ (by simp; omega) _))⟩
    first | rfl | (rw [← e3]; rfl)
  · have e1 : decide (hi = 0) = false := by simpa using h1
    have e2 : (hi == 0) = false := by simpa using h1
    rw [e1]
    go_enter Tryd.func13, Tryd.ntmps13
    go_wp2
    go_ret
    refine ⟨?_, (by repeat (with_reducible first | exact Below.refl _ _ | assumption | refine Below.drew ?_ | refine below_drewN ?_ _ | refine Below.alloc ?_ (by simp) _ | refine Below.setCell ?_ (by first | (simp; done) | omega | (simp; omega)) _ | refine Below.alloc ?_ (by simp; omega) _))⟩
    first | rfl | (rw [← e3]; rfl)
theorem rvalid_v4 (hi lo : Int) : Spec Tryd.prog 13 [.agg [.val (.bool false), .val (.int .u64 hi), .val (.int .u64 lo)]] [] (.val (.bool (decide (hi = 0) && decide (lo ≤ 4294967295)))) [] :=
  (spec_of_calls (vs := #[.agg #[.bool false, .int .u64 hi, .int .u64 lo]]) fun w => rvalid4_any hi lo w).of (.agg (vs := [.bool false, .int .u64 hi, .int .u64 lo]) .nil)
set_option maxHeartbeats 8000000 in
set_option maxRecDepth 100000 in
theorem num4_nil (n : Int) : Spec Tryd.prog 31 [.val (.slice none 0 0), .val (.int .u64 n), .val (.int .i64 4)] [] (.own 1000 0 4) [(1000, some (0, .row 5 1 (ints .u8 (by4 n 0))))] := by
  refine spec_of_awp Tryd.func31 rfl (Nat.le_of_ble_eq_true rfl) fun ini => ?_
  simp only [Tryd.ntmps31]
  refine awp_reg_seq rfl fun k1 => ?_
  (repeat (first | (apply runk0 rfl rfl (opok_assign rfl ?_) ?_; rotate_left 1; (· (conv => (lhs; whnf)))) | refine runk_end (by kernel_rfl) ?_))
  refine awp_seq ?_
  refine awp_reg_seq rfl fun k2 => ?_
  (repeat (first | (apply runk0 rfl rfl (opok_move rfl ?_) ?_; rotate_left 1; (· (conv => (lhs; whnf)))) | (apply runk0 rfl rfl (opok_assign rfl ?_) ?_; rotate_left 1; (· (conv => (lhs; whnf)))) | (apply runk0 rfl rfl (opok_bin rfl ?_ ?_ ?_) ?_; rotate_left 3; (· (conv => (lhs; whnf))); (· (conv => (lhs; whnf))); (· (intro w; go_simp; first | done | rfl))) | refine runk_end (by kernel_rfl) ?_))
  refine awp_adopt 0 0 5 1 rfl fun k3 => ?_
  refine awp_block ?_
  refine awp_loop (fun m st => m ≤ 4 ∧ ∃ kb, st.leB ⟨[(0, .own 0 kb (4 - m)), (1, .val (.int .u64 n)), (7, .val (.int .i64 ((m : Int) - 1)))], [(0, some (kb, .row 5 1 (ints .u8 (by4 n m))))]⟩) 4 ⟨Nat.le_refl _, k3, ?_⟩ ?_
  · (refine leB_of ?_ ?_; (· (repeat (first | exact EnvIs.nil | (refine EnvIs.cons ?_ ?_; (· first | rfl | ((conv => (lhs; whnf)); first | (simp [ints, by4, IntKind.wrap_i64]; done) | (simp [ints, by4, IntKind.wrap_i64]; omega))))))); (· (repeat (first | exact ObjsAre.nil | (refine ObjsAre.cons ?_ ?_; (· first | rfl | ((conv => (lhs; whnf)); first | (simp [ints, by4, IntKind.wrap_i64]; done) | (simp [ints, by4, IntKind.wrap_i64]; omega))))))))
  · rintro m st ⟨hm, kb, hle⟩
    refine awp_less hle ?_
    clear hle st
    refine awp_seq ?_
    refine awp_reg_seq rfl fun k4 => ?_
    (repeat (first | (apply runk0 rfl rfl (opok_move rfl ?_) ?_; rotate_left 1; (· (conv => (lhs; whnf)))) | (apply runk0 rfl rfl (opok_bin rfl ?_ ?_ ?_) ?_; rotate_left 3; (· (conv => (lhs; whnf))); (· (conv => (lhs; whnf))); (· (intro w; go_simp; first | done | rfl))) | refine runk_end (by kernel_rfl) ?_))
    refine awp_cond _ rfl (fun hc => ?_) (fun hc => ?_)
    · have hm0 : 0 < m := by simp at hc; omega
      obtain ⟨i, rfl⟩ : ∃ i, m = i + 1 := ⟨m - 1, by omega⟩
      have hstep := by4_step n i (by omega)
      have e0 : ((i + 1 : Nat) : Int) - 1 = (i : Int) := by omega
      rw [e0]
      refine awp_skip (?_ : Awp _ _ _ _ _ _)
      refine awp_seq (awp_block ?_)
      have hw0 : IntKind.i64.wrap (8 * (i : Int)) = 8 * (i : Int) := by rw [IntKind.wrap_i64]; omega
      have hb8 : IntKind.u8.wrap (n / 2 ^ (8 * (i : Int)).toNat) = n / 256 ^ i % 256 := by
        have e : (8 * (i : Int)).toNat = 8 * i := by omega
        rw [IntKind.wrap_u8, e, Int.pow_mul]; rfl
      have hw1 : IntKind.i64.wrap ((i : Int) - 1) = (i : Int) - 1 := by rw [IntKind.wrap_i64]; omega
      refine awp_reg rfl fun k5 => ?_
      (repeat (first | (apply runk0 rfl rfl (opok_move rfl ?_) ?_; rotate_left 1; (· (conv => (lhs; whnf)))) | (apply runk0 rfl rfl (opok_bin rfl ?_ ?_ ?_) ?_; rotate_left 3; (· (conv => (lhs; whnf))); (· (conv => (lhs; whnf))); (· (intro w; go_simp; first | done | rfl))) | (apply runk0 rfl rfl (opok_conv rfl ?_ ?_) ?_; rotate_left 2; (· (conv => (lhs; whnf))); (· (intro w; go_simp; first | done | rfl))) | (apply runk_lit rfl rfl rfl ?_ ?_ ?_ ?_ ?_ ?_ ?_ ?_ ?_ ?_ ?_; rotate_left 4; (· (conv => (lhs; whnf; arg 1; whnf))); (· (unfold sizeIs; conv => (lhs; whnf; arg 1; whnf))); (· (conv => (lhs; whnf; arg 1; whnf))); (· rfl); (· rfl); (· rfl); (· rfl); (· (repeat (first | exact PartsAre.nil _ | (apply PartsAre.cons; (· (conv => (lhs; whnf))))))); (· first | rfl | exact one_ints _ _ | exact widths_ints _ _ | simp); (· first | rfl | exact one_ints _ _ | exact widths_ints _ _ | simp))))
      (apply runk_app rfl rfl rfl ?_ ?_ ?_ ?_ ?_ ?_ ?_ ?_ ?_ ?_ ?_ ?_ ?_ ?_ ?_ ?_; rotate_left 11; (· (conv => (lhs; whnf))); (· (conv => (lhs; whnf))); (· (conv => (lhs; whnf; arg 1; whnf))); (· (unfold sizeIs; conv => (lhs; whnf; arg 1; whnf))); (· (conv => (lhs; whnf; arg 1; whnf))); (· (conv => (lhs; whnf; arg 1; whnf))); (· rfl); (· rfl); (· rfl); (· first | exact .nil | (refine .own _ _ _ _ rfl ?_; first | rfl | (simp; done)) | (refine .pre _ _ _ _ rfl ?_ ?_; (· first | omega | (simp; done) | (simp; omega)); (· first | exact widths_ints _ _ | rfl | (simp; done)))); (· first | exact .ro _ | (refine .own _ _ _ _ _ _ rfl ?_; first | rfl | (simp; done)) | exact .nil | (refine .pre _ _ _ _ _ _ rfl ?_ ?_; (· first | omega | (simp; done) | (simp; omega)); (· first | exact widths_ints _ _ | rfl | (simp; done))) | (refine .sub _ _ _ _ _ _ _ rfl ?_ ?_; (· first | omega | (simp; done) | (simp; omega)); (· first | exact widths_ints _ _ | rfl | (simp; done)))); (· first | rfl | exact one_ints _ _ | exact widths_ints _ _ | simp); (· first | rfl | exact one_ints _ _ | exact widths_ints _ _ | simp); (· simp; omega); (· first | (simp only [ints_one, ints_consR, ints_append]; done) | (simp only [ints_one, ints_consR, ints_append]; rfl) | rfl))
      rw [hstep]
      (repeat (first | (apply runk_assignOwn rfl rfl rfl ?_ ?_ ?_; rotate_left 4; (· (conv => (lhs; whnf))); (· (conv => (lhs; whnf; arg 1; whnf)))) | refine runk_end (by kernel_rfl) ?_))
      show Awp _ _ _ _ _ _
      refine awp_reg rfl fun k6 => ?_
      (repeat (first | (apply runk0 rfl rfl (opok_move rfl ?_) ?_; rotate_left 1; (· (conv => (lhs; whnf)))) | (apply runk0 rfl rfl (opok_assign rfl ?_) ?_; rotate_left 1; (· (conv => (lhs; whnf)))) | (apply runk0 rfl rfl (opok_bin rfl ?_ ?_ ?_) ?_; rotate_left 3; (· (conv => (lhs; whnf))); (· (conv => (lhs; whnf))); (· (intro w; go_simp; first | done | rfl))) | refine runk_end (by kernel_rfl) ?_))
      refine ⟨i, by omega, by omega, k5, ?_⟩
      (refine leB_of ?_ ?_; (· (repeat (first | exact EnvIs.nil | (refine EnvIs.cons ?_ ?_; (· first | rfl | ((conv => (lhs; whnf)); first | (simp [ints]; done) | (simp [ints]; omega))))))); (· (repeat (first | exact ObjsAre.nil | (refine ObjsAre.cons ?_ ?_; (· first | rfl | ((conv => (lhs; whnf)); first | (simp [ints]; done) | (simp [ints]; omega))))))))
    · have hm0 : m = 0 := by simp at hc; omega
      subst hm0
      refine awp_exit (?_ : Awp _ _ _ _ _ _)
      refine awp_reg_seq rfl fun k5 => ?_
      (repeat (first | (apply runk0 rfl rfl (opok_move rfl ?_) ?_; rotate_left 1; (· (conv => (lhs; whnf)))) | (apply runk_assignOwn rfl rfl rfl ?_ ?_ ?_; rotate_left 4; (· (conv => (lhs; whnf))); (· (conv => (lhs; whnf; arg 1; whnf)))) | refine runk_end (by kernel_rfl) ?_))
      refine awp_ret ?_
      (apply ends_own rfl ?_ ?_ ?_ ?_ ?_ ?_ ?_ (.inl rfl); rotate_left 5; (· (conv => (lhs; whnf))); (· (conv => (lhs; whnf; arg 1; whnf))); (· rfl); (· first | rfl | (simp; done)); (· first | rfl | (rfl)); (· first | rfl | (simp; done) | (simp [AVal.pure, AVal.pures, AObj.pure]; done)); (· rfl))
set_option maxHeartbeats 4000000 in
set_option maxRecDepth 100000 in
theorem abytes_v4 (lo : Int) (hl : lo ≤ 4294967295) : Spec Tryd.prog 14 [.agg [.val (.bool false), .val (.int .u64 0), .val (.int .u64 lo)]] [] (.own 1000 0 4) [(1000, some (0, .row 5 1 (ints .u8 (by4 lo 0))))] := by
  have sv := valid_v4 0 lo
  have e1 : (decide ((0 : Int) = 0) && decide (lo ≤ 4294967295)) = true := by simpa using hl
  rw [e1] at sv
  refine spec_of_awp Tryd.func14 rfl (Nat.le_of_ble_eq_true rfl) fun ini => ?_
  simp only [Tryd.ntmps14]
  refine awp_reg_seq rfl fun k1 => ?_
  (repeat (first | (apply runk0 rfl rfl (opok_assign rfl ?_) ?_; rotate_left 1; (· (conv => (lhs; whnf)))) | (apply runk_box rfl rfl rfl ?_ ?_ ?_ ?_; rotate_left 2; (· (conv => (lhs; whnf))); (· rfl); (· (conv => (lhs; whnf)))) | refine runk_end (by kernel_rfl) ?_))
  refine awp_seq ?_
  refine awp_reg_seq rfl fun k2 => ?_
  (repeat (first | (apply runk0 rfl rfl (opok_loadA rfl ?_ ?_ ?_ ?_ ?_ ?_) ?_; rotate_left 6; (· (conv => (lhs; whnf))); (· (conv => (lhs; whnf; arg 1; whnf; arg 2; whnf))); (· rfl); (· (unfold sizeIs; conv => (lhs; whnf; arg 1; whnf))); (· (conv => (lhs; repeat (whnf; arg 2)))); (· rfl))))
  (apply runk_pure rfl rfl rfl ?_ ?_ ?_ ?_ ?_ ?_ ?_ ?_; rotate_left 6; (· (conv => (lhs; whnf))); (· exact Tryd.func12); (· rfl); (· rfl); (· exact (sv)); (· (repeat (first | exact Rens.nil | (refine Rens.cons ?_ ?_; (· first | exact Ren.own _ _ _ _ _ _ rfl List.mem_cons_self | exact Ren.own _ _ _ _ _ _ rfl (List.mem_cons_of_mem _ List.mem_cons_self) | (refine (Ren.own _ _ _ _ _ _ ?_ List.mem_cons_self); first | rfl | (simp; done)) | (refine (Ren.own _ _ _ _ _ _ ?_ (List.mem_cons_of_mem _ List.mem_cons_self)); first | rfl | (simp; done)) | exact Ren.ptr _ _ _ _ _ List.mem_cons_self | (refine Ren.pureR ?_ rfl; (first | rfl | (simp; done) | (simp [AVal.pure, AVal.pures, AObj.pure]; done)))))))); (· first | rfl | (simp; done) | simp [AVal.pure, AVal.pures, AObj.pure]))
  (repeat (first | (apply runk0 rfl rfl (opok_un rfl ?_ ?_) ?_; rotate_left 2; (· (conv => (lhs; whnf))); (· (intro w; go_simp; first | done | rfl))) | refine runk_end (by kernel_rfl) ?_))
  refine awp_false rfl ?_
  refine awp_skip (?_ : Awp _ _ _ _ _ _)
  refine awp_seq ?_
  refine awp_reg_seq rfl fun k3 => ?_
  (repeat (first | (apply runk_fa rfl rfl rfl ?_ rfl rfl ?_ ?_ ?_ ?_; rotate_left 5; (· (conv => (lhs; whnf))); (· (unfold sizeIs; conv => (lhs; whnf; arg 1; whnf))); (· rfl); (· (conv => (lhs; whnf)))) | (first | (apply runk0 rfl rfl (opok_load rfl ?_ ?_ ?_ ?_) ?_; rotate_left 5; (· (conv => (lhs; whnf))); (· (conv => (lhs; whnf; arg 1; whnf; arg 2; whnf))); (· rfl); (· (conv => (lhs; whnf; arg 1; whnf)))) | (apply runk0 rfl rfl (opok_loadR rfl ?_ ?_ ?_) ?_; rotate_left 2; (· (conv => (lhs; whnf))); (· rfl); (· (conv => (lhs; whnf; arg 1; whnf))))) | (apply runk0 rfl rfl (opok_un rfl ?_ ?_) ?_; rotate_left 2; (· (conv => (lhs; whnf))); (· (intro w; go_simp; first | done | rfl))) | refine runk_end (by kernel_rfl) ?_))
  refine awp_true rfl ?_
  refine awp_reg_seq rfl fun k4 => ?_
  (repeat (first | (apply runk_fa rfl rfl rfl ?_ rfl rfl ?_ ?_ ?_ ?_; rotate_left 5; (· (conv => (lhs; whnf))); (· (unfold sizeIs; conv => (lhs; whnf; arg 1; whnf))); (· rfl); (· (conv => (lhs; whnf)))) | (first | (apply runk0 rfl rfl (opok_load rfl ?_ ?_ ?_ ?_) ?_; rotate_left 5; (· (conv => (lhs; whnf))); (· (conv => (lhs; whnf; arg 1; whnf; arg 2; whnf))); (· rfl); (· (conv => (lhs; whnf; arg 1; whnf)))) | (apply runk0 rfl rfl (opok_loadR rfl ?_ ?_ ?_) ?_; rotate_left 2; (· (conv => (lhs; whnf))); (· rfl); (· (conv => (lhs; whnf; arg 1; whnf)))))))
  (apply runk_made rfl rfl rfl ?_ ?_ ?_ ?_ ?_ ?_ ?_ ?_ ?_; rotate_left 8; (· (conv => (lhs; whnf))); (· exact Tryd.func31); (· rfl); (· rfl); (· exact (num4_nil lo)); (· (repeat (first | exact Rens.nil | (refine Rens.cons ?_ ?_; (· first | exact Ren.own _ _ _ _ _ _ rfl List.mem_cons_self | exact Ren.own _ _ _ _ _ _ rfl (List.mem_cons_of_mem _ List.mem_cons_self) | (refine (Ren.own _ _ _ _ _ _ ?_ List.mem_cons_self); first | rfl | (simp; done)) | (refine (Ren.own _ _ _ _ _ _ ?_ (List.mem_cons_of_mem _ List.mem_cons_self)); first | rfl | (simp; done)) | exact Ren.ptr _ _ _ _ _ List.mem_cons_self | (refine Ren.pureR ?_ rfl; (first | rfl | (simp; done) | (simp [AVal.pure, AVal.pures, AObj.pure]; done)))))))); (· first | exact .one (.ptr _ _ _ _ _ List.mem_cons_self) | exact .one (.own _ _ _ _ _ _ rfl List.mem_cons_self) | exact .one (.own _ _ _ _ _ _ rfl (List.mem_cons_of_mem _ List.mem_cons_self)) | (apply RenT.tuple; (repeat (first | exact Rens.nil | (apply Rens.cons; (· first | exact Ren.own _ _ _ _ _ _ rfl List.mem_cons_self | exact Ren.own _ _ _ _ _ _ rfl (List.mem_cons_of_mem _ List.mem_cons_self) | exact Ren.ptr _ _ _ _ _ List.mem_cons_self | (refine Ren.pureR ?_ rfl; (first | rfl | (simp; done) | (simp [AVal.pure, AVal.pures, AObj.pure]; done)))))))) | (refine .one (.pure _ ?_); (first | rfl | (simp; done) | (simp [AVal.pure, AVal.pures, AObj.pure]; done)))); (· first | rfl | (simp; done) | simp [AVal.pure, AVal.pures, AObj.pure]))
  (repeat (first | (apply runk_assignOwn rfl rfl rfl ?_ ?_ ?_; rotate_left 4; (· (conv => (lhs; whnf))); (· (conv => (lhs; whnf; arg 1; whnf)))) | refine runk_end (by kernel_rfl) ?_))
  refine awp_ret ?_
  (apply ends_own rfl ?_ ?_ ?_ ?_ ?_ ?_ ?_ (.inl rfl); rotate_left 5; (· (conv => (lhs; whnf))); (· (conv => (lhs; whnf; arg 1; whnf))); (· rfl); (· first | rfl | (simp; done)); (· first | rfl | (rfl)); (· first | rfl | (simp; done) | (simp [AVal.pure, AVal.pures, AObj.pure]; done)); (· rfl))
end Go.Proofs.YtmbmodeiikhnkaaDoor
