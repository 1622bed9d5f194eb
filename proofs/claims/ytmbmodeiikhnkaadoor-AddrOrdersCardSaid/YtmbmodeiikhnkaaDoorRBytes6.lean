/-
  The bytes of an address with V6, of the reference, by states.
-/
import Derived.Test.YtmbmodeiikhnkaaDoorBytes6
namespace Go.Proofs.YtmbmodeiikhnkaaDoor
open Go.RowKit
def t16 (hi lo : Int) (m : Nat) : List Int := (a16 hi lo).take (16 - m)
@[simp] theorem t16_length (hi lo : Int) (m : Nat) : (t16 hi lo m).length = 16 - m := by simp [t16]
theorem t16_step (hi lo : Int) (i : Nat) (h : i < 16) : t16 hi lo (i + 1) ++ [(if 8 ≤ i then hi else lo) / 256 ^ (i % 8) % 256] = t16 hi lo i := by
  have : i = 0 ∨ i = 1 ∨ i = 2 ∨ i = 3 ∨ i = 4 ∨ i = 5 ∨ i = 6 ∨ i = 7 ∨ i = 8 ∨ i = 9 ∨ i = 10 ∨ i = 11 ∨ i = 12 ∨ i = 13 ∨ i = 14 ∨ i = 15 := by omega
  rcases this with rfl | rfl | rfl | rfl | rfl | rfl | rfl | rfl | rfl | rfl | rfl | rfl | rfl | rfl | rfl | rfl <;> simp [t16, a16, by8, List.range_succ]
set_option maxHeartbeats 8000000 in
set_option maxRecDepth 100000 in
theorem rbytes_v6 (hi lo : Int) : Spec Tryd.prog 15 [.agg [.val (.bool true), .val (.int .u64 hi), .val (.int .u64 lo)]] [] (.own 1000 0 16) [(1000, some (0, .row 5 1 (ints .u8 (a16 hi lo))))] := by
  refine spec_of_awp Tryd.func15 rfl (Nat.le_of_ble_eq_true rfl) fun ini => ?_
  simp only [Tryd.ntmps15]
  refine awp_reg_seq rfl fun k1 => ?_
  (repeat (first | (apply runk0 rfl rfl (opok_assign rfl ?_) ?_; rotate_left 1; (· (conv => (lhs; whnf)))) | (apply runk_box rfl rfl rfl ?_ ?_ ?_ ?_; rotate_left 2; (· (conv => (lhs; whnf))); (· rfl); (· (conv => (lhs; whnf)))) | refine runk_end (by kernel_rfl) ?_))
  refine awp_seq ?_
  refine awp_reg_seq rfl fun k2 => ?_
  (repeat (first | (apply runk0 rfl rfl (opok_loadA rfl ?_ ?_ ?_ ?_ ?_ ?_) ?_; rotate_left 6; (· (conv => (lhs; whnf))); (· (conv => (lhs; whnf; arg 1; whnf; arg 2; whnf))); (· rfl); (· (unfold sizeIs; conv => (lhs; whnf; arg 1; whnf))); (· (conv => (lhs; repeat (whnf; arg 2)))); (· rfl))))
  (apply runk_pure rfl rfl rfl ?_ ?_ ?_ ?_ ?_ ?_ ?_ ?_; rotate_left 6; (· (conv => (lhs; whnf))); (· exact Tryd.func13); (· rfl); (· rfl); (· exact (rvalid_v6 hi lo)); (· (repeat (first | exact Rens.nil | (refine Rens.cons ?_ ?_; (· first | exact Ren.own _ _ _ _ _ _ rfl List.mem_cons_self | exact Ren.own _ _ _ _ _ _ rfl (List.mem_cons_of_mem _ List.mem_cons_self) | (refine (Ren.own _ _ _ _ _ _ ?_ List.mem_cons_self); first | rfl | (simp; done)) | (refine (Ren.own _ _ _ _ _ _ ?_ (List.mem_cons_of_mem _ List.mem_cons_self)); first | rfl | (simp; done)) | exact Ren.ptr _ _ _ _ _ List.mem_cons_self | (refine Ren.pureR ?_ rfl; (first | rfl | (simp; done) | (simp [AVal.pure, AVal.pures, AObj.pure]; done)))))))); (· first | rfl | (simp; done) | simp [AVal.pure, AVal.pures, AObj.pure]))
  (repeat (first | (apply runk0 rfl rfl (opok_un rfl ?_ ?_) ?_; rotate_left 2; (· (conv => (lhs; whnf))); (· (intro w; go_simp; first | done | rfl))) | refine runk_end (by kernel_rfl) ?_))
  refine awp_false rfl ?_
  refine awp_skip (?_ : Awp _ _ _ _ _ _)
  refine awp_reg_seq rfl fun k3 => ?_
  (repeat (first | (apply runk0 rfl rfl (opok_assign rfl ?_) ?_; rotate_left 1; (· (conv => (lhs; whnf)))) | refine runk_end (by kernel_rfl) ?_))
  refine awp_seq ?_
  refine awp_reg_seq rfl fun k4 => ?_
  (repeat (first | (apply runk_fa rfl rfl rfl ?_ rfl rfl ?_ ?_ ?_ ?_; rotate_left 5; (· (conv => (lhs; whnf))); (· (unfold sizeIs; conv => (lhs; whnf; arg 1; whnf))); (· rfl); (· (conv => (lhs; whnf)))) | (first | (apply runk0 rfl rfl (opok_load rfl ?_ ?_ ?_ ?_) ?_; rotate_left 5; (· (conv => (lhs; whnf))); (· (conv => (lhs; whnf; arg 1; whnf; arg 2; whnf))); (· rfl); (· (conv => (lhs; whnf; arg 1; whnf)))) | (apply runk0 rfl rfl (opok_loadR rfl ?_ ?_ ?_) ?_; rotate_left 2; (· (conv => (lhs; whnf))); (· rfl); (· (conv => (lhs; whnf; arg 1; whnf))))) | refine runk_end (by kernel_rfl) ?_))
  refine awp_true rfl ?_
  refine awp_reg rfl fun k5 => ?_
  (repeat (first | (apply runk0 rfl rfl (opok_assign rfl ?_) ?_; rotate_left 1; (· (conv => (lhs; whnf)))) | refine runk_end (by kernel_rfl) ?_))
  show Awp _ _ _ _ _ _
  refine awp_reg_seq rfl fun k6 => ?_
  (repeat (first | (apply runk0 rfl rfl (opok_assign rfl ?_) ?_; rotate_left 1; (· (conv => (lhs; whnf)))) | refine runk_end (by kernel_rfl) ?_))
  refine awp_seq ?_
  refine awp_reg_seq rfl fun k7 => ?_
  (repeat (first | (apply runk0 rfl rfl (opok_move rfl ?_) ?_; rotate_left 1; (· (conv => (lhs; whnf)))) | (apply runk0 rfl rfl (opok_assign rfl ?_) ?_; rotate_left 1; (· (conv => (lhs; whnf)))) | (apply runk0 rfl rfl (opok_bin rfl ?_ ?_ ?_) ?_; rotate_left 3; (· (conv => (lhs; whnf))); (· (conv => (lhs; whnf))); (· (intro w; go_simp; first | done | rfl))) | refine runk_end (by kernel_rfl) ?_))
  refine awp_adopt 4 4 5 1 rfl fun k8 => ?_
  refine awp_block ?_
  refine awp_loop (fun m st => m ≤ 16 ∧ ∃ kb, st.leB ⟨[(1, .ptr 1 k1 0), (4, .own 4 kb (16 - m)), (5, .val (.int .i64 ((m : Int) - 1)))], [(1, some (k1, .box 24 [.val (.bool true), .val (.int .u64 hi), .val (.int .u64 lo)])), (4, some (kb, .row 5 1 (ints .u8 (t16 hi lo m))))]⟩) 16 ⟨Nat.le_refl _, k8, ?_⟩ ?_
  · have e : t16 hi lo 16 = [] := by simp [t16]
    (refine leB_of ?_ ?_; (· (repeat (first | exact EnvIs.nil | (refine EnvIs.cons ?_ ?_; (· first | rfl | ((conv => (lhs; whnf)); first | (simp [ints, e, IntKind.wrap_i64]; done) | (simp [ints, e, IntKind.wrap_i64]; omega))))))); (· (repeat (first | exact ObjsAre.nil | (refine ObjsAre.cons ?_ ?_; (· first | rfl | ((conv => (lhs; whnf)); first | (simp [ints, e, IntKind.wrap_i64]; done) | (simp [ints, e, IntKind.wrap_i64]; omega))))))))
  · rintro m st ⟨hm, kb, hle⟩
    refine awp_less hle ?_
    clear hle st
    refine awp_seq ?_
    refine awp_reg_seq rfl fun c1 => ?_
    (repeat (first | (apply runk0 rfl rfl (opok_move rfl ?_) ?_; rotate_left 1; (· (conv => (lhs; whnf)))) | (apply runk0 rfl rfl (opok_bin rfl ?_ ?_ ?_) ?_; rotate_left 3; (· (conv => (lhs; whnf))); (· (conv => (lhs; whnf))); (· (intro w; go_simp; first | done | rfl))) | refine runk_end (by kernel_rfl) ?_))
    refine awp_cond _ rfl (fun hc => ?_) (fun hc => ?_)
    · have hm0 : 0 < m := by simp at hc; omega
      obtain ⟨i, rfl⟩ : ∃ i, m = i + 1 := ⟨m - 1, by omega⟩
      have hstep := t16_step hi lo i (by omega)
      have e0 : ((i + 1 : Nat) : Int) - 1 = (i : Int) := by omega
      rw [e0]
      clear hc
      have hr : (i : Int).tmod 8 = ((i % 8 : Nat) : Int) := by rw [Int.tmod_eq_emod_of_nonneg (by omega)]; omega
      have hr8 : i % 8 < 8 := by omega
      generalize i % 8 = r at hstep hr hr8
      have hw0 : IntKind.u64.wrap (r : Int) = (r : Int) := by simp only [IntKind.wrap, IntKind.bits, IntKind.signed]; simp; omega
      have hw1 : IntKind.u64.wrap (8 * (r : Int)) = 8 * (r : Int) := by simp only [IntKind.wrap, IntKind.bits, IntKind.signed]; simp; omega
      have hw2 : IntKind.i64.wrap ((i : Int) - 1) = (i : Int) - 1 := by rw [IntKind.wrap_i64]; omega
      have hb8 : ∀ X : Int, IntKind.u8.wrap (X / 2 ^ (8 * (r : Int)).toNat) = X / 256 ^ r % 256 := fun X => by
        have e : (8 * (r : Int)).toNat = 8 * r := by omega
        rw [IntKind.wrap_u8, e, Int.pow_mul]; rfl
      have h64 : min (8 * (r : Int)).toNat 64 = (8 * (r : Int)).toNat := by omega
      refine awp_skip (?_ : Awp _ _ _ _ _ _)
      refine awp_seq (awp_block ?_)
      refine awp_reg_seq rfl fun c2 => ?_
      (repeat (first | (apply runk0 rfl rfl (opok_assign rfl ?_) ?_; rotate_left 1; (· (conv => (lhs; whnf)))) | (apply runk_fa rfl rfl rfl ?_ rfl rfl ?_ ?_ ?_ ?_; rotate_left 5; (· (conv => (lhs; whnf))); (· (unfold sizeIs; conv => (lhs; whnf; arg 1; whnf))); (· rfl); (· (conv => (lhs; whnf)))) | (first | (apply runk0 rfl rfl (opok_load rfl ?_ ?_ ?_ ?_) ?_; rotate_left 5; (· (conv => (lhs; whnf))); (· (conv => (lhs; whnf; arg 1; whnf; arg 2; whnf))); (· rfl); (· (conv => (lhs; whnf; arg 1; whnf)))) | (apply runk0 rfl rfl (opok_loadR rfl ?_ ?_ ?_) ?_; rotate_left 2; (· (conv => (lhs; whnf))); (· rfl); (· (conv => (lhs; whnf; arg 1; whnf))))) | refine runk_end (by kernel_rfl) ?_))
      refine awp_seq ?_
      refine awp_reg_seq rfl fun c3 => ?_
      (repeat (first | (apply runk0 rfl rfl (opok_move rfl ?_) ?_; rotate_left 1; (· (conv => (lhs; whnf)))) | (apply runk0 rfl rfl (opok_bin rfl ?_ ?_ ?_) ?_; rotate_left 3; (· (conv => (lhs; whnf))); (· (conv => (lhs; whnf))); (· (intro w; go_simp; first | done | rfl))) | refine runk_end (by kernel_rfl) ?_))
      by_cases h8 : 8 ≤ i
      · rw [if_pos h8] at hstep
        have hd : decide ((8 : Int) ≤ (i : Int)) = true := by simp; omega
        rw [hd]
        refine awp_true rfl ?_
        refine awp_reg rfl fun c4 => ?_
        (repeat (first | (apply runk0 rfl rfl (opok_assign rfl ?_) ?_; rotate_left 1; (· (conv => (lhs; whnf)))) | (apply runk_fa rfl rfl rfl ?_ rfl rfl ?_ ?_ ?_ ?_; rotate_left 5; (· (conv => (lhs; whnf))); (· (unfold sizeIs; conv => (lhs; whnf; arg 1; whnf))); (· rfl); (· (conv => (lhs; whnf)))) | (first | (apply runk0 rfl rfl (opok_load rfl ?_ ?_ ?_ ?_) ?_; rotate_left 5; (· (conv => (lhs; whnf))); (· (conv => (lhs; whnf; arg 1; whnf; arg 2; whnf))); (· rfl); (· (conv => (lhs; whnf; arg 1; whnf)))) | (apply runk0 rfl rfl (opok_loadR rfl ?_ ?_ ?_) ?_; rotate_left 2; (· (conv => (lhs; whnf))); (· rfl); (· (conv => (lhs; whnf; arg 1; whnf))))) | refine runk_end (by kernel_rfl) ?_))
        show Awp _ _ _ _ _ _
        refine awp_reg rfl fun c5 => ?_
        (repeat (first | (apply runk0 rfl rfl (opok_move rfl ?_) ?_; rotate_left 1; (· (conv => (lhs; whnf)))) | (apply runk0 rfl rfl (opok_bin rfl ?_ ?_ ?_) ?_; rotate_left 3; (· (conv => (lhs; whnf))); (· (conv => (lhs; whnf))); (· (intro w; go_simp; first | done | rfl))) | (apply runk0 rfl rfl (opok_conv rfl ?_ ?_) ?_; rotate_left 2; (· (conv => (lhs; whnf))); (· (intro w; go_simp; first | done | rfl))) | (apply runk_lit rfl rfl rfl ?_ ?_ ?_ ?_ ?_ ?_ ?_ ?_ ?_ ?_ ?_; rotate_left 4; (· (conv => (lhs; whnf; arg 1; whnf))); (· (unfold sizeIs; conv => (lhs; whnf; arg 1; whnf))); (· (conv => (lhs; whnf; arg 1; whnf))); (· rfl); (· rfl); (· rfl); (· rfl); (· (repeat (first | exact PartsAre.nil _ | (apply PartsAre.cons; (· (conv => (lhs; whnf))))))); (· first | rfl | exact one_ints _ _ | exact widths_ints _ _ | simp); (· first | rfl | exact one_ints _ _ | exact widths_ints _ _ | simp))))
        (apply runk_app rfl rfl rfl ?_ ?_ ?_ ?_ ?_ ?_ ?_ ?_ ?_ ?_ ?_ ?_ ?_ ?_ ?_ ?_; rotate_left 11; (· (conv => (lhs; whnf))); (· (conv => (lhs; whnf))); (· (conv => (lhs; whnf; arg 1; whnf))); (· (unfold sizeIs; conv => (lhs; whnf; arg 1; whnf))); (· (conv => (lhs; whnf; arg 1; whnf))); (· (conv => (lhs; whnf; arg 1; whnf))); (· rfl); (· rfl); (· rfl); (· first | exact .nil | (refine .own _ _ _ _ rfl ?_; first | rfl | (simp; done)) | (refine .pre _ _ _ _ rfl ?_ ?_; (· first | omega | (simp; done) | (simp; omega)); (· first | exact widths_ints _ _ | rfl | (simp; done)))); (· first | exact .ro _ | (refine .own _ _ _ _ _ _ rfl ?_; first | rfl | (simp; done)) | exact .nil | (refine .pre _ _ _ _ _ _ rfl ?_ ?_; (· first | omega | (simp; done) | (simp; omega)); (· first | exact widths_ints _ _ | rfl | (simp; done))) | (refine .sub _ _ _ _ _ _ _ rfl ?_ ?_; (· first | omega | (simp; done) | (simp; omega)); (· first | exact widths_ints _ _ | rfl | (simp; done)))); (· first | rfl | exact one_ints _ _ | exact widths_ints _ _ | simp); (· first | rfl | exact one_ints _ _ | exact widths_ints _ _ | simp); (· simp; omega); (· first | (simp only [ints_one, ints_consR, ints_append]; done) | (simp only [ints_one, ints_consR, ints_append]; rfl) | rfl))
        rw [hstep]
        (repeat (first | (apply runk_assignOwn rfl rfl rfl ?_ ?_ ?_; rotate_left 4; (· (conv => (lhs; whnf))); (· (conv => (lhs; whnf; arg 1; whnf)))) | refine runk_end (by kernel_rfl) ?_))
        show Awp _ _ _ _ _ _
        refine awp_reg rfl fun c6 => ?_
        (repeat (first | (apply runk0 rfl rfl (opok_move rfl ?_) ?_; rotate_left 1; (· (conv => (lhs; whnf)))) | (apply runk0 rfl rfl (opok_assign rfl ?_) ?_; rotate_left 1; (· (conv => (lhs; whnf)))) | (apply runk0 rfl rfl (opok_bin rfl ?_ ?_ ?_) ?_; rotate_left 3; (· (conv => (lhs; whnf))); (· (conv => (lhs; whnf))); (· (intro w; go_simp; first | done | rfl))) | refine runk_end (by kernel_rfl) ?_))
        refine ⟨i, by omega, by omega, c5, ?_⟩
        (refine leB_of ?_ ?_; (· (repeat (first | exact EnvIs.nil | (refine EnvIs.cons ?_ ?_; (· first | rfl | ((conv => (lhs; whnf)); first | (simp [ints]; done) | (simp [ints]; omega))))))); (· (repeat (first | exact ObjsAre.nil | (refine ObjsAre.cons ?_ ?_; (· first | rfl | ((conv => (lhs; whnf)); first | (simp [ints]; done) | (simp [ints]; omega))))))))
      · rw [if_neg h8] at hstep
        have hd : decide ((8 : Int) ≤ (i : Int)) = false := by simp; omega
        rw [hd]
        refine awp_false rfl ?_
        refine awp_skip (?_ : Awp _ _ _ _ _ _)
        refine awp_reg rfl fun c5 => ?_
        (repeat (first | (apply runk0 rfl rfl (opok_move rfl ?_) ?_; rotate_left 1; (· (conv => (lhs; whnf)))) | (apply runk0 rfl rfl (opok_bin rfl ?_ ?_ ?_) ?_; rotate_left 3; (· (conv => (lhs; whnf))); (· (conv => (lhs; whnf))); (· (intro w; go_simp; first | done | rfl))) | (apply runk0 rfl rfl (opok_conv rfl ?_ ?_) ?_; rotate_left 2; (· (conv => (lhs; whnf))); (· (intro w; go_simp; first | done | rfl))) | (apply runk_lit rfl rfl rfl ?_ ?_ ?_ ?_ ?_ ?_ ?_ ?_ ?_ ?_ ?_; rotate_left 4; (· (conv => (lhs; whnf; arg 1; whnf))); (· (unfold sizeIs; conv => (lhs; whnf; arg 1; whnf))); (· (conv => (lhs; whnf; arg 1; whnf))); (· rfl); (· rfl); (· rfl); (· rfl); (· (repeat (first | exact PartsAre.nil _ | (apply PartsAre.cons; (· (conv => (lhs; whnf))))))); (· first | rfl | exact one_ints _ _ | exact widths_ints _ _ | simp); (· first | rfl | exact one_ints _ _ | exact widths_ints _ _ | simp))))
        (apply runk_app rfl rfl rfl ?_ ?_ ?_ ?_ ?_ ?_ ?_ ?_ ?_ ?_ ?_ ?_ ?_ ?_ ?_ ?_; rotate_left 11; (· (conv => (lhs; whnf))); (· (conv => (lhs; whnf))); (· (conv => (lhs; whnf; arg 1; whnf))); (· (unfold sizeIs; conv => (lhs; whnf; arg 1; whnf))); (· (conv => (lhs; whnf; arg 1; whnf))); (· (conv => (lhs; whnf; arg 1; whnf))); (· rfl); (· rfl); (· rfl); (· first | exact .nil | (refine .own _ _ _ _ rfl ?_; first | rfl | (simp; done)) | (refine .pre _ _ _ _ rfl ?_ ?_; (· first | omega | (simp; done) | (simp; omega)); (· first | exact widths_ints _ _ | rfl | (simp; done)))); (· first | exact .ro _ | (refine .own _ _ _ _ _ _ rfl ?_; first | rfl | (simp; done)) | exact .nil | (refine .pre _ _ _ _ _ _ rfl ?_ ?_; (· first | omega | (simp; done) | (simp; omega)); (· first | exact widths_ints _ _ | rfl | (simp; done))) | (refine .sub _ _ _ _ _ _ _ rfl ?_ ?_; (· first | omega | (simp; done) | (simp; omega)); (· first | exact widths_ints _ _ | rfl | (simp; done)))); (· first | rfl | exact one_ints _ _ | exact widths_ints _ _ | simp); (· first | rfl | exact one_ints _ _ | exact widths_ints _ _ | simp); (· simp; omega); (· first | (simp only [ints_one, ints_consR, ints_append]; done) | (simp only [ints_one, ints_consR, ints_append]; rfl) | rfl))
        rw [hstep]
        (repeat (first | (apply runk_assignOwn rfl rfl rfl ?_ ?_ ?_; rotate_left 4; (· (conv => (lhs; whnf))); (· (conv => (lhs; whnf; arg 1; whnf)))) | refine runk_end (by kernel_rfl) ?_))
        show Awp _ _ _ _ _ _
        refine awp_reg rfl fun c6 => ?_
        (repeat (first | (apply runk0 rfl rfl (opok_move rfl ?_) ?_; rotate_left 1; (· (conv => (lhs; whnf)))) | (apply runk0 rfl rfl (opok_assign rfl ?_) ?_; rotate_left 1; (· (conv => (lhs; whnf)))) | (apply runk0 rfl rfl (opok_bin rfl ?_ ?_ ?_) ?_; rotate_left 3; (· (conv => (lhs; whnf))); (· (conv => (lhs; whnf))); (· (intro w; go_simp; first | done | rfl))) | refine runk_end (by kernel_rfl) ?_))
        refine ⟨i, by omega, by omega, c5, ?_⟩
        (refine leB_of ?_ ?_; (· (repeat (first | exact EnvIs.nil | (refine EnvIs.cons ?_ ?_; (· first | rfl | ((conv => (lhs; whnf)); first | (simp [ints]; done) | (simp [ints]; omega))))))); (· (repeat (first | exact ObjsAre.nil | (refine ObjsAre.cons ?_ ?_; (· first | rfl | ((conv => (lhs; whnf)); first | (simp [ints]; done) | (simp [ints]; omega))))))))
    · have hm0 : m = 0 := by simp at hc; omega
      subst hm0
      have e : t16 hi lo 0 = a16 hi lo := by unfold t16; exact List.take_of_length_le (by simp)
      rw [e]
      refine awp_exit (?_ : Awp _ _ _ _ _ _)
      refine awp_reg_seq rfl fun c5 => ?_
      (repeat (first | (apply runk0 rfl rfl (opok_move rfl ?_) ?_; rotate_left 1; (· (conv => (lhs; whnf)))) | (apply runk_assignOwn rfl rfl rfl ?_ ?_ ?_; rotate_left 4; (· (conv => (lhs; whnf))); (· (conv => (lhs; whnf; arg 1; whnf)))) | refine runk_end (by kernel_rfl) ?_))
      refine awp_ret ?_
      (apply ends_own rfl ?_ ?_ ?_ ?_ ?_ ?_ ?_ (.inl rfl); rotate_left 5; (· (conv => (lhs; whnf))); (· (conv => (lhs; whnf; arg 1; whnf))); (· rfl); (· first | rfl | (simp; done)); (· first | rfl | (rfl)); (· first | rfl | (simp; done) | (simp [AVal.pure, AVal.pures, AObj.pure]; done)); (· rfl))
end Go.Proofs.YtmbmodeiikhnkaaDoor
