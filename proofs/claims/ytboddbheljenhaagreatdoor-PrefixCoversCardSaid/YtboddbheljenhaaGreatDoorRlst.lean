/-
  Layer 2: the reference's Last.
-/
import Derived.Test.YtboddbheljenhaaGreatDoorG15
import Derived.Test.YtboddbheljenhaaGreatDoorG12
namespace Go.Proofs.YtboddbheljenhaaGreatDoor
open Go.RowKit
theorem sets_step {X k c y : Nat} (hc : c + 1 ≤ k) (e : y = sets X k (c + 1)) : ∀ t, (sets X k c).testBit t = (y.testBit t || decide (t = c)) := fun t => by
  rw [e, sets_bit (by omega), sets_bit hc]
  by_cases h1 : t = c
  · subst h1
    simp [show t < k by omega]
  · have : decide (c ≤ t) = decide (c + 1 ≤ t) := by rw [decide_eq_decide]; omega
    simp [h1, this]
set_option maxHeartbeats 16000000 in
set_option maxRecDepth 100000 in
theorem rlast_spec {v : Bool} {hi lo : Int} (N : Nat) (ao : AOk v hi lo) (hN : N ≤ wiN v) : Spec Tryz.prog 26 [.agg [.val (.bool v), .val (.int .u64 hi), .val (.int .u64 lo), .val (.int .i64 (N : Int))]] [] (.agg [.val (.bool v), .val (.int .u64 (lstH v hi N)), .val (.int .u64 (lstL v lo N))]) [] := by
  obtain ⟨m, X, hm0, hm16, hwm, hX, hXA, rb, rf⟩ := addr_by ao
  have fl := rf (sets X (8 * m - N) 0) (lstH v hi N) (lstL v lo N) (aok_last ao hN) (by
    have f := fst_nA ao hN
    rw [lst_nA ao hN, f, sets_zero, hwm, ← hXA]
    have := Nat.mod_le X (2 ^ (8 * m - N))
    have hp := Nat.two_pow_pos (8 * m - N)
    rw [Int.natCast_add, Int.ofNat_sub this, Int.natCast_emod, Int.ofNat_sub hp, cast_pow]
    rfl)
  clear rf
  generalize lstH v hi N = FH at *
  generalize lstL v lo N = FL at *
  have mx : max 0 (N : Int) = (N : Int) := by omega
  refine spec_of_awp Tryz.func26 rfl (Nat.le_of_ble_eq_true rfl) fun ini => ?_
  simp only [Tryz.ntmps26]
  (repeat (first | refine awp_reg_seq rfl fun k => ?_ | refine awp_seq ?_ | refine awp_isF rfl (by assumption) ?_ | refine awp_block ?_ | (apply runk_made rfl rfl rfl ?_ ?_ ?_ ?_ ?_ ?_ ?_ ?_ ?_; rotate_left 8; (· (conv => (lhs; whnf))); (· exact Tryz.func46); (· rfl); (· rfl); (· exact (rb)); (· (repeat (first | exact Rens.nil | (refine Rens.cons ?_ ?_; (· first | exact Ren.own _ _ _ _ _ _ rfl List.mem_cons_self | exact Ren.own _ _ _ _ _ _ rfl (List.mem_cons_of_mem _ List.mem_cons_self) | (refine (Ren.own _ _ _ _ _ _ ?_ List.mem_cons_self); first | rfl | (simp; done)) | (refine (Ren.own _ _ _ _ _ _ ?_ (List.mem_cons_of_mem _ List.mem_cons_self)); first | rfl | (simp; done)) | exact Ren.ptr _ _ _ _ _ List.mem_cons_self | (refine Ren.pureR ?_ rfl; (first | rfl | (simp; done) | (simp [AVal.pure, AVal.pures, AObj.pure]; done)))))))); (· first | exact .one (.ptr _ _ _ _ _ List.mem_cons_self) | exact .one (.own _ _ _ _ _ _ rfl List.mem_cons_self) | exact .one (.own _ _ _ _ _ _ rfl (List.mem_cons_of_mem _ List.mem_cons_self)) | (apply RenT.tuple; (repeat (first | exact Rens.nil | (apply Rens.cons; (· first | exact Ren.own _ _ _ _ _ _ rfl List.mem_cons_self | exact Ren.own _ _ _ _ _ _ rfl (List.mem_cons_of_mem _ List.mem_cons_self) | exact Ren.ptr _ _ _ _ _ List.mem_cons_self | (refine Ren.pureR ?_ rfl; (first | rfl | (simp; done) | (simp [AVal.pure, AVal.pures, AObj.pure]; done)))))))) | (refine .one (.pure _ ?_); (first | rfl | (simp; done) | (simp [AVal.pure, AVal.pures, AObj.pure]; done)))); (· first | rfl | (simp; done) | simp [AVal.pure, AVal.pures, AObj.pure])) | (apply runk_assignOwn rfl rfl rfl ?_ ?_ ?_; rotate_left 4; (· (conv => (lhs; whnf))); (· (conv => (lhs; whnf; arg 1; whnf)))) | (apply runk0 rfl rfl (opok_assign rfl ?_) ?_; rotate_left 1; (· (conv => (lhs; whnf)))) | (apply runk_fa rfl rfl rfl ?_ rfl rfl ?_ ?_ ?_ ?_; rotate_left 5; (· (conv => (lhs; whnf))); (· (unfold sizeIs; conv => (lhs; whnf; arg 1; whnf))); (· rfl); (· (conv => (lhs; whnf)))) | (first | (apply runk0 rfl rfl (opok_load rfl ?_ ?_ ?_ ?_) ?_; rotate_left 5; (· (conv => (lhs; whnf))); (· (conv => (lhs; whnf; arg 1; whnf; arg 2; whnf))); (· rfl); (· (conv => (lhs; whnf; arg 1; whnf)))) | (apply runk0 rfl rfl (opok_loadR rfl ?_ ?_ ?_) ?_; rotate_left 2; (· (conv => (lhs; whnf))); (· rfl); (· (conv => (lhs; whnf; arg 1; whnf))))) | (apply runk0 rfl rfl (opok_loadA rfl ?_ ?_ ?_ ?_ ?_ ?_) ?_; rotate_left 6; (· (conv => (lhs; whnf))); (· (conv => (lhs; whnf; arg 1; whnf; arg 2; whnf))); (· rfl); (· (unfold sizeIs; conv => (lhs; whnf; arg 1; whnf))); (· (conv => (lhs; repeat (whnf; arg 2)))); (· rfl)) | (apply runk0 rfl rfl (opok_max rfl ?_ ?_) ?_; rotate_left 2; (· (conv => (lhs; whnf))); (· (conv => (lhs; whnf)))) | (apply runk_box rfl rfl rfl ?_ ?_ ?_ ?_; rotate_left 2; (· (conv => (lhs; whnf))); (· rfl); (· (conv => (lhs; whnf)))) | (apply runk_alloc rfl rfl rfl ?_ ?_ ?_; rotate_left 2; (· (conv => (lhs; whnf; arg 1; whnf))); (· (conv => (lhs; whnf)))) | refine runk_end (by kernel_rfl) ?_))
  clear rb
  rename_i k1 k3
  refine awp_loop (fun mm st => ∃ (i : Nat) (kr : Nat), i + mm = 8 * m ∧ N ≤ i ∧ st.leB ⟨[(2, .ptr 2 k1 0), (3, .own 3 kr m), (4, .val (.int .i64 (i : Int)))], [(2, some (k1, .box 24 [.val (.bool false), .val (.int .u64 0), .val (.int .u64 0)])), (3, some (kr, .row 5 1 (ints .u8 (beB m (sets X (8 * m - N) (8 * m - i))))))]⟩) (8 * m - N) ⟨N, k3, by omega, Nat.le_refl _, ?_⟩ ?_
  · rw [sets_top]
    rw [mx]
    (refine leB_of ?_ ?_; (· (repeat (first | exact EnvIs.nil | (refine EnvIs.cons ?_ ?_; (· first | rfl | ((conv => (lhs; whnf)); first | (simp [ints]; done) | (simp [ints]; omega))))))); (· (repeat (first | exact ObjsAre.nil | (refine ObjsAre.cons ?_ ?_; (· first | rfl | ((conv => (lhs; whnf)); first | (simp [ints]; done) | (simp [ints]; omega))))))))
  · rintro mm st ⟨i, kr, him, hNi, hle⟩
    refine awp_less hle ?_
    clear hle st mx
    have wi : IntKind.i64.wrap ((i : Int) + 1) = ((i + 1 : Nat) : Int) := by rw [IntKind.wrap_i64]; omega
    have w8 : IntKind.i64.wrap (8 * (m : Int)) = ((8 * m : Nat) : Int) := by rw [IntKind.wrap_i64]; omega
    (repeat (first | refine awp_reg_seq rfl fun k => ?_ | refine awp_seq ?_ | (apply runk0 rfl rfl (opok_move rfl ?_) ?_; rotate_left 1; (· (conv => (lhs; whnf)))) | (apply runk0 rfl rfl (opok_bin rfl ?_ ?_ ?_) ?_; rotate_left 3; (· (conv => (lhs; whnf))); (· (conv => (lhs; whnf))); (· (intro w; go_simp; first | done | rfl))) | (first | (apply runk0 rfl rfl (opok_lenO rfl ?_ ?_ ?_) ?_; rotate_left 5; (· (conv => (lhs; whnf))); (· (conv => (lhs; whnf; arg 1; whnf))); (· first | exact length_ints _ _ | rfl)) | (apply runk0 rfl rfl (opok_len_own rfl ?_ ?_) ?_; rotate_left 4; (· (conv => (lhs; whnf))); (· (conv => (lhs; whnf; arg 1; whnf)))) | (apply runk0 rfl rfl (opok_len rfl ?_ ?_ ?_) ?_; rotate_left 3; (· (conv => (lhs; whnf))); (· (conv => (lhs; whnf; arg 1; whnf))); (· first | exact length_ints _ _ | rfl))) | refine runk_end (by kernel_rfl) ?_))
    refine awp_if rfl (fun hc => ?_) (fun hc => ?_)
    · have hlt : i < 8 * m := by simp at hc; omega
      clear hc
      obtain ⟨Q, hQ⟩ : ∃ Q, i / 8 = Q := ⟨_, rfl⟩
      obtain ⟨R, hR⟩ : ∃ R, i % 8 = R := ⟨_, rfl⟩
      have hQm : Q < m := by omega
      have hR8 : R < 8 := by omega
      have q1 : (i : Int).tdiv 8 = (Q : Int) := by rw [Int.tdiv_eq_ediv_of_nonneg (by omega)]; omega
      have r1 : (i : Int).tmod 8 = (R : Int) := by rw [Int.tmod_eq_emod_of_nonneg (by omega)]; omega
      have wQ : IntKind.i64.wrap (Q : Int) = (Q : Int) := by rw [IntKind.wrap_i64]; omega
      have wR : IntKind.i64.wrap (R : Int) = (R : Int) := by rw [IntKind.wrap_i64]; omega
      have uR : IntKind.u64.wrap (R : Int) = (R : Int) := by rw [IntKind.wrap_u64]; omega
      have sh := shr128 R hR8
      have hst := beB_set m (sets X (8 * m - N) (8 * m - i)) (sets X (8 * m - N) (8 * m - (i + 1))) i hlt (by
        have := sets_step (X := X) (k := 8 * m - N) (c := 8 * m - (i + 1)) (y := sets X (8 * m - N) (8 * m - i)) (by omega) (by rw [show 8 * m - (i + 1) + 1 = 8 * m - i by omega])
        rw [show 8 * m - 1 - i = 8 * m - (i + 1) by omega]
        exact this)
      have hg := beB_get m (sets X (8 * m - N) (8 * m - i)) Q hQm
      rw [hQ, hR] at hst
      obtain ⟨b, hb⟩ : ∃ b : Nat, sets X (8 * m - N) (8 * m - i) / 256 ^ (m - 1 - Q) % 256 = b := ⟨_, rfl⟩
      have hb256 : b < 256 := by omega
      rw [hb] at hst hg
      have hx : (ints .u8 (beB m (sets X (8 * m - N) (8 * m - i))))[Q]? = some (.val (.int .u8 (b : Int))) := by rw [ints_get, hg]; rfl
      have hp7 : 2 ^ (7 - R) < 256 := by
        have : (2 : Nat) ^ (7 - R) ≤ 2 ^ 7 := Nat.pow_le_pow_right (by decide) (by omega)
        have e : (2 : Nat) ^ 7 = 128 := by decide
        omega
      have an := u8_or_nat b (2 ^ (7 - R)) hb256 hp7
      have hln : (beB m (sets X (8 * m - N) (8 * m - i))).length = m := beB_length _ _
      obtain ⟨c, hc⟩ : ∃ c : Nat, b ||| 2 ^ (7 - R) = c := ⟨_, rfl⟩
      rw [hc] at hst an
      generalize 2 ^ (7 - R) = pw at *
      generalize beB m (sets X (8 * m - N) (8 * m - i)) = B0 at *
      obtain ⟨j, hj⟩ : ∃ j, i + 1 = j := ⟨_, rfl⟩
      rw [hj] at wi hst
      clear hb hg hQ hR
      (repeat (first | refine awp_reg rfl fun k => ?_ | refine awp_seq ?_ | refine awp_skip (?_ : Awp _ _ _ _ _ _) | refine awp_block ?_ | (apply runk0 rfl rfl (opok_move rfl ?_) ?_; rotate_left 1; (· (conv => (lhs; whnf)))) | (apply runk0 rfl rfl (opok_assign rfl ?_) ?_; rotate_left 1; (· (conv => (lhs; whnf)))) | (apply runk0 rfl rfl (opok_bin rfl ?_ ?_ ?_) ?_; rotate_left 3; (· (conv => (lhs; whnf))); (· (conv => (lhs; whnf))); (· (intro w; go_simp; first | done | rfl))) | (apply runk0 rfl rfl (opok_conv rfl ?_ ?_) ?_; rotate_left 2; (· (conv => (lhs; whnf))); (· (intro w; go_simp; first | done | rfl))) | (apply runk0 rfl rfl (opok_index_own rfl ?_ ?_ ?_ ?_ ?_ ?_ ?_ ?_) ?_; rotate_left 10; (· (conv => (lhs; whnf))); (· (conv => (lhs; whnf; arg 1; whnf; arg 2; whnf))); (· (conv => (lhs; whnf))); (· (conv => (lhs; whnf; arg 1; whnf))); (· (unfold sizeIs; conv => (lhs; whnf; arg 1; whnf))); (· first | omega | (simp; done) | (simp; omega)); (· first | omega | (simp; done) | (simp; omega)); (· first | rfl | (simp; done) | (simp; omega))) | refine runk_end (by kernel_rfl) ?_ | (apply runk0 rfl rfl (opok_elem _ rfl ?_ ?_ ?_ ?_ ?_ ?_ ?_ ?_) ?_; rotate_left 8; (· (conv => (lhs; whnf))); (· (conv => (lhs; whnf; arg 1; whnf; arg 2; whnf))); (· rfl); (· rfl); (· first | rfl | exact widths_ints _ _ | simp [widths, AVal.flat]); (· rfl); (· first | assumption | (simp only [Int.toNat_natCast]; assumption) | (simp only [Int.reduceToNat]; assumption)); (· rfl)) | (apply runk_setN rfl rfl rfl ?_ ?_ ?_ ?_ ?_ ?_ ?_; rotate_left 8; (· (conv => (lhs; whnf))); (· (conv => (lhs; whnf))); (· rfl); (· (unfold sizeIs; conv => (lhs; whnf; arg 1; whnf))); (· first | (simp only [Int.toNat_natCast, Nat.mul_one, Int.reduceToNat]; done) | (simp only [Int.toNat_natCast, Nat.mul_one, Int.reduceToNat]; rfl) | rfl); (· first | omega | (simp; done) | (simp; omega)))))
      exact ⟨mm - 1, by omega, j, kr, by omega, by omega, by rw [← hst]; (refine leB_of ?_ ?_; (· (repeat (first | exact EnvIs.nil | (refine EnvIs.cons ?_ ?_; (· first | rfl | ((conv => (lhs; whnf)); first | (simp [ints]; done) | (simp [ints]; omega))))))); (· (repeat (first | exact ObjsAre.nil | (refine ObjsAre.cons ?_ ?_; (· first | rfl | ((conv => (lhs; whnf)); first | (simp [ints]; done) | (simp [ints]; omega))))))))⟩
    · have hie : i = 8 * m := by simp at hc; omega
      subst hie
      rw [show 8 * m - 8 * m = 0 by omega]
      (repeat (first | refine awp_reg_seq rfl fun k => ?_ | refine awp_exit (?_ : Awp _ _ _ _ _ _) | (refine awp_ret ?_; (apply ends_pure ?_ ?_ ?_ ?_ ?_ (.inl rfl); rotate_left 1; (· first | exact res_one rfl rfl | exact res_two rfl rfl rfl | exact res_none rfl | exact res_three rfl rfl rfl rfl | exact res_cell rfl rfl rfl rfl rfl | exact res_cell2 rfl rfl rfl rfl rfl rfl | exact res3 rfl (rv_cell rfl rfl rfl rfl) (rv_tmp rfl) (rv_tmp rfl) | exact res3 rfl (rv_cell rfl rfl rfl rfl) (rv_cell rfl rfl rfl rfl) (rv_cell rfl rfl rfl rfl)); (· first | rfl | ((conv => (lhs; whnf)); first | rfl | (simp; done))); (· first | rfl | (simp; done) | (simp [AVal.pure, AVal.pures, AObj.pure]; done)); (· rfl); (· rfl))) | (apply runk_with rfl rfl rfl ?_ ?_ ?_ ?_ ?_ ?_ ?_ ?_ ?_ ?_ ?_; rotate_left 10; (· (conv => (lhs; whnf))); (· exact Tryz.func47); (· rfl); (· rfl); (· exact (fl)); (· (repeat (first | exact Rens.nil | (refine Rens.cons ?_ ?_; (· first | exact Ren.own _ _ _ _ _ _ rfl List.mem_cons_self | exact Ren.own _ _ _ _ _ _ rfl (List.mem_cons_of_mem _ List.mem_cons_self) | (refine (Ren.own _ _ _ _ _ _ ?_ List.mem_cons_self); first | rfl | (simp; done)) | (refine (Ren.own _ _ _ _ _ _ ?_ (List.mem_cons_of_mem _ List.mem_cons_self)); first | rfl | (simp; done)) | exact Ren.ptr _ _ _ _ _ List.mem_cons_self | (refine Ren.pureR ?_ rfl; (first | rfl | (simp; done) | (simp [AVal.pure, AVal.pures, AObj.pure]; done)))))))); (· rfl); (· first | rfl | (simp; done) | simp [AVal.pure, AVal.pures, AObj.pure]); (· first | rfl | (simp; done) | simp [AVal.pure, AVal.pures, AObj.pure]); (· first | rfl | (simp; done) | simp [AVal.pure, AVal.pures, AObj.pure])) | (apply runk0 rfl rfl (opok_move rfl ?_) ?_; rotate_left 1; (· (conv => (lhs; whnf)))) | (apply runk0 rfl rfl (opok_assign rfl ?_) ?_; rotate_left 1; (· (conv => (lhs; whnf)))) | (apply runk0 rfl rfl (opok_loadA rfl ?_ ?_ ?_ ?_ ?_ ?_) ?_; rotate_left 6; (· (conv => (lhs; whnf))); (· (conv => (lhs; whnf; arg 1; whnf; arg 2; whnf))); (· rfl); (· (unfold sizeIs; conv => (lhs; whnf; arg 1; whnf))); (· (conv => (lhs; repeat (whnf; arg 2)))); (· rfl)) | (apply runk0 rfl rfl (opok_extract rfl ?_ ?_) ?_; rotate_left 2; (· (conv => (lhs; whnf))); (· (conv => (lhs; whnf; arg 1; whnf)))) | (apply runk_alloc rfl rfl rfl ?_ ?_ ?_; rotate_left 2; (· (conv => (lhs; whnf; arg 1; whnf))); (· (conv => (lhs; whnf)))) | (apply runk_store rfl rfl rfl ?_ ?_ ?_ ?_ ?_ ?_ ?_ ?_ ?_ ?_ ?_; rotate_left 9; (· (conv => (lhs; whnf))); (· (conv => (lhs; whnf))); (· (conv => (lhs; whnf; arg 1; whnf; arg 2; whnf))); (· rfl); (· (conv => (lhs; whnf))); (· rfl); (· (unfold sizeIs; conv => (lhs; whnf; arg 1; whnf))); (· rfl); (· rfl); (· (conv => (lhs; repeat (whnf; arg 2))))) | refine runk_end (by kernel_rfl) ?_))
end Go.Proofs.YtboddbheljenhaaGreatDoor
