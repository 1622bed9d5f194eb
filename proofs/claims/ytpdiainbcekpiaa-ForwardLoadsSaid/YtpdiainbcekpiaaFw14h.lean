/-
  Layer 14: the number that two addresses determine, of both, by states.
-/
import Derived.Test.YtpdiainbcekpiaaFb13b
import Derived.Test.YtpdiainbcekpiaaAbsFull
namespace Go.Proofs.Ytpdiainbcekpiaa
open Go.RowKit
def hsN (l : List Int) : Nat → Int
  | 0 => 0
  | j + 1 => hsN l j + ((j : Int) + 1) * l.getD j 0
theorem hsN_bd {l : List Int} (h : ∀ z ∈ l, 0 ≤ z ∧ z < 256) : ∀ j, j ≤ 12 → 0 ≤ hsN l j ∧ hsN l j ≤ j * 3072
  | 0, _ => by simp [hsN]
  | j + 1, hj => by
    have ih := hsN_bd h j (by omega)
    have hz : 0 ≤ l.getD j 0 ∧ l.getD j 0 < 256 := by
      by_cases hl : j < l.length
      · have : l.getD j 0 ∈ l := by
          rw [List.getD_eq_getElem?_getD, List.getElem?_eq_getElem hl]
          exact List.getElem_mem hl
        exact h _ this
      · rw [List.getD_eq_getElem?_getD, List.getElem?_eq_none (by omega)]
        simp
    have h1 : ((j : Int) + 1) * l.getD j 0 ≤ 12 * 256 := Int.mul_le_mul (by omega) (by omega) hz.1 (by omega)
    have h2 : 0 ≤ ((j : Int) + 1) * l.getD j 0 := Int.mul_nonneg (by omega) hz.1
    unfold hsN
    omega
set_option maxHeartbeats 8000000 in
set_option maxRecDepth 100000 in
theorem hash_spec (a b : List Int) (ha : a.length = 6) (hb : b.length = 6) (h : ∀ z ∈ a ++ b, 0 ≤ z ∧ z < 256) : Spec Try.prog 13 [.agg (ints .u8 a), .agg (ints .u8 b)] [] (.val (.int .i64 (hsN (a ++ b) 12 % 65521))) [] := by
  have hbd := fun j hj => hsN_bd h j hj
  have hS : ∀ j, hsN (a ++ b) (j + 1) = hsN (a ++ b) j + ((j : Int) + 1) * (a ++ b).getD j 0 := fun j => rfl
  have h0 : hsN (a ++ b) 0 = 0 := rfl
  have hl : (a ++ b).length = 12 := by rw [List.length_append]; omega
  have hz : ∀ j, j < 12 → 0 ≤ (a ++ b).getD j 0 ∧ (a ++ b).getD j 0 < 256 := fun j hj => by
    rw [List.getD_eq_getElem?_getD, List.getElem?_eq_getElem (by omega)]
    exact h _ (List.getElem_mem (by omega))
  have hga : ints .u8 a ++ ints .u8 b = ints .u8 (a ++ b) := by simp [ints]
  generalize hL : a ++ b = L at *
  generalize hsN L = S at *
  obtain ⟨a0, a1, a2, a3, a4, a5, rfl⟩ : ∃ a0 a1 a2 a3 a4 a5 : Int, a = [a0, a1, a2, a3, a4, a5] := by
    match a, ha with
    | [a0, a1, a2, a3, a4, a5], _ => exact ⟨a0, a1, a2, a3, a4, a5, rfl⟩
  obtain ⟨b0, b1, b2, b3, b4, b5, rfl⟩ : ∃ a0 a1 a2 a3 a4 a5 : Int, b = [a0, a1, a2, a3, a4, a5] := by
    match b, hb with
    | [a0, a1, a2, a3, a4, a5], _ => exact ⟨a0, a1, a2, a3, a4, a5, rfl⟩
  clear ha hb
  have c1 : IntKind.i64.wrap 1 = 1 := rfl
  refine spec_of_awp Try.func13 rfl (Nat.le_of_ble_eq_true rfl) fun ini => ?_
  simp only [Try.ntmps13]
  refine awp_reg_seq rfl fun k0 => ?_
  (apply runk_box rfl rfl rfl ?_ ?_ ?_ ?_; rotate_left 2; (· (conv => (lhs; whnf))); (· rfl); (· (conv => (lhs; whnf))))
  (apply runk0 rfl rfl (opok_box_ro rfl ?_ ?_ ?_) ?_; rotate_left 2; (· (conv => (lhs; whnf))); (· rfl); (· (conv => (lhs; whnf))))
  (repeat (first | (apply runk0 rfl rfl (opok_assign rfl ?_) ?_; rotate_left 1; (· (conv => (lhs; whnf)))) | refine runk_end (by kernel_rfl) ?_))
  (repeat (first | refine awp_reg_seq rfl fun k => ?_ | refine awp_seq ?_ | (apply runk0 rfl rfl (opok_assign rfl ?_) ?_; rotate_left 1; (· (conv => (lhs; whnf)))) | refine runk_end (by kernel_rfl) ?_))
  refine runk_sliceArr (d := 8) (m := 6) (n := 2) (kk := k0) (e := 5) (cs := ints .u8 [a0, a1, a2, a3, a4, a5]) rfl rfl rfl rfl rfl (by kernel_rfl) (by unfold sizeIs; kernel_rfl) rfl (by decide) ?_
  (repeat (first | (apply runk0 rfl rfl (opok_arrRo rfl ?_ ?_ ?_ ?_ ?_) ?_; rotate_left 3; (· (conv => (lhs; whnf))); (· (conv => (lhs; whnf; arg 1; whnf))); (· (unfold sizeIs; conv => (lhs; whnf; arg 1; whnf))); (· rfl); (· rfl))))
  refine runk_appendFull (d := 10) (e := 5) (t' := 23) (n2 := 8) (k2 := k) (len := 6) (cs := ints .u8 [a0, a1, a2, a3, a4, a5]) (es2 := ints .u8 [b0, b1, b2, b3, b4, b5]) (bytes := 1) (z := .int .u8 0) rfl rfl rfl rfl rfl (by kernel_rfl) (by kernel_rfl) rfl (by decide) rfl rfl (by simp [ints]) (by simp [ints]) (.ro _) rfl rfl (by simp [ints]) ?_
  (repeat (first | (apply runk0 rfl rfl (opok_move rfl ?_) ?_; rotate_left 1; (· (conv => (lhs; whnf)))) | (first | (apply runk0 rfl rfl (opok_lenO rfl ?_ ?_ ?_) ?_; rotate_left 5; (· (conv => (lhs; whnf))); (· (conv => (lhs; whnf; arg 1; whnf))); (· first | exact length_ints _ _ | rfl)) | (apply runk0 rfl rfl (opok_len_own rfl ?_ ?_) ?_; rotate_left 4; (· (conv => (lhs; whnf))); (· (conv => (lhs; whnf; arg 1; whnf)))) | (apply runk0 rfl rfl (opok_len rfl ?_ ?_ ?_) ?_; rotate_left 3; (· (conv => (lhs; whnf))); (· (conv => (lhs; whnf; arg 1; whnf))); (· first | exact length_ints _ _ | rfl))) | refine runk_end (by kernel_rfl) ?_))
  generalize k = k10
  refine awp_less (st' := ⟨[(5, .val (.int .i64 0)), (10, .own 10 k10 (ints .u8 [a0, a1, a2, a3, a4, a5] ++ ints .u8 [b0, b1, b2, b3, b4, b5]).length), (11, .val (.int .i64 12)), (12, .val (.int .i64 0))], [(10, some (k10, .row 5 1 (ints .u8 [a0, a1, a2, a3, a4, a5] ++ ints .u8 [b0, b1, b2, b3, b4, b5])))]⟩) ?_ ?_
  · (refine leB_of ?_ ?_; (· (repeat (first | exact EnvIs.nil | (refine EnvIs.cons ?_ ?_; (· first | rfl | ((conv => (lhs; whnf)); first | (simp [ints, hl]; done) | (simp [ints, hl]; omega))))))); (· (repeat (first | exact ObjsAre.nil | (refine ObjsAre.cons ?_ ?_; (· first | rfl | ((conv => (lhs; whnf)); first | (simp [ints, hl]; done) | (simp [ints, hl]; omega))))))))
  rw [hga]
  (refine awp_frz 10 k10 (ints .u8 L) ([(5, .val (.int .i64 0)), (10, .ro (ints .u8 L)), (11, .val (.int .i64 12)), (12, .val (.int .i64 0))]) ([]) rfl ?_ ?_ ?_; (· (repeat (first | exact EnvFrz.nil | (refine EnvFrz.cons rfl ?_ ?_; (· first | exact .one (.same _) | (refine .one (.own _ ?_); first | rfl | (simp; done) | (simp only [length_ints]; omega)) | (refine .agg ?_; (repeat (first | exact Frzs.nil | (refine Frzs.cons ?_ ?_; (· first | exact Frz1.same _ | (refine Frz1.own _ ?_; first | rfl | (simp; done) | (simp only [length_ints]; omega)) | exact Frz1.any _))))) | (refine .tuple ?_; (repeat (first | exact Frzs.nil | (refine Frzs.cons ?_ ?_; (· first | exact Frz1.same _ | (refine Frz1.own _ ?_; first | rfl | (simp; done) | (simp only [length_ints]; omega)) | exact Frz1.any _)))))))))); (· (repeat (first | exact ObjsFrz.nil | (refine ObjsFrz.cons rfl rfl ?_ ?_; (· first | exact .same _ | (refine .box ?_; (repeat (first | exact Frzs.nil | (refine Frzs.cons ?_ ?_; (· first | exact Frz1.same _ | (refine Frz1.own _ ?_; first | rfl | (simp; done) | (simp only [length_ints]; omega)) | exact Frz1.any _))))) | (refine .row ?_ rfl; (repeat (first | exact Frzs.nil | (refine Frzs.cons ?_ ?_; (· first | exact Frz1.same _ | (refine Frz1.own _ ?_; first | rfl | (simp; done) | (simp only [length_ints]; omega)) | exact Frz1.any _)))))))))))
  clear hga hL
  refine awp_block ?_
  refine awp_loop (fun n st => ∃ j : Nat, j + n = 12 ∧ st.leB ⟨[(5, .val (.int .i64 (S j))), (10, .ro (ints .u8 L)), (11, .val (.int .i64 12)), (12, .val (.int .i64 (j : Int)))], []⟩) 12 ⟨0, rfl, ?_⟩ ?_
  · rw [h0]
    (refine leB_of ?_ ?_; (· (repeat (first | exact EnvIs.nil | (refine EnvIs.cons ?_ ?_; (· first | rfl | ((conv => (lhs; whnf)); first | (simp [ints]; done) | (simp [ints]; omega))))))); (· (repeat (first | exact ObjsAre.nil | (refine ObjsAre.cons ?_ ?_; (· first | rfl | ((conv => (lhs; whnf)); first | (simp [ints]; done) | (simp [ints]; omega))))))))
  · rintro n st ⟨j, hj, hle⟩
    refine awp_less hle ?_
    clear hle st h0
    (repeat (first | refine awp_reg_seq rfl fun k => ?_ | refine awp_seq ?_ | (apply runk0 rfl rfl (opok_bin rfl ?_ ?_ ?_) ?_; rotate_left 3; (· (conv => (lhs; whnf))); (· (conv => (lhs; whnf))); (· (intro w; go_simp; first | done | rfl))) | refine runk_end (by kernel_rfl) ?_))
    refine awp_if rfl (fun hc => ?_) (fun hc => ?_)
    · have hlt : j < 12 := by simp at hc; omega
      clear hc
      have wj : IntKind.i64.wrap ((j : Int) + 1) = ((j + 1 : Nat) : Int) := by rw [IntKind.wrap_i64]; omega
      have hx : (ints .u8 L)[j]? = some (.val (.int .u8 (L.getD j 0))) := ints_getD .u8 L j (by omega)
      obtain ⟨z1, z2⟩ := hz j hlt
      have hb1 := hbd j (by omega)
      have hb2 := hbd (j + 1) (by omega)
      have eS := hS j
      clear hbd hz hS h
      generalize L.getD j 0 = c at *
      have m1 : ((j + 1 : Nat) : Int) * c ≤ 12 * 256 := Int.mul_le_mul (by omega) (by omega) z1 (by omega)
      have m2 : 0 ≤ ((j + 1 : Nat) : Int) * c := Int.mul_nonneg (by omega) z1
      rw [show (j : Int) + 1 = ((j + 1 : Nat) : Int) by omega] at eS
      generalize hY : S (j + 1) = Y at *
      generalize S j = X at *
      have w1 : IntKind.i64.wrap (((j + 1 : Nat) : Int) * c) = ((j + 1 : Nat) : Int) * c := by rw [IntKind.wrap_i64]; omega
      have w2 : IntKind.i64.wrap (X + ((j + 1 : Nat) : Int) * c) = Y := by rw [IntKind.wrap_i64, eS]; omega
      have w3 : IntKind.i64.wrap c = c := by rw [IntKind.wrap_i64]; omega
      clear eS
      generalize hq : ((j + 1 : Nat) : Int) * c = Q at *
      generalize hj1 : j + 1 = j1 at *
      (repeat (first | refine awp_reg_seq rfl fun k => ?_ | refine awp_reg rfl fun k => ?_ | refine awp_seq ?_ | refine awp_skip (?_ : Awp _ _ _ _ _ _) | refine awp_block ?_ | (apply runk0 rfl rfl (opok_move rfl ?_) ?_; rotate_left 1; (· (conv => (lhs; whnf)))) | (apply runk0 rfl rfl (opok_assign rfl ?_) ?_; rotate_left 1; (· (conv => (lhs; whnf)))) | (first | (apply runk0 rfl rfl (opok_load rfl ?_ ?_ ?_ ?_) ?_; rotate_left 5; (· (conv => (lhs; whnf))); (· (conv => (lhs; whnf; arg 1; whnf; arg 2; whnf))); (· rfl); (· (conv => (lhs; whnf; arg 1; whnf)))) | (apply runk0 rfl rfl (opok_loadR rfl ?_ ?_ ?_) ?_; rotate_left 2; (· (conv => (lhs; whnf))); (· rfl); (· (conv => (lhs; whnf; arg 1; whnf))))) | (apply runk0 rfl rfl (opok_bin rfl ?_ ?_ ?_) ?_; rotate_left 3; (· (conv => (lhs; whnf))); (· (conv => (lhs; whnf))); (· (intro w; go_simp; first | done | rfl))) | (apply runk0 rfl rfl (opok_conv rfl ?_ ?_) ?_; rotate_left 2; (· (conv => (lhs; whnf))); (· (intro w; go_simp; first | done | rfl))) | refine runk_end (by kernel_rfl) ?_ | (apply runk0 rfl rfl (opok_index_ro rfl ?_ ?_ ?_ ?_ ?_ ?_ ?_) ?_; rotate_left 6; (· (conv => (lhs; whnf))); (· (conv => (lhs; whnf))); (· (conv => (lhs; whnf; arg 1; whnf))); (· (unfold sizeIs; conv => (lhs; whnf; arg 1; whnf))); (· first | exact widths_ints _ _ | rfl | simp [widths, AVal.flat]); (· first | omega | (simp; done) | (simp; omega)); (· first | assumption | (simp only [Int.toNat_natCast]; assumption) | (simp only [Int.reduceToNat]; assumption)))))
      refine ⟨n - 1, by omega, j1, by omega, ?_⟩
      rw [hY]
      (refine leB_of ?_ ?_; (· (repeat (first | exact EnvIs.nil | (refine EnvIs.cons ?_ ?_; (· first | rfl | ((conv => (lhs; whnf)); first | (simp [ints]; done) | (simp [ints]; omega))))))); (· (repeat (first | exact ObjsAre.nil | (refine ObjsAre.cons ?_ ?_; (· first | rfl | ((conv => (lhs; whnf)); first | (simp [ints]; done) | (simp [ints]; omega))))))))
    · have hie : j = 12 := by simp at hc; omega
      subst hie
      have hb1 := hbd 12 (by omega)
      clear hc hbd hz hS h
      generalize S 12 = X at *
      have e1 : X.tmod 65521 = X % 65521 := Int.tmod_eq_emod_of_nonneg hb1.1
      have e2 : IntKind.i64.wrap (X % 65521) = X % 65521 := by rw [IntKind.wrap_i64]; omega
      (repeat (first | refine awp_reg_seq rfl fun k => ?_ | refine awp_exit (?_ : Awp _ _ _ _ _ _) | (refine awp_ret ?_; (apply ends_pure ?_ ?_ ?_ ?_ ?_ (.inl rfl); rotate_left 1; (· first | exact res_one rfl rfl | exact res_two rfl rfl rfl | exact res_none rfl | exact res_three rfl rfl rfl rfl | exact res_cell rfl rfl rfl rfl rfl | exact res_cell2 rfl rfl rfl rfl rfl rfl | exact res3 rfl (rv_cell rfl rfl rfl rfl) (rv_tmp rfl) (rv_tmp rfl) | exact res3 rfl (rv_cell rfl rfl rfl rfl) (rv_cell rfl rfl rfl rfl) (rv_cell rfl rfl rfl rfl)); (· first | rfl | ((conv => (lhs; whnf)); first | rfl | (simp; done))); (· first | rfl | (simp; done) | (simp [AVal.pure, AVal.pures, AObj.pure]; done)); (· rfl); (· rfl))) | (apply runk0 rfl rfl (opok_move rfl ?_) ?_; rotate_left 1; (· (conv => (lhs; whnf)))) | (apply runk0 rfl rfl (opok_assign rfl ?_) ?_; rotate_left 1; (· (conv => (lhs; whnf)))) | (apply runk0 rfl rfl (opok_bin rfl ?_ ?_ ?_) ?_; rotate_left 3; (· (conv => (lhs; whnf))); (· (conv => (lhs; whnf))); (· (intro w; go_simp; first | done | rfl))) | (apply runk0 rfl rfl (opok_extract rfl ?_ ?_) ?_; rotate_left 2; (· (conv => (lhs; whnf))); (· (conv => (lhs; whnf; arg 1; whnf)))) | refine runk_end (by kernel_rfl) ?_))
set_option maxHeartbeats 8000000 in
set_option maxRecDepth 100000 in
theorem rhash_spec (a b : List Int) (ha : a.length = 6) (hb : b.length = 6) (h : ∀ z ∈ a ++ b, 0 ≤ z ∧ z < 256) : Spec Try.prog 14 [.agg (ints .u8 a), .agg (ints .u8 b)] [] (.val (.int .i64 (hsN (a ++ b) 12 % 65521))) [] := by
  have hbd := fun j hj => hsN_bd h j hj
  have hS : ∀ j, hsN (a ++ b) (j + 1) = hsN (a ++ b) j + ((j : Int) + 1) * (a ++ b).getD j 0 := fun j => rfl
  have h0 : hsN (a ++ b) 0 = 0 := rfl
  have hl : (a ++ b).length = 12 := by rw [List.length_append]; omega
  have hz : ∀ j, j < 12 → 0 ≤ (a ++ b).getD j 0 ∧ (a ++ b).getD j 0 < 256 := fun j hj => by
    rw [List.getD_eq_getElem?_getD, List.getElem?_eq_getElem (by omega)]
    exact h _ (List.getElem_mem (by omega))
  have hga : ints .u8 a ++ ints .u8 b = ints .u8 (a ++ b) := by simp [ints]
  generalize hL : a ++ b = L at *
  generalize hsN L = S at *
  obtain ⟨a0, a1, a2, a3, a4, a5, rfl⟩ : ∃ a0 a1 a2 a3 a4 a5 : Int, a = [a0, a1, a2, a3, a4, a5] := by
    match a, ha with
    | [a0, a1, a2, a3, a4, a5], _ => exact ⟨a0, a1, a2, a3, a4, a5, rfl⟩
  obtain ⟨b0, b1, b2, b3, b4, b5, rfl⟩ : ∃ a0 a1 a2 a3 a4 a5 : Int, b = [a0, a1, a2, a3, a4, a5] := by
    match b, hb with
    | [a0, a1, a2, a3, a4, a5], _ => exact ⟨a0, a1, a2, a3, a4, a5, rfl⟩
  clear ha hb
  have c1 : IntKind.i64.wrap 1 = 1 := rfl
  refine spec_of_awp Try.func14 rfl (Nat.le_of_ble_eq_true rfl) fun ini => ?_
  simp only [Try.ntmps14]
  (repeat (first | refine awp_reg_seq rfl fun k => ?_ | refine awp_seq ?_ | refine awp_block ?_ | (apply runk0 rfl rfl (opok_box_ro rfl ?_ ?_ ?_) ?_; rotate_left 2; (· (conv => (lhs; whnf))); (· rfl); (· (conv => (lhs; whnf)))) | (apply runk0 rfl rfl (opok_move rfl ?_) ?_; rotate_left 1; (· (conv => (lhs; whnf)))) | (apply runk0 rfl rfl (opok_assign rfl ?_) ?_; rotate_left 1; (· (conv => (lhs; whnf)))) | (first | (apply runk0 rfl rfl (opok_lenO rfl ?_ ?_ ?_) ?_; rotate_left 5; (· (conv => (lhs; whnf))); (· (conv => (lhs; whnf; arg 1; whnf))); (· first | exact length_ints _ _ | rfl)) | (apply runk0 rfl rfl (opok_len_own rfl ?_ ?_) ?_; rotate_left 4; (· (conv => (lhs; whnf))); (· (conv => (lhs; whnf; arg 1; whnf)))) | (apply runk0 rfl rfl (opok_len rfl ?_ ?_ ?_) ?_; rotate_left 3; (· (conv => (lhs; whnf))); (· (conv => (lhs; whnf; arg 1; whnf))); (· first | exact length_ints _ _ | rfl))) | refine runk_end (by kernel_rfl) ?_ | (apply runk0 rfl rfl (opok_arrRo rfl ?_ ?_ ?_ ?_ ?_) ?_; rotate_left 3; (· (conv => (lhs; whnf))); (· (conv => (lhs; whnf; arg 1; whnf))); (· (unfold sizeIs; conv => (lhs; whnf; arg 1; whnf))); (· rfl); (· rfl)) | (apply runk_app rfl rfl rfl ?_ ?_ ?_ ?_ ?_ ?_ ?_ ?_ ?_ ?_ ?_ ?_ ?_ ?_ ?_ ?_; rotate_left 11; (· (conv => (lhs; whnf))); (· (conv => (lhs; whnf))); (· (conv => (lhs; whnf; arg 1; whnf))); (· (unfold sizeIs; conv => (lhs; whnf; arg 1; whnf))); (· (conv => (lhs; whnf; arg 1; whnf))); (· (conv => (lhs; whnf; arg 1; whnf))); (· rfl); (· rfl); (· rfl); (· first | exact .nil | (refine .own _ _ _ _ rfl ?_; first | rfl | (simp; done)) | (refine .pre _ _ _ _ rfl ?_ ?_; (· first | omega | (simp; done) | (simp; omega)); (· first | exact widths_ints _ _ | rfl | (simp; done)))); (· first | exact .ro _ | (refine .own _ _ _ _ _ _ rfl ?_; first | rfl | (simp; done)) | exact .nil | (refine .pre _ _ _ _ _ _ rfl ?_ ?_; (· first | omega | (simp; done) | (simp; omega)); (· first | exact widths_ints _ _ | rfl | (simp; done))) | (refine .sub _ _ _ _ _ _ _ rfl ?_ ?_; (· first | omega | (simp; done) | (simp; omega)); (· first | exact widths_ints _ _ | rfl | (simp; done)))); (· first | rfl | exact one_ints _ _ | exact widths_ints _ _ | (simp only [ints_takeR, ints_dropR]; first | exact one_ints _ _ | exact widths_ints _ _) | simp); (· first | rfl | exact one_ints _ _ | exact widths_ints _ _ | (simp only [ints_takeR, ints_dropR]; first | exact one_ints _ _ | exact widths_ints _ _) | simp); (· first | omega | (simp; done) | (simp; omega)); (· first | (simp only [List.nil_append, ints_takeR, ints_dropR, ints_one, ints_consR, ints_append]; done) | (simp only [List.nil_append, ints_takeR, ints_dropR, ints_one, ints_consR, ints_append]; rfl) | rfl))))
  generalize k = k11
  refine awp_less (st' := ⟨[(5, .val (.int .i64 0)), (11, .own 11 k11 (ints .u8 [a0, a1, a2, a3, a4, a5] ++ ints .u8 [b0, b1, b2, b3, b4, b5]).length), (12, .val (.int .i64 12)), (13, .val (.int .i64 0))], [(11, some (k11, .row 5 1 (ints .u8 [a0, a1, a2, a3, a4, a5] ++ ints .u8 [b0, b1, b2, b3, b4, b5])))]⟩) ?_ ?_
  · (refine leB_of ?_ ?_; (· (repeat (first | exact EnvIs.nil | (refine EnvIs.cons ?_ ?_; (· first | rfl | ((conv => (lhs; whnf)); first | (simp [ints, hl]; done) | (simp [ints, hl]; omega))))))); (· (repeat (first | exact ObjsAre.nil | (refine ObjsAre.cons ?_ ?_; (· first | rfl | ((conv => (lhs; whnf)); first | (simp [ints, hl]; done) | (simp [ints, hl]; omega))))))))
  rw [hga]
  (refine awp_frz 11 k11 (ints .u8 L) ([(5, .val (.int .i64 0)), (11, .ro (ints .u8 L)), (12, .val (.int .i64 12)), (13, .val (.int .i64 0))]) ([]) rfl ?_ ?_ ?_; (· (repeat (first | exact EnvFrz.nil | (refine EnvFrz.cons rfl ?_ ?_; (· first | exact .one (.same _) | (refine .one (.own _ ?_); first | rfl | (simp; done) | (simp only [length_ints]; omega)) | (refine .agg ?_; (repeat (first | exact Frzs.nil | (refine Frzs.cons ?_ ?_; (· first | exact Frz1.same _ | (refine Frz1.own _ ?_; first | rfl | (simp; done) | (simp only [length_ints]; omega)) | exact Frz1.any _))))) | (refine .tuple ?_; (repeat (first | exact Frzs.nil | (refine Frzs.cons ?_ ?_; (· first | exact Frz1.same _ | (refine Frz1.own _ ?_; first | rfl | (simp; done) | (simp only [length_ints]; omega)) | exact Frz1.any _)))))))))); (· (repeat (first | exact ObjsFrz.nil | (refine ObjsFrz.cons rfl rfl ?_ ?_; (· first | exact .same _ | (refine .box ?_; (repeat (first | exact Frzs.nil | (refine Frzs.cons ?_ ?_; (· first | exact Frz1.same _ | (refine Frz1.own _ ?_; first | rfl | (simp; done) | (simp only [length_ints]; omega)) | exact Frz1.any _))))) | (refine .row ?_ rfl; (repeat (first | exact Frzs.nil | (refine Frzs.cons ?_ ?_; (· first | exact Frz1.same _ | (refine Frz1.own _ ?_; first | rfl | (simp; done) | (simp only [length_ints]; omega)) | exact Frz1.any _)))))))))))
  clear hga hL
  refine awp_loop (fun n st => ∃ j : Nat, j + n = 12 ∧ st.leB ⟨[(5, .val (.int .i64 (S j))), (11, .ro (ints .u8 L)), (12, .val (.int .i64 12)), (13, .val (.int .i64 (j : Int)))], []⟩) 12 ⟨0, rfl, ?_⟩ ?_
  · rw [h0]
    (refine leB_of ?_ ?_; (· (repeat (first | exact EnvIs.nil | (refine EnvIs.cons ?_ ?_; (· first | rfl | ((conv => (lhs; whnf)); first | (simp [ints]; done) | (simp [ints]; omega))))))); (· (repeat (first | exact ObjsAre.nil | (refine ObjsAre.cons ?_ ?_; (· first | rfl | ((conv => (lhs; whnf)); first | (simp [ints]; done) | (simp [ints]; omega))))))))
  · rintro n st ⟨j, hj, hle⟩
    refine awp_less hle ?_
    clear hle st h0
    (repeat (first | refine awp_reg_seq rfl fun k => ?_ | refine awp_seq ?_ | (apply runk0 rfl rfl (opok_bin rfl ?_ ?_ ?_) ?_; rotate_left 3; (· (conv => (lhs; whnf))); (· (conv => (lhs; whnf))); (· (intro w; go_simp; first | done | rfl))) | refine runk_end (by kernel_rfl) ?_))
    refine awp_if rfl (fun hc => ?_) (fun hc => ?_)
    · have hlt : j < 12 := by simp at hc; omega
      clear hc
      have wj : IntKind.i64.wrap ((j : Int) + 1) = ((j + 1 : Nat) : Int) := by rw [IntKind.wrap_i64]; omega
      have hx : (ints .u8 L)[j]? = some (.val (.int .u8 (L.getD j 0))) := ints_getD .u8 L j (by omega)
      obtain ⟨z1, z2⟩ := hz j hlt
      have hb1 := hbd j (by omega)
      have hb2 := hbd (j + 1) (by omega)
      have eS := hS j
      clear hbd hz hS h
      generalize L.getD j 0 = c at *
      have m1 : ((j + 1 : Nat) : Int) * c ≤ 12 * 256 := Int.mul_le_mul (by omega) (by omega) z1 (by omega)
      have m2 : 0 ≤ ((j + 1 : Nat) : Int) * c := Int.mul_nonneg (by omega) z1
      rw [show (j : Int) + 1 = ((j + 1 : Nat) : Int) by omega] at eS
      generalize hY : S (j + 1) = Y at *
      generalize S j = X at *
      have w1 : IntKind.i64.wrap (((j + 1 : Nat) : Int) * c) = ((j + 1 : Nat) : Int) * c := by rw [IntKind.wrap_i64]; omega
      have w2 : IntKind.i64.wrap (X + ((j + 1 : Nat) : Int) * c) = Y := by rw [IntKind.wrap_i64, eS]; omega
      have w3 : IntKind.i64.wrap c = c := by rw [IntKind.wrap_i64]; omega
      clear eS
      generalize hq : ((j + 1 : Nat) : Int) * c = Q at *
      generalize hj1 : j + 1 = j1 at *
      (repeat (first | refine awp_reg_seq rfl fun k => ?_ | refine awp_reg rfl fun k => ?_ | refine awp_seq ?_ | refine awp_skip (?_ : Awp _ _ _ _ _ _) | refine awp_block ?_ | (apply runk0 rfl rfl (opok_move rfl ?_) ?_; rotate_left 1; (· (conv => (lhs; whnf)))) | (apply runk0 rfl rfl (opok_assign rfl ?_) ?_; rotate_left 1; (· (conv => (lhs; whnf)))) | (first | (apply runk0 rfl rfl (opok_load rfl ?_ ?_ ?_ ?_) ?_; rotate_left 5; (· (conv => (lhs; whnf))); (· (conv => (lhs; whnf; arg 1; whnf; arg 2; whnf))); (· rfl); (· (conv => (lhs; whnf; arg 1; whnf)))) | (apply runk0 rfl rfl (opok_loadR rfl ?_ ?_ ?_) ?_; rotate_left 2; (· (conv => (lhs; whnf))); (· rfl); (· (conv => (lhs; whnf; arg 1; whnf))))) | (apply runk0 rfl rfl (opok_bin rfl ?_ ?_ ?_) ?_; rotate_left 3; (· (conv => (lhs; whnf))); (· (conv => (lhs; whnf))); (· (intro w; go_simp; first | done | rfl))) | (apply runk0 rfl rfl (opok_conv rfl ?_ ?_) ?_; rotate_left 2; (· (conv => (lhs; whnf))); (· (intro w; go_simp; first | done | rfl))) | refine runk_end (by kernel_rfl) ?_ | (apply runk0 rfl rfl (opok_index_ro rfl ?_ ?_ ?_ ?_ ?_ ?_ ?_) ?_; rotate_left 6; (· (conv => (lhs; whnf))); (· (conv => (lhs; whnf))); (· (conv => (lhs; whnf; arg 1; whnf))); (· (unfold sizeIs; conv => (lhs; whnf; arg 1; whnf))); (· first | exact widths_ints _ _ | rfl | simp [widths, AVal.flat]); (· first | omega | (simp; done) | (simp; omega)); (· first | assumption | (simp only [Int.toNat_natCast]; assumption) | (simp only [Int.reduceToNat]; assumption)))))
      refine ⟨n - 1, by omega, j1, by omega, ?_⟩
      rw [hY]
      (refine leB_of ?_ ?_; (· (repeat (first | exact EnvIs.nil | (refine EnvIs.cons ?_ ?_; (· first | rfl | ((conv => (lhs; whnf)); first | (simp [ints]; done) | (simp [ints]; omega))))))); (· (repeat (first | exact ObjsAre.nil | (refine ObjsAre.cons ?_ ?_; (· first | rfl | ((conv => (lhs; whnf)); first | (simp [ints]; done) | (simp [ints]; omega))))))))
    · have hie : j = 12 := by simp at hc; omega
      subst hie
      have hb1 := hbd 12 (by omega)
      clear hc hbd hz hS h
      generalize S 12 = X at *
      have e1 : X.tmod 65521 = X % 65521 := Int.tmod_eq_emod_of_nonneg hb1.1
      have e2 : IntKind.i64.wrap (X % 65521) = X % 65521 := by rw [IntKind.wrap_i64]; omega
      (repeat (first | refine awp_reg_seq rfl fun k => ?_ | refine awp_exit (?_ : Awp _ _ _ _ _ _) | (refine awp_ret ?_; (apply ends_pure ?_ ?_ ?_ ?_ ?_ (.inl rfl); rotate_left 1; (· first | exact res_one rfl rfl | exact res_two rfl rfl rfl | exact res_none rfl | exact res_three rfl rfl rfl rfl | exact res_cell rfl rfl rfl rfl rfl | exact res_cell2 rfl rfl rfl rfl rfl rfl | exact res3 rfl (rv_cell rfl rfl rfl rfl) (rv_tmp rfl) (rv_tmp rfl) | exact res3 rfl (rv_cell rfl rfl rfl rfl) (rv_cell rfl rfl rfl rfl) (rv_cell rfl rfl rfl rfl)); (· first | rfl | ((conv => (lhs; whnf)); first | rfl | (simp; done))); (· first | rfl | (simp; done) | (simp [AVal.pure, AVal.pures, AObj.pure]; done)); (· rfl); (· rfl))) | (apply runk0 rfl rfl (opok_move rfl ?_) ?_; rotate_left 1; (· (conv => (lhs; whnf)))) | (apply runk0 rfl rfl (opok_assign rfl ?_) ?_; rotate_left 1; (· (conv => (lhs; whnf)))) | (apply runk0 rfl rfl (opok_bin rfl ?_ ?_ ?_) ?_; rotate_left 3; (· (conv => (lhs; whnf))); (· (conv => (lhs; whnf))); (· (intro w; go_simp; first | done | rfl))) | (apply runk0 rfl rfl (opok_extract rfl ?_ ?_) ?_; rotate_left 2; (· (conv => (lhs; whnf))); (· (conv => (lhs; whnf; arg 1; whnf)))) | refine runk_end (by kernel_rfl) ?_))
end Go.Proofs.Ytpdiainbcekpiaa
