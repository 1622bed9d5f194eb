/-
  Layer 2: prefix.Bit, prefix.Valid.
-/
import Derived.Test.YtboddbheljenhaaGreatDoorPf1
namespace Go.Proofs.YtboddbheljenhaaGreatDoor
open Go.RowKit
def bitA (v : Bool) (hi lo : Int) (i : Nat) : Int := if v = true then (if i < 64 then bitZ hi (63 - i) else bitZ lo (127 - i)) else bitZ lo (31 - i)
theorem and_one (x : Int) (b : Nat) (h0 : 0 ≤ x) (h1 : x < 18446744073709551616) : bits .and .u64 (x / 2 ^ b) 1 = bitZ x b := by
  have hp := two_pos b
  have q0 : 0 ≤ x / 2 ^ b := Int.ediv_nonneg h0 (Int.le_of_lt hp)
  have q1 : x / 2 ^ b < 18446744073709551616 := Int.lt_of_le_of_lt (Int.ediv_le_self _ h0) h1
  unfold bitZ
  generalize x / 2 ^ b = y at *
  obtain ⟨Y, rfl⟩ := Int.eq_ofNat_of_zero_le q0
  have e := bits_and_u64_nat Y 1 (by omega) (by decide)
  rw [nat_mask1] at e
  rw [show ((1 : Nat) : Int) = 1 from rfl] at e
  rw [e]
  omega
theorem bitZ_rng (x : Int) (b : Nat) : 0 ≤ bitZ x b ∧ bitZ x b < 2 := by unfold bitZ; omega
set_option maxHeartbeats 4000000 in
set_option maxRecDepth 100000 in
theorem pvalid_in (v : Bool) (hi lo n : Int) (hv : okA' v hi lo = true) (h0 : 0 ≤ hi) (h1 : hi < 18446744073709551616) (g0 : 0 ≤ lo) (g1 : lo < 18446744073709551616) (n0 : 0 ≤ n) (n1 : n ≤ (wiN v : Int)) : Spec Tryz.prog 13 [.agg [.val (.bool v), .val (.int .u64 hi), .val (.int .u64 lo), .val (.int .i64 n)]] [] (.val (.bool (eqQ v hi lo v (fstH v hi n) (fstL v lo n)))) [] := by
  have va := avalid_spec v hi lo
  rw [hv] at va
  have w := width_spec v hi lo
  have f := first_spec v hi lo n h0 h1 g0 g1
  have d1 : decide (n ≥ 0) = true := decide_eq_true n0
  have d2 : decide (n ≤ (wiN v : Int)) = true := decide_eq_true n1
  generalize fstH v hi n = FH at *
  generalize fstL v lo n = FL at *
  generalize (wiN v : Int) = W at *
  refine spec_of_awp Tryz.func13 rfl (Nat.le_of_ble_eq_true rfl) fun ini => ?_
  simp only [Tryz.ntmps13]
  (repeat (first | refine awp_reg_seq rfl fun k => ?_ | refine awp_isF rfl (by assumption) ?_ | (refine awp_ret ?_; (apply ends_pure ?_ ?_ ?_ ?_ ?_ (.inl rfl); rotate_left 1; (· first | exact res_one rfl rfl | exact res_two rfl rfl rfl | exact res_none rfl | exact res_three rfl rfl rfl rfl | exact res_cell rfl rfl rfl rfl rfl | exact res_cell2 rfl rfl rfl rfl rfl rfl | exact res3 rfl (rv_cell rfl rfl rfl rfl) (rv_tmp rfl) (rv_tmp rfl) | exact res3 rfl (rv_cell rfl rfl rfl rfl) (rv_cell rfl rfl rfl rfl) (rv_cell rfl rfl rfl rfl)); (· first | rfl | ((conv => (lhs; whnf)); first | rfl | (simp; done))); (· first | rfl | (simp; done) | (simp [AVal.pure, AVal.pures, AObj.pure]; done)); (· rfl); (· rfl))) | (apply runk_pure rfl rfl rfl ?_ ?_ ?_ ?_ ?_ ?_ ?_ ?_; rotate_left 6; (· (conv => (lhs; whnf))); (· exact Tryz.func41); (· rfl); (· rfl); (· exact (va)); (· (repeat (first | exact Rens.nil | (refine Rens.cons ?_ ?_; (· first | exact Ren.own _ _ _ _ _ _ rfl List.mem_cons_self | exact Ren.own _ _ _ _ _ _ rfl (List.mem_cons_of_mem _ List.mem_cons_self) | (refine (Ren.own _ _ _ _ _ _ ?_ List.mem_cons_self); first | rfl | (simp; done)) | (refine (Ren.own _ _ _ _ _ _ ?_ (List.mem_cons_of_mem _ List.mem_cons_self)); first | rfl | (simp; done)) | exact Ren.ptr _ _ _ _ _ List.mem_cons_self | (refine Ren.pureR ?_ rfl; (first | rfl | (simp; done) | (simp [AVal.pure, AVal.pures, AObj.pure]; done)))))))); (· first | rfl | (simp; done) | simp [AVal.pure, AVal.pures, AObj.pure])) | (apply runk_guard rfl rfl ?_ rfl ?_ ?_; rotate_left 3; (· (conv => (lhs; whnf))); (· (intro hb; (try rw [hb]); apply opok_pure rfl ?_ ?_ ?_ ?_ ?_ ?_ ?_; rotate_left 6; (· (conv => (lhs; whnf))); (· exact Tryz.func42); (· rfl); (· rfl); (· exact (w)); (· (repeat (first | exact Rens.nil | (refine Rens.cons ?_ ?_; (· first | exact Ren.own _ _ _ _ _ _ rfl List.mem_cons_self | exact Ren.own _ _ _ _ _ _ rfl (List.mem_cons_of_mem _ List.mem_cons_self) | (refine (Ren.own _ _ _ _ _ _ ?_ List.mem_cons_self); first | rfl | (simp; done)) | (refine (Ren.own _ _ _ _ _ _ ?_ (List.mem_cons_of_mem _ List.mem_cons_self)); first | rfl | (simp; done)) | exact Ren.ptr _ _ _ _ _ List.mem_cons_self | (refine Ren.pureR ?_ rfl; (first | rfl | (simp; done) | (simp [AVal.pure, AVal.pures, AObj.pure]; done)))))))); (· first | rfl | (simp; done) | simp [AVal.pure, AVal.pures, AObj.pure])))) | (apply runk_guard rfl rfl ?_ rfl ?_ ?_; rotate_left 3; (· (conv => (lhs; whnf))); (· (intro hb; (try rw [hb]); apply opok_pure rfl ?_ ?_ ?_ ?_ ?_ ?_ ?_; rotate_left 6; (· (conv => (lhs; whnf))); (· exact Tryz.func43); (· rfl); (· rfl); (· exact (f)); (· (repeat (first | exact Rens.nil | (refine Rens.cons ?_ ?_; (· first | exact Ren.own _ _ _ _ _ _ rfl List.mem_cons_self | exact Ren.own _ _ _ _ _ _ rfl (List.mem_cons_of_mem _ List.mem_cons_self) | (refine (Ren.own _ _ _ _ _ _ ?_ List.mem_cons_self); first | rfl | (simp; done)) | (refine (Ren.own _ _ _ _ _ _ ?_ (List.mem_cons_of_mem _ List.mem_cons_self)); first | rfl | (simp; done)) | exact Ren.ptr _ _ _ _ _ List.mem_cons_self | (refine Ren.pureR ?_ rfl; (first | rfl | (simp; done) | (simp [AVal.pure, AVal.pures, AObj.pure]; done)))))))); (· first | rfl | (simp; done) | simp [AVal.pure, AVal.pures, AObj.pure])))) | (((first | (apply runk_guard rfl rfl ?_ rfl ?_ ?_; rotate_left 3; (· (conv => (lhs; whnf))); (· (intro hb; (try rw [hb]); apply opok_eqQd rfl ?_ ?_; rotate_left 6; (· ((conv => (lhs; whnf)); try exact rfl)); (· ((conv => (lhs; whnf)); try exact rfl))))) | (apply runk_guard rfl rfl ?_ rfl ?_ ?_; rotate_left 3; (· (conv => (lhs; whnf))); (· (intro hb; (try rw [hb]); apply opok_neQd rfl ?_ ?_; rotate_left 6; (· ((conv => (lhs; whnf)); try exact rfl)); (· ((conv => (lhs; whnf)); try exact rfl))))) | (apply runk_guard rfl rfl ?_ rfl ?_ ?_; rotate_left 3; (· (conv => (lhs; whnf))); (· (intro hb; (try rw [hb]); apply opok_eqPd rfl ?_ ?_; rotate_left 8; (· ((conv => (lhs; whnf)); try exact rfl)); (· ((conv => (lhs; whnf)); try exact rfl))))) | (apply runk_guard rfl rfl ?_ rfl ?_ ?_; rotate_left 3; (· (conv => (lhs; whnf))); (· (intro hb; (try rw [hb]); apply opok_nePd rfl ?_ ?_; rotate_left 8; (· ((conv => (lhs; whnf)); try exact rfl)); (· ((conv => (lhs; whnf)); try exact rfl)))))))) | (first | refine runk_ung rfl rfl rfl rfl ?_ | refine runk_ung rfl rfl rfl (by assumption) ?_) | (apply runk0 rfl rfl (opok_move rfl ?_) ?_; rotate_left 1; (· (conv => (lhs; whnf)))) | (apply runk0 rfl rfl (opok_assign rfl ?_) ?_; rotate_left 1; (· (conv => (lhs; whnf)))) | (apply runk_fa rfl rfl rfl ?_ rfl rfl ?_ ?_ ?_ ?_; rotate_left 5; (· (conv => (lhs; whnf))); (· (unfold sizeIs; conv => (lhs; whnf; arg 1; whnf))); (· rfl); (· (conv => (lhs; whnf)))) | (first | (apply runk0 rfl rfl (opok_load rfl ?_ ?_ ?_ ?_) ?_; rotate_left 5; (· (conv => (lhs; whnf))); (· (conv => (lhs; whnf; arg 1; whnf; arg 2; whnf))); (· rfl); (· (conv => (lhs; whnf; arg 1; whnf)))) | (apply runk0 rfl rfl (opok_loadR rfl ?_ ?_ ?_) ?_; rotate_left 2; (· (conv => (lhs; whnf))); (· rfl); (· (conv => (lhs; whnf; arg 1; whnf))))) | (apply runk0 rfl rfl (opok_loadA rfl ?_ ?_ ?_ ?_ ?_ ?_) ?_; rotate_left 6; (· (conv => (lhs; whnf))); (· (conv => (lhs; whnf; arg 1; whnf; arg 2; whnf))); (· rfl); (· (unfold sizeIs; conv => (lhs; whnf; arg 1; whnf))); (· (conv => (lhs; repeat (whnf; arg 2)))); (· rfl)) | (apply runk0 rfl rfl (opok_bin rfl ?_ ?_ ?_) ?_; rotate_left 3; (· (conv => (lhs; whnf))); (· (conv => (lhs; whnf))); (· (intro w; go_simp; first | done | rfl))) | (apply runk0 rfl rfl (opok_pick rfl ?_ ?_) ?_; rotate_left 2; (· (conv => (lhs; whnf))); (· first | exact pick_or | exact pick_and | (conv => (lhs; whnf)))) | (apply runk_box rfl rfl rfl ?_ ?_ ?_ ?_; rotate_left 2; (· (conv => (lhs; whnf))); (· rfl); (· (conv => (lhs; whnf)))) | refine runk_end (by kernel_rfl) ?_))
/-- A prefix whose address is its own first one is valid. -/
theorem pvalid_ok (v : Bool) (hi lo n : Int) (hv : okA' v hi lo = true) (h0 : 0 ≤ hi) (h1 : hi < 18446744073709551616) (g0 : 0 ≤ lo) (g1 : lo < 18446744073709551616) (n0 : 0 ≤ n) (n1 : n ≤ (wiN v : Int)) (eh : fstH v hi n = hi) (el : fstL v lo n = lo) : Spec Tryz.prog 13 [.agg [.val (.bool v), .val (.int .u64 hi), .val (.int .u64 lo), .val (.int .i64 n)]] [] (.val (.bool true)) [] := by
  have s := pvalid_in v hi lo n hv h0 h1 g0 g1 n0 n1
  rw [eh, el, show eqQ v hi lo v hi lo = true by simp [eqQ]] at s
  exact s
end Go.Proofs.YtboddbheljenhaaGreatDoor
namespace Go.Proofs.YtboddbheljenhaaGreatDoor
open Go.RowKit
theorem fstH_idem (v : Bool) (hi n : Int) : fstH v (fstH v hi n) n = fstH v hi n := cutZ_idem _ _
theorem fstL_idem (v : Bool) (lo n : Int) : fstL v (fstL v lo n) n = fstL v lo n := cutZ_idem _ _
theorem lstH_rng {v : Bool} {hi : Int} (n : Int) (h0 : 0 ≤ hi) (h1 : hi < 18446744073709551616) : 0 ≤ lstH v hi n ∧ lstH v hi n < 18446744073709551616 := by
  have := filZ_bd (khN v (clN v n)) 64 h0 h1 (khN_le _ _)
  unfold lstH
  exact ⟨by omega, this.2⟩
theorem lstL_rng {v : Bool} {lo : Int} (n : Int) (h0 : 0 ≤ lo) (h1 : lo < 18446744073709551616) : 0 ≤ lstL v lo n ∧ lstL v lo n < 18446744073709551616 := by
  have := filZ_bd (klN v (clN v n)) 64 h0 h1 (klN_le _ _)
  unfold lstL
  exact ⟨by omega, this.2⟩
theorem cl_of {v : Bool} {N : Nat} (h : N ≤ wiN v) : clN v (N : Int) = N := by have := clN_in v (N : Int) (by omega) (by omega); omega
theorem bit_first {v : Bool} {hi lo : Int} {N i : Nat} (h0 : 0 ≤ hi) (g0 : 0 ≤ lo) (hN : N ≤ wiN v) (hi' : i < wiN v) : bitA v (fstH v hi N) (fstL v lo N) i = if i < N then bitA v hi lo i else 0 := by
  unfold bitA fstH fstL
  rw [cl_of hN, bitZ_cut _ _ _ h0, bitZ_cut _ _ _ g0, bitZ_cut _ _ _ g0]
  cases v with
  | true =>
    have hi2 : i < 128 := hi'
    have hN2 : N ≤ 128 := hN
    simp only [khN, klN, if_true]
    by_cases h : i < 64
    · rw [if_pos h, if_pos h]
      by_cases c : i < N
      · rw [if_neg (by omega), if_pos c]
      · rw [if_pos (by omega), if_neg c]
    · rw [if_neg h, if_neg h]
      by_cases c : i < N
      · rw [if_neg (by omega), if_pos c]
      · rw [if_pos (by omega), if_neg c]
  | false =>
    have hi2 : i < 32 := hi'
    have hN2 : N ≤ 32 := hN
    simp only [khN, klN, Bool.false_eq_true, if_false]
    by_cases c : i < N
    · rw [if_neg (by omega), if_pos c]
    · rw [if_pos (by omega), if_neg c]
theorem bit_last {v : Bool} {hi lo : Int} {N i : Nat} (h0 : 0 ≤ hi) (g0 : 0 ≤ lo) (hN : N ≤ wiN v) (hi' : i < wiN v) (c : ¬ i < N) : bitA v (lstH v hi N) (lstL v lo N) i = 1 := by
  unfold bitA lstH lstL
  rw [cl_of hN, bitZ_fil _ _ _ h0, bitZ_fil _ _ _ g0, bitZ_fil _ _ _ g0]
  cases v with
  | true =>
    have hi2 : i < 128 := hi'
    have hN2 : N ≤ 128 := hN
    simp only [khN, klN, if_true]
    by_cases h : i < 64
    · rw [if_pos h, if_pos (by omega)]
    · rw [if_neg h, if_pos (by omega)]
  | false =>
    have hi2 : i < 32 := hi'
    have hN2 : N ≤ 32 := hN
    simp only [khN, klN, Bool.false_eq_true, if_false]
    rw [if_pos (by omega)]
theorem okA_of {v : Bool} {hi lo : Int} (h : AOk v hi lo) : okA' v hi lo = true := by
  obtain ⟨h0, h1, h2, h3, h4⟩ := h
  unfold okA'
  cases v with
  | true => rfl
  | false =>
    obtain ⟨rfl, h5⟩ := h4 rfl
    simp; omega
/-- The first address of a prefix is valid where the address is. -/
theorem aok_first {v : Bool} {hi lo : Int} (n : Int) (h : AOk v hi lo) : AOk v (fstH v hi n) (fstL v lo n) := by
  obtain ⟨h0, h1, h2, h3, h4⟩ := h
  have a := cutZ_bd (khN v (clN v n)) h0
  have b := cutZ_bd (klN v (clN v n)) h2
  refine ⟨a.1, by unfold fstH; omega, b.1, by unfold fstL; omega, fun hv => ?_⟩
  obtain ⟨rfl, h5⟩ := h4 hv
  unfold fstH fstL
  omega
end Go.Proofs.YtboddbheljenhaaGreatDoor
