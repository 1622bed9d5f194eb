/-
  ref01.decimal of any text.
-/
import Derived.Test.YtboddbheljenhaaGreatDoorP4g
namespace Go.Proofs.YtboddbheljenhaaGreatDoor
open Go.RowKit
def decR : List UInt8 → Nat → Option Nat
  | [], n => some n
  | x :: r, n => if (isDig x && decide (n ≤ 1099511627776)) = true then decR r (10 * n + (x.toNat - 48)) else none
theorem decR_snoc : ∀ (a : List UInt8) (x : UInt8) (n : Nat), decR (a ++ [x]) n = (decR a n).bind fun m => if (isDig x && decide (m ≤ 1099511627776)) = true then some (10 * m + (x.toNat - 48)) else none
  | [], x, n => by simp [decR]
  | y :: a, x, n => by
    rw [List.cons_append]
    unfold decR
    by_cases c : (isDig y && decide (n ≤ 1099511627776)) = true
    · rw [if_pos c, if_pos c]; exact decR_snoc a x _
    · rw [if_neg c, if_neg c]; rfl
theorem decR_none : ∀ (a b : List UInt8) (n : Nat), decR a n = none → decR (a ++ b) n = none
  | [], b, n, h => by cases h
  | y :: a, b, n, h => by
    rw [List.cons_append]
    unfold decR at h ⊢
    by_cases c : (isDig y && decide (n ≤ 1099511627776)) = true
    · rw [if_pos c] at h ⊢; exact decR_none a b _ h
    · rw [if_neg c]
theorem decR_le : ∀ (a : List UInt8) (n m : Nat), n ≤ 10995116277769 → decR a n = some m → m ≤ 10995116277769
  | [], n, m, h, e => by cases e; exact h
  | y :: a, n, m, h, e => by
    unfold decR at e
    by_cases c : (isDig y && decide (n ≤ 1099511627776)) = true
    · rw [if_pos c] at e
      rw [Bool.and_eq_true, decide_eq_true_iff] at c
      have hd := c.1
      unfold isDig at hd
      simp at hd
      exact decR_le a _ m (by omega) e
    · rw [if_neg c] at e; cases e
def decV (l : List UInt8) : AVal := match decR l 0 with
  | some n => .tuple [.val (.int .i64 (n : Int)), .val (.bool (!(l == []) && decide (n ≤ 1099511627776)))]
  | none => .tuple [.val (.int .i64 0), .val (.bool false)]
set_option maxHeartbeats 16000000 in
set_option maxRecDepth 100000 in
theorem rdec_spec (l : List UInt8) (hl : l.length ≤ 100000) : Spec Tryz.prog 105 [.val (bstr l)] [] (decV l) [] := by
  unfold decV
  refine spec_of_awp Tryz.func105 rfl (Nat.le_of_ble_eq_true rfl) fun ini => ?_
  simp only [Tryz.ntmps105]
  (repeat (first | refine awp_reg_seq rfl fun k => ?_ | refine awp_seq ?_ | refine awp_block ?_ | (((((apply runk0 rfl rfl (opok_slen rfl ?_ rfl) ?_; rotate_left 1; (· ((conv => (lhs; whnf)); try exact rfl))))))) | (apply runk0 rfl rfl (opok_move rfl ?_) ?_; rotate_left 1; (· (conv => (lhs; whnf)))) | (apply runk0 rfl rfl (opok_assign rfl ?_) ?_; rotate_left 1; (· (conv => (lhs; whnf)))) | refine runk_end (by kernel_rfl) ?_))
  refine awp_loop (fun m st => ∃ i n : Nat, i + m = l.length ∧ decR (l.take i) 0 = some n ∧ st.leB ⟨[(0, .val (bstr l)), (2, .val (.int .i64 0)), (3, .val (.bool false)), (4, .val (.int .i64 (n : Int))), (7, .val (.int .i64 (l.length : Int))), (8, .val (.int .i64 (i : Int)))], []⟩) l.length ⟨0, 0, by omega, rfl, by (refine leB_of ?_ ?_; (· (repeat (first | exact EnvIs.nil | (refine EnvIs.cons ?_ ?_; (· rfl))))); (· (repeat ((exact ObjsAre.nil)))))⟩ ?_
  rintro m st ⟨i, n, him, hdc, hle⟩
  refine awp_less hle ?_
  clear hle st
  have wi : IntKind.i64.wrap ((i : Int) + 1) = ((i + 1 : Nat) : Int) := by rw [IntKind.wrap_i64]; omega
  obtain ⟨j, hj⟩ : ∃ j, i + 1 = j := ⟨_, rfl⟩
  rw [hj] at wi
  have hn := decR_le _ _ _ (by decide) hdc
  (repeat (first | refine awp_reg_seq rfl fun k => ?_ | refine awp_seq ?_ | (apply runk0 rfl rfl (opok_bin rfl ?_ ?_ ?_) ?_; rotate_left 3; (· (conv => (lhs; whnf))); (· (conv => (lhs; whnf))); (· (intro w; go_simp; first | done | rfl))) | refine runk_end (by kernel_rfl) ?_))
  refine awp_if rfl (fun hc => ?_) (fun hc => ?_)
  · have hi4 : i < l.length := by simp at hc; omega
    clear hc
    obtain ⟨x, hx⟩ : ∃ x, l[i]? = some x := ⟨_, List.getElem?_eq_getElem hi4⟩
    have hb := byteAt_get hx
    have hsn := take_snoc hx
    have hno : (isDig x && decide (n ≤ 1099511627776)) = false → decR l 0 = none := fun e => by
      rw [show l = l.take (i + 1) ++ l.drop (i + 1) from (List.take_append_drop _ _).symm]
      refine decR_none _ _ _ ?_
      rw [hsn, decR_snoc, hdc, Option.bind_some, e]
      rfl
    have hx256 : x.toNat < 256 := x.toNat_lt
    by_cases a1 : x.toNat < 48
    · rw [hno (by have : isDig x = false := by { unfold isDig; simp; omega }; rw [this]; rfl)]
      have d1 : decide ((x.toNat : Int) < 48) = true := decide_eq_true (by omega)
      have d1' : decide (x.toNat < 48) = true := decide_eq_true a1
      generalize (x.toNat : Int) = X at *
      (repeat (first | refine awp_reg_seq rfl fun k => ?_ | refine awp_seq ?_ | refine awp_true rfl ?_ | refine awp_skip (?_ : Awp _ _ _ _ _ _) | refine awp_block ?_ | (refine awp_ret ?_; (apply ends_pure ?_ ?_ ?_ ?_ ?_ (.inl rfl); rotate_left 1; (· (exact res_two rfl rfl rfl)); (· rfl); (· rfl); (· rfl); (· rfl))) | (((((apply runk0 rfl rfl (opok_sindex rfl ?_ ?_ rfl ?_ ?_) ?_; rotate_left 3; (· ((conv => (lhs; whnf)); try exact rfl)); (· (conv => (lhs; whnf))); (· omega); (· omega)))))) | ((refine runk_off rfl rfl rfl rfl rfl ?_)) | (apply runk0 rfl rfl (opok_move rfl ?_) ?_; rotate_left 1; (· (conv => (lhs; whnf)))) | (apply runk0 rfl rfl (opok_assign rfl ?_) ?_; rotate_left 1; (· (conv => (lhs; whnf)))) | (apply runk0 rfl rfl (opok_bin rfl ?_ ?_ ?_) ?_; rotate_left 3; (· (conv => (lhs; whnf))); (· (conv => (lhs; whnf))); (· (intro w; go_simp; rfl))) | (apply runk0 rfl rfl (opok_pick rfl ?_ ?_) ?_; rotate_left 2; (· (conv => (lhs; whnf))); (· ((conv => (lhs; whnf))))) | refine runk_end (by kernel_rfl) ?_))
    · by_cases a2 : 57 < x.toNat
      · rw [hno (by have : isDig x = false := by { unfold isDig; simp; omega }; rw [this]; rfl)]
        have d1 : decide ((x.toNat : Int) < 48) = false := decide_eq_false (by omega)
        have d2 : decide (57 < (x.toNat : Int)) = true := decide_eq_true (by omega)
        have d3 : decide ((x.toNat : Int) > 57) = true := decide_eq_true (by omega)
        generalize (x.toNat : Int) = X at *
        (repeat (first | refine awp_reg_seq rfl fun k => ?_ | refine awp_seq ?_ | refine awp_true rfl ?_ | refine awp_skip (?_ : Awp _ _ _ _ _ _) | refine awp_block ?_ | (refine awp_ret ?_; (apply ends_pure ?_ ?_ ?_ ?_ ?_ (.inl rfl); rotate_left 1; (· (exact res_two rfl rfl rfl)); (· rfl); (· rfl); (· rfl); (· rfl))) | (((((apply runk0 rfl rfl (opok_sindex rfl ?_ ?_ rfl ?_ ?_) ?_; rotate_left 3; (· ((conv => (lhs; whnf)); try exact rfl)); (· (conv => (lhs; whnf))); (· omega); (· omega)))))) | (((((apply runk_guard rfl rfl ?_ rfl ?_ ?_; rotate_left 3; (· (conv => (lhs; whnf))); (· (intro hb; (try rw [hb]); apply opok_sindex rfl ?_ ?_ rfl ?_ ?_; rotate_left 3; (· ((conv => (lhs; whnf)); try exact rfl)); (· (conv => (lhs; whnf))); (· omega); (· omega)))))))) | ((refine runk_ung rfl rfl rfl rfl ?_)) | ((refine runk_off rfl rfl rfl rfl rfl ?_)) | (apply runk0 rfl rfl (opok_move rfl ?_) ?_; rotate_left 1; (· (conv => (lhs; whnf)))) | (apply runk0 rfl rfl (opok_assign rfl ?_) ?_; rotate_left 1; (· (conv => (lhs; whnf)))) | (apply runk0 rfl rfl (opok_bin rfl ?_ ?_ ?_) ?_; rotate_left 3; (· (conv => (lhs; whnf))); (· (conv => (lhs; whnf))); (· (intro w; go_simp; rfl))) | (apply runk0 rfl rfl (opok_pick rfl ?_ ?_) ?_; rotate_left 2; (· (conv => (lhs; whnf))); (· first | exact pick_or | (conv => (lhs; whnf)))) | refine runk_end (by kernel_rfl) ?_))
      · have hdg : isDig x = true := by unfold isDig; simp; omega
        have d1 : decide ((x.toNat : Int) < 48) = false := decide_eq_false (by omega)
        have d2 : decide (57 < (x.toNat : Int)) = false := decide_eq_false (by omega)
        have d3 : decide ((x.toNat : Int) > 57) = false := decide_eq_false (by omega)
        by_cases a3 : n ≤ 1099511627776
        · have d4 : decide ((n : Int) > 1099511627776) = false := decide_eq_false (by omega)
          have d5 : decide (1099511627776 < (n : Int)) = false := decide_eq_false (by omega)
          have d6 : decide (1099511627776 < n) = false := decide_eq_false (by omega)
          obtain ⟨D, hD⟩ : ∃ D, x.toNat - 48 = D := ⟨_, rfl⟩
          have wd : IntKind.u8.wrap ((x.toNat : Int) - 48) = (D : Int) := by rw [IntKind.wrap_u8']; omega
          have wd2 : IntKind.i64.wrap (D : Int) = (D : Int) := by rw [IntKind.wrap_i64]; omega
          have wm : IntKind.i64.wrap (10 * (n : Int)) = 10 * (n : Int) := by rw [IntKind.wrap_i64]; omega
          obtain ⟨n2, hn2⟩ : ∃ n2, 10 * n + D = n2 := ⟨_, rfl⟩
          have ws : IntKind.i64.wrap (10 * (n : Int) + (D : Int)) = (n2 : Int) := by rw [IntKind.wrap_i64]; omega
          have hnew : decR (l.take j) 0 = some n2 := by rw [← hj, hsn, decR_snoc, hdc, Option.bind_some, hdg, decide_eq_true a3, hD, hn2]; rfl
          generalize (x.toNat : Int) = X at *
          (repeat (first | refine awp_reg_seq rfl fun k => ?_ | refine awp_reg rfl fun k => ?_ | refine awp_seq ?_ | refine awp_false rfl ?_ | refine awp_skip (?_ : Awp _ _ _ _ _ _) | refine awp_block ?_ | (((((apply runk0 rfl rfl (opok_sindex rfl ?_ ?_ rfl ?_ ?_) ?_; rotate_left 3; (· ((conv => (lhs; whnf)); try exact rfl)); (· (conv => (lhs; whnf))); (· omega); (· omega)))))) | (((((apply runk_guard rfl rfl ?_ rfl ?_ ?_; rotate_left 3; (· (conv => (lhs; whnf))); (· (intro hb; (try rw [hb]); apply opok_sindex rfl ?_ ?_ rfl ?_ ?_; rotate_left 3; (· ((conv => (lhs; whnf)); try exact rfl)); (· (conv => (lhs; whnf))); (· omega); (· omega)))))))) | ((refine runk_ung rfl rfl rfl rfl ?_)) | (apply runk0 rfl rfl (opok_move rfl ?_) ?_; rotate_left 1; (· (conv => (lhs; whnf)))) | (apply runk0 rfl rfl (opok_assign rfl ?_) ?_; rotate_left 1; (· (conv => (lhs; whnf)))) | (apply runk0 rfl rfl (opok_bin rfl ?_ ?_ ?_) ?_; rotate_left 3; (· (conv => (lhs; whnf))); (· (conv => (lhs; whnf))); (· (intro w; go_simp; rfl))) | (apply runk0 rfl rfl (opok_conv rfl ?_ ?_) ?_; rotate_left 2; (· (conv => (lhs; whnf))); (· (intro w; go_simp; rfl))) | (apply runk0 rfl rfl (opok_pick rfl ?_ ?_) ?_; rotate_left 2; (· (conv => (lhs; whnf))); (· (exact pick_or))) | refine runk_end (by kernel_rfl) ?_))
          exact ⟨m - 1, by omega, j, n2, by omega, hnew, by (refine leB_of ?_ ?_; (· (repeat (first | exact EnvIs.nil | (refine EnvIs.cons ?_ ?_; (· rfl))))); (· (repeat ((exact ObjsAre.nil)))))⟩
        · rw [hno (by rw [decide_eq_false a3, Bool.and_false])]
          have d4 : decide ((n : Int) > 1099511627776) = true := decide_eq_true (by omega)
          have d5 : decide (1099511627776 < (n : Int)) = true := decide_eq_true (by omega)
          have d6 : decide (1099511627776 < n) = true := decide_eq_true (by omega)
          generalize (x.toNat : Int) = X at *
          (repeat (first | refine awp_reg_seq rfl fun k => ?_ | refine awp_seq ?_ | refine awp_true rfl ?_ | refine awp_skip (?_ : Awp _ _ _ _ _ _) | refine awp_block ?_ | (refine awp_ret ?_; (apply ends_pure ?_ ?_ ?_ ?_ ?_ (.inl rfl); rotate_left 1; (· (exact res_two rfl rfl rfl)); (· rfl); (· rfl); (· rfl); (· rfl))) | (((((apply runk0 rfl rfl (opok_sindex rfl ?_ ?_ rfl ?_ ?_) ?_; rotate_left 3; (· ((conv => (lhs; whnf)); try exact rfl)); (· (conv => (lhs; whnf))); (· omega); (· omega)))))) | (((((apply runk_guard rfl rfl ?_ rfl ?_ ?_; rotate_left 3; (· (conv => (lhs; whnf))); (· (intro hb; (try rw [hb]); apply opok_sindex rfl ?_ ?_ rfl ?_ ?_; rotate_left 3; (· ((conv => (lhs; whnf)); try exact rfl)); (· (conv => (lhs; whnf))); (· omega); (· omega)))))))) | ((refine runk_ung rfl rfl rfl rfl ?_)) | (apply runk0 rfl rfl (opok_move rfl ?_) ?_; rotate_left 1; (· (conv => (lhs; whnf)))) | (apply runk0 rfl rfl (opok_assign rfl ?_) ?_; rotate_left 1; (· (conv => (lhs; whnf)))) | (apply runk0 rfl rfl (opok_bin rfl ?_ ?_ ?_) ?_; rotate_left 3; (· (conv => (lhs; whnf))); (· (conv => (lhs; whnf))); (· (intro w; go_simp; rfl))) | (apply runk0 rfl rfl (opok_pick rfl ?_ ?_) ?_; rotate_left 2; (· (conv => (lhs; whnf))); (· (exact pick_or))) | refine runk_end (by kernel_rfl) ?_))
  · have hi4 : i = l.length := by simp at hc; omega
    subst hi4
    rw [List.take_length] at hdc
    rw [hdc]
    dsimp only
    have e1 : decide ((n : Int) ≤ 1099511627776) = decide (n ≤ 1099511627776) := by rw [decide_eq_decide]; omega
    clear hdc hn him hj wi hl
    cases l with
    | nil =>
      (repeat (first | refine awp_reg_seq rfl fun k => ?_ | refine awp_exit (?_ : Awp _ _ _ _ _ _) | (refine awp_ret ?_; (apply ends_pure ?_ ?_ ?_ ?_ ?_ (.inl rfl); rotate_left 1; (· (exact res_two rfl rfl rfl)); (· rfl); (· rfl); (· rfl); (· rfl))) | (((((apply runk0 rfl rfl (opok_sneq rfl ?_ ?_) ?_; rotate_left 2; (· ((conv => (lhs; whnf)); try exact rfl)); (· ((conv => (lhs; whnf)); try exact rfl))))))) | ((refine runk_off rfl rfl rfl rfl rfl ?_)) | (apply runk0 rfl rfl (opok_move rfl ?_) ?_; rotate_left 1; (· (conv => (lhs; whnf)))) | (apply runk0 rfl rfl (opok_assign rfl ?_) ?_; rotate_left 1; (· (conv => (lhs; whnf)))) | (apply runk0 rfl rfl (opok_pick rfl ?_ ?_) ?_; rotate_left 2; (· (conv => (lhs; whnf))); (· ((conv => (lhs; whnf))))) | refine runk_end (by kernel_rfl) ?_))
    | cons x r =>
      cases h1 : decide (n ≤ 1099511627776) with
      | true =>
        rw [h1] at e1
        (repeat (first | refine awp_reg_seq rfl fun k => ?_ | refine awp_exit (?_ : Awp _ _ _ _ _ _) | (refine awp_ret ?_; (apply ends_pure ?_ ?_ ?_ ?_ ?_ (.inl rfl); rotate_left 1; (· (exact res_two rfl rfl rfl)); (· rfl); (· rfl); (· rfl); (· rfl))) | (((((apply runk0 rfl rfl (opok_sneq rfl ?_ ?_) ?_; rotate_left 2; (· ((conv => (lhs; whnf)); try exact rfl)); (· ((conv => (lhs; whnf)); try exact rfl))))))) | ((refine runk_ung rfl rfl rfl rfl ?_)) | (apply runk0 rfl rfl (opok_move rfl ?_) ?_; rotate_left 1; (· (conv => (lhs; whnf)))) | (apply runk0 rfl rfl (opok_assign rfl ?_) ?_; rotate_left 1; (· (conv => (lhs; whnf)))) | (apply runk0 rfl rfl (opok_bin rfl ?_ ?_ ?_) ?_; rotate_left 3; (· (conv => (lhs; whnf))); (· (conv => (lhs; whnf))); (· (intro w; go_simp; rfl))) | (apply runk0 rfl rfl (opok_pick rfl ?_ ?_) ?_; rotate_left 2; (· (conv => (lhs; whnf))); (· (exact pick_and))) | refine runk_end (by kernel_rfl) ?_))
      | false =>
        rw [h1] at e1
        (repeat (first | refine awp_reg_seq rfl fun k => ?_ | refine awp_exit (?_ : Awp _ _ _ _ _ _) | (refine awp_ret ?_; (apply ends_pure ?_ ?_ ?_ ?_ ?_ (.inl rfl); rotate_left 1; (· (exact res_two rfl rfl rfl)); (· rfl); (· rfl); (· rfl); (· rfl))) | (((((apply runk0 rfl rfl (opok_sneq rfl ?_ ?_) ?_; rotate_left 2; (· ((conv => (lhs; whnf)); try exact rfl)); (· ((conv => (lhs; whnf)); try exact rfl))))))) | ((refine runk_ung rfl rfl rfl rfl ?_)) | (apply runk0 rfl rfl (opok_move rfl ?_) ?_; rotate_left 1; (· (conv => (lhs; whnf)))) | (apply runk0 rfl rfl (opok_assign rfl ?_) ?_; rotate_left 1; (· (conv => (lhs; whnf)))) | (apply runk0 rfl rfl (opok_bin rfl ?_ ?_ ?_) ?_; rotate_left 3; (· (conv => (lhs; whnf))); (· (conv => (lhs; whnf))); (· (intro w; go_simp; rfl))) | (apply runk0 rfl rfl (opok_pick rfl ?_ ?_) ?_; rotate_left 2; (· (conv => (lhs; whnf))); (· (exact pick_and))) | refine runk_end (by kernel_rfl) ?_))
end Go.Proofs.YtboddbheljenhaaGreatDoor
