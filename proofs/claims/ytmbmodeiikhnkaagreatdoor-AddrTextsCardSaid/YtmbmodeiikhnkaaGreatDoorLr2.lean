/-
  Layer 1: addr.longestRun of any groups.
-/
import Derived.Test.YtmbmodeiikhnkaaGreatDoorPrt1
import Derived.Test.YtmbmodeiikhnkaaGreatDoorG12
namespace Go.Proofs.YtmbmodeiikhnkaaGreatDoor
open Go.RowKit
/-- How many zeros stand in front. -/
def zr : List Nat → Nat
  | [] => 0
  | x :: xs => if x = 0 then zr xs + 1 else 0
/-- The longest run after some rounds: where it begins, how long it is. -/
def lrs (xs : List Nat) : Nat → Nat × Nat
  | 0 => (0, 0)
  | i + 1 => if zr (xs.drop i) > (lrs xs i).2 then (i, zr (xs.drop i)) else lrs xs i
theorem zr_le : ∀ xs : List Nat, zr xs ≤ xs.length
  | [] => Nat.le_refl 0
  | x :: xs => by
    unfold zr
    split
    · have := zr_le xs; simp; omega
    · simp
theorem zr_drop {xs : List Nat} {s : Nat} (h : s < xs.length) : zr (xs.drop s) = if xs[s] = 0 then zr (xs.drop (s + 1)) + 1 else 0 := by
  rw [List.drop_eq_getElem_cons h]; rfl
theorem lrs_bd (xs : List Nat) (h8 : xs.length = 8) : ∀ i, i ≤ 8 → (lrs xs i).1 + (lrs xs i).2 ≤ 8 ∧ (lrs xs i).1 ≤ 8
  | 0, _ => ⟨by simp [lrs], by simp [lrs]⟩
  | i + 1, hi => by
    unfold lrs
    have := lrs_bd xs h8 i (by omega)
    have h2 := zr_le (xs.drop i)
    rw [List.length_drop, h8] at h2
    split
    · exact ⟨by simp; omega, by simp; omega⟩
    · exact this
set_option maxHeartbeats 16000000 in
set_option maxRecDepth 100000 in
theorem longest_spec (xs : List Nat) (h8 : xs.length = 8) : Spec Tryz.prog 42 [.agg (ints .u16 (nats xs))] [] (.tuple [.val (.int .i64 ((lrs xs 8).1 : Int)), .val (.int .i64 ((lrs xs 8).2 : Int))]) [] := by
  have hN : (nats xs).length = 8 := by simp [nats, h8]
  refine spec_of_awp Tryz.func42 rfl (Nat.le_of_ble_eq_true rfl) fun ini => ?_
  simp only [Tryz.ntmps42]
  (repeat (first | refine awp_reg_seq rfl fun k => ?_ | refine awp_seq ?_ | refine awp_block ?_ | (apply runk0 rfl rfl (opok_box_ro rfl ?_ ?_ ?_) ?_; rotate_left 2; (· (conv => (lhs; whnf))); (· rfl); (· (conv => (lhs; whnf)))) | (apply runk0 rfl rfl (opok_move rfl ?_) ?_; rotate_left 1; (· (conv => (lhs; whnf)))) | (apply runk0 rfl rfl (opok_assign rfl ?_) ?_; rotate_left 1; (· (conv => (lhs; whnf)))) | refine runk_end (by kernel_rfl) ?_))
  refine awp_loop (fun m st => ∃ i : Nat, i + m = 8 ∧ st.leB ⟨[(1, .rref (ints .u16 (nats xs))), (4, .val (.int .i64 ((lrs xs i).1 : Int))), (5, .val (.int .i64 ((lrs xs i).2 : Int))), (8, .val (.int .i64 (i : Int)))], []⟩) 8 ⟨0, by omega, ?_⟩ ?_
  · (refine leB_of ?_ ?_; (· (repeat (first | exact EnvIs.nil | (refine EnvIs.cons ?_ ?_; (· first | rfl | ((conv => (lhs; whnf)); first | (simp [lrs]; done) | (simp [lrs]; omega))))))); (· (repeat (first | exact ObjsAre.nil | (refine ObjsAre.cons ?_ ?_; (· first | rfl | ((conv => (lhs; whnf)); first | (simp [lrs]; done) | (simp [lrs]; omega))))))))
  · rintro m st ⟨i, him, hle⟩
    refine awp_less hle ?_
    clear hle st
    have wi : IntKind.i64.wrap ((i : Int) + 1) = ((i + 1 : Nat) : Int) := by rw [IntKind.wrap_i64]; omega
    obtain ⟨j, hj⟩ : ∃ j, i + 1 = j := ⟨_, rfl⟩
    rw [hj] at wi
    (repeat (first | refine awp_reg_seq rfl fun k => ?_ | refine awp_seq ?_ | (apply runk0 rfl rfl (opok_bin rfl ?_ ?_ ?_) ?_; rotate_left 3; (· (conv => (lhs; whnf))); (· (conv => (lhs; whnf))); (· (intro w; go_simp; first | done | rfl))) | refine runk_end (by kernel_rfl) ?_))
    refine awp_if rfl (fun hc => ?_) (fun hc => ?_)
    · have hi : i < 8 := by simp at hc; omega
      clear hc
      (repeat (first | refine awp_reg_seq rfl fun k => ?_ | refine awp_seq ?_ | refine awp_skip (?_ : Awp _ _ _ _ _ _) | refine awp_block ?_ | (apply runk0 rfl rfl (opok_move rfl ?_) ?_; rotate_left 1; (· (conv => (lhs; whnf)))) | (apply runk0 rfl rfl (opok_assign rfl ?_) ?_; rotate_left 1; (· (conv => (lhs; whnf)))) | refine runk_end (by kernel_rfl) ?_))
      refine awp_loop (fun m st => ∃ n : Nat, i + n + m = 8 ∧ zr (xs.drop i) = n + zr (xs.drop (i + n)) ∧ st.leB ⟨[(1, .rref (ints .u16 (nats xs))), (4, .val (.int .i64 ((lrs xs i).1 : Int))), (5, .val (.int .i64 ((lrs xs i).2 : Int))), (6, .val (.int .i64 (i : Int))), (7, .val (.int .i64 (n : Int))), (8, .val (.int .i64 (i : Int)))], []⟩) (8 - i) ⟨0, by omega, by simp, ?_⟩ ?_
      · (refine leB_of ?_ ?_; (· (repeat (first | exact EnvIs.nil | (refine EnvIs.cons ?_ ?_; (· first | rfl | ((conv => (lhs; whnf)); first | (simp [lrs]; done) | (simp [lrs]; omega))))))); (· (repeat (first | exact ObjsAre.nil | (refine ObjsAre.cons ?_ ?_; (· first | rfl | ((conv => (lhs; whnf)); first | (simp [lrs]; done) | (simp [lrs]; omega))))))))
      · rintro m' st ⟨n, hnm, hz, hle⟩
        refine awp_less hle ?_
        clear hle st
        obtain ⟨s, hs⟩ : ∃ s, i + n = s := ⟨_, rfl⟩
        rw [hs] at hz
        have ws : IntKind.i64.wrap ((i : Int) + (n : Int)) = (s : Int) := by rw [IntKind.wrap_i64]; omega
        have wn : IntKind.i64.wrap ((n : Int) + 1) = ((n + 1 : Nat) : Int) := by rw [IntKind.wrap_i64]; omega
        have fin : zr (xs.drop i) = n → decide ((n : Int) > ((lrs xs i).2 : Int)) = decide (n > (lrs xs i).2) := fun _ => by rw [decide_eq_decide]; omega
        by_cases hs8 : s < 8
        · have d1 : decide ((s : Int) < 8) = true := by simp; omega
          have hlt : s < xs.length := by omega
          obtain ⟨x, hx⟩ : ∃ x, xs[s] = x := ⟨_, rfl⟩
          have hLx : (List.drop s (ints .u16 (nats xs)))[0]? = some (.val (.int .u16 (x : Int))) := by
            rw [List.getElem?_drop, Nat.add_zero, ints_get]
            simp [nats, List.getElem?_eq_getElem hlt, hx]
          rw [zr_drop hlt, hx] at hz
          by_cases hx0 : x = 0
          · subst hx0
            rw [if_pos rfl] at hz
            obtain ⟨n', hn'⟩ : ∃ n', n + 1 = n' := ⟨_, rfl⟩
            rw [hn'] at wn
            (repeat (first | refine awp_reg_seq rfl fun k => ?_ | refine awp_reg rfl fun k => ?_ | refine awp_seq ?_ | refine awp_true rfl ?_ | refine awp_skip (?_ : Awp _ _ _ _ _ _) | refine awp_block ?_ | (((apply runk0 rfl rfl (opok_indexPR rfl ?_ ?_ ?_ ?_ ?_ ?_) ?_; rotate_left 6; (· (conv => (lhs; whnf))); (· (conv => (lhs; whnf))); (· (conv => (lhs; whnf; arg 1; whnf))); (· (unfold sizeIs; conv => (lhs; whnf; arg 1; whnf))); (· omega); (· omega)))) | (((apply runk0 rfl rfl (opok_loadR rfl ?_ ?_ ?_) ?_; rotate_left 2; (· (conv => (lhs; whnf))); (· rfl); (· (simp only [Int.toNat_natCast, Nat.mul_one, List.drop_drop]; assumption))))) | ((refine runk_ung rfl rfl rfl rfl ?_)) | (apply runk0 rfl rfl (opok_move rfl ?_) ?_; rotate_left 1; (· (conv => (lhs; whnf)))) | (apply runk0 rfl rfl (opok_assign rfl ?_) ?_; rotate_left 1; (· (conv => (lhs; whnf)))) | (apply runk0 rfl rfl (opok_bin rfl ?_ ?_ ?_) ?_; rotate_left 3; (· (conv => (lhs; whnf))); (· (conv => (lhs; whnf))); (· (intro w; go_simp; rfl))) | (apply runk0 rfl rfl (opok_pick rfl ?_ ?_) ?_; rotate_left 2; (· (conv => (lhs; whnf))); (· (exact pick_and))) | refine runk_end (by kernel_rfl) ?_))
            exact ⟨m' - 1, by omega, n', by omega, by rw [hz, show i + n' = s + 1 by omega]; omega, by (refine leB_of ?_ ?_; (· (repeat (first | exact EnvIs.nil | (refine EnvIs.cons ?_ ?_; (· first | rfl | ((conv => (lhs; whnf)); first | (simp []; done) | (simp []; omega))))))); (· (repeat (first | exact ObjsAre.nil | (refine ObjsAre.cons ?_ ?_; (· first | rfl | ((conv => (lhs; whnf)); first | (simp []; done) | (simp []; omega))))))))⟩
          · have d2 : ((x : Int) == 0) = false := by simp; omega
            rw [if_neg hx0] at hz
            cases d3 : decide (n > (lrs xs i).2) with
            | true =>
              have d4 : decide ((n : Int) > ((lrs xs i).2 : Int)) = true := by rw [fin hz]; exact d3
              have hl : lrs xs j = (i, n) := by subst hj; rw [lrs, hz, Nat.add_zero, if_pos (by simpa using d3)]
              generalize lrs xs i = P at *
              (repeat (first | refine awp_reg_seq rfl fun k => ?_ | refine awp_reg rfl fun k => ?_ | refine awp_seq ?_ | refine awp_true rfl ?_ | refine awp_false rfl ?_ | refine awp_exit (?_ : Awp _ _ _ _ _ _) | (((apply runk0 rfl rfl (opok_indexPR rfl ?_ ?_ ?_ ?_ ?_ ?_) ?_; rotate_left 6; (· (conv => (lhs; whnf))); (· (conv => (lhs; whnf))); (· (conv => (lhs; whnf; arg 1; whnf))); (· (unfold sizeIs; conv => (lhs; whnf; arg 1; whnf))); (· omega); (· omega)))) | (((apply runk0 rfl rfl (opok_loadR rfl ?_ ?_ ?_) ?_; rotate_left 2; (· (conv => (lhs; whnf))); (· rfl); (· (simp only [Int.toNat_natCast, Nat.mul_one, List.drop_drop]; assumption))))) | ((refine runk_ung rfl rfl rfl rfl ?_)) | (apply runk0 rfl rfl (opok_move rfl ?_) ?_; rotate_left 1; (· (conv => (lhs; whnf)))) | (apply runk0 rfl rfl (opok_assign rfl ?_) ?_; rotate_left 1; (· (conv => (lhs; whnf)))) | (apply runk0 rfl rfl (opok_bin rfl ?_ ?_ ?_) ?_; rotate_left 3; (· (conv => (lhs; whnf))); (· (conv => (lhs; whnf))); (· (intro w; go_simp; rfl))) | (apply runk0 rfl rfl (opok_pick rfl ?_ ?_) ?_; rotate_left 2; (· (conv => (lhs; whnf))); (· (exact pick_and))) | refine runk_end (by kernel_rfl) ?_))
              exact ⟨m - 1, by omega, j, by omega, by rw [hl]; (refine leB_of ?_ ?_; (· (repeat (first | exact EnvIs.nil | (refine EnvIs.cons ?_ ?_; (· first | rfl | ((conv => (lhs; whnf)); first | (simp []; done) | (simp []; omega))))))); (· (repeat (first | exact ObjsAre.nil | (refine ObjsAre.cons ?_ ?_; (· first | rfl | ((conv => (lhs; whnf)); first | (simp []; done) | (simp []; omega))))))))⟩
            | false =>
              have d4 : decide ((n : Int) > ((lrs xs i).2 : Int)) = false := by rw [fin hz]; exact d3
              have hl : lrs xs j = lrs xs i := by subst hj; rw [lrs, hz, Nat.add_zero, if_neg (by simpa using d3)]
              generalize lrs xs i = P at *
              (repeat (first | refine awp_reg_seq rfl fun k => ?_ | refine awp_reg rfl fun k => ?_ | refine awp_seq ?_ | refine awp_false rfl ?_ | refine awp_skip (?_ : Awp _ _ _ _ _ _) | refine awp_exit (?_ : Awp _ _ _ _ _ _) | (((apply runk0 rfl rfl (opok_indexPR rfl ?_ ?_ ?_ ?_ ?_ ?_) ?_; rotate_left 6; (· (conv => (lhs; whnf))); (· (conv => (lhs; whnf))); (· (conv => (lhs; whnf; arg 1; whnf))); (· (unfold sizeIs; conv => (lhs; whnf; arg 1; whnf))); (· omega); (· omega)))) | (((apply runk0 rfl rfl (opok_loadR rfl ?_ ?_ ?_) ?_; rotate_left 2; (· (conv => (lhs; whnf))); (· rfl); (· (simp only [Int.toNat_natCast, Nat.mul_one, List.drop_drop]; assumption))))) | ((refine runk_ung rfl rfl rfl rfl ?_)) | (apply runk0 rfl rfl (opok_move rfl ?_) ?_; rotate_left 1; (· (conv => (lhs; whnf)))) | (apply runk0 rfl rfl (opok_bin rfl ?_ ?_ ?_) ?_; rotate_left 3; (· (conv => (lhs; whnf))); (· (conv => (lhs; whnf))); (· (intro w; go_simp; rfl))) | (apply runk0 rfl rfl (opok_pick rfl ?_ ?_) ?_; rotate_left 2; (· (conv => (lhs; whnf))); (· (exact pick_and))) | refine runk_end (by kernel_rfl) ?_))
              exact ⟨m - 1, by omega, j, by omega, by rw [hl]; (refine leB_of ?_ ?_; (· (repeat (first | exact EnvIs.nil | (refine EnvIs.cons ?_ ?_; (· first | rfl | ((conv => (lhs; whnf)); first | (simp []; done) | (simp []; omega))))))); (· (repeat (first | exact ObjsAre.nil | (refine ObjsAre.cons ?_ ?_; (· first | rfl | ((conv => (lhs; whnf)); first | (simp []; done) | (simp []; omega))))))))⟩
        · have d1 : decide ((s : Int) < 8) = false := by simp; omega
          have hz0 : zr (xs.drop s) = 0 := by rw [List.drop_eq_nil_of_le (by omega)]; rfl
          rw [hz0, Nat.add_zero] at hz
          cases d3 : decide (n > (lrs xs i).2) with
          | true =>
            have d4 : decide ((n : Int) > ((lrs xs i).2 : Int)) = true := by rw [fin hz]; exact d3
            have hl : lrs xs j = (i, n) := by subst hj; rw [lrs, hz, if_pos (by simpa using d3)]
            generalize lrs xs i = P at *
            (repeat (first | refine awp_reg_seq rfl fun k => ?_ | refine awp_reg rfl fun k => ?_ | refine awp_seq ?_ | refine awp_true rfl ?_ | refine awp_false rfl ?_ | refine awp_exit (?_ : Awp _ _ _ _ _ _) | ((refine runk_off rfl rfl rfl rfl rfl ?_)) | (apply runk0 rfl rfl (opok_move rfl ?_) ?_; rotate_left 1; (· (conv => (lhs; whnf)))) | (apply runk0 rfl rfl (opok_assign rfl ?_) ?_; rotate_left 1; (· (conv => (lhs; whnf)))) | (apply runk0 rfl rfl (opok_bin rfl ?_ ?_ ?_) ?_; rotate_left 3; (· (conv => (lhs; whnf))); (· (conv => (lhs; whnf))); (· (intro w; go_simp; rfl))) | (apply runk0 rfl rfl (opok_pick rfl ?_ ?_) ?_; rotate_left 2; (· (conv => (lhs; whnf))); (· ((conv => (lhs; whnf))))) | refine runk_end (by kernel_rfl) ?_))
            exact ⟨m - 1, by omega, j, by omega, by rw [hl]; (refine leB_of ?_ ?_; (· (repeat (first | exact EnvIs.nil | (refine EnvIs.cons ?_ ?_; (· first | rfl | ((conv => (lhs; whnf)); first | (simp []; done) | (simp []; omega))))))); (· (repeat (first | exact ObjsAre.nil | (refine ObjsAre.cons ?_ ?_; (· first | rfl | ((conv => (lhs; whnf)); first | (simp []; done) | (simp []; omega))))))))⟩
          | false =>
            have d4 : decide ((n : Int) > ((lrs xs i).2 : Int)) = false := by rw [fin hz]; exact d3
            have hl : lrs xs j = lrs xs i := by subst hj; rw [lrs, hz, if_neg (by simpa using d3)]
            generalize lrs xs i = P at *
            (repeat (first | refine awp_reg_seq rfl fun k => ?_ | refine awp_reg rfl fun k => ?_ | refine awp_seq ?_ | refine awp_false rfl ?_ | refine awp_skip (?_ : Awp _ _ _ _ _ _) | refine awp_exit (?_ : Awp _ _ _ _ _ _) | ((refine runk_off rfl rfl rfl rfl rfl ?_)) | (apply runk0 rfl rfl (opok_move rfl ?_) ?_; rotate_left 1; (· (conv => (lhs; whnf)))) | (apply runk0 rfl rfl (opok_bin rfl ?_ ?_ ?_) ?_; rotate_left 3; (· (conv => (lhs; whnf))); (· (conv => (lhs; whnf))); (· (intro w; go_simp; rfl))) | (apply runk0 rfl rfl (opok_pick rfl ?_ ?_) ?_; rotate_left 2; (· (conv => (lhs; whnf))); (· ((conv => (lhs; whnf))))) | refine runk_end (by kernel_rfl) ?_))
            exact ⟨m - 1, by omega, j, by omega, by rw [hl]; (refine leB_of ?_ ?_; (· (repeat (first | exact EnvIs.nil | (refine EnvIs.cons ?_ ?_; (· first | rfl | ((conv => (lhs; whnf)); first | (simp []; done) | (simp []; omega))))))); (· (repeat (first | exact ObjsAre.nil | (refine ObjsAre.cons ?_ ?_; (· first | rfl | ((conv => (lhs; whnf)); first | (simp []; done) | (simp []; omega))))))))⟩
    · have hi : i = 8 := by simp at hc; omega
      subst hi
      (repeat (first | refine awp_reg_seq rfl fun k => ?_ | refine awp_exit (?_ : Awp _ _ _ _ _ _) | (refine awp_ret ?_; (apply ends_pure ?_ ?_ ?_ ?_ ?_ (.inl rfl); rotate_left 1; (· (exact res_two rfl rfl rfl)); (· rfl); (· rfl); (· rfl); (· rfl))) | (apply runk0 rfl rfl (opok_move rfl ?_) ?_; rotate_left 1; (· (conv => (lhs; whnf)))) | (apply runk0 rfl rfl (opok_assign rfl ?_) ?_; rotate_left 1; (· (conv => (lhs; whnf)))) | refine runk_end (by kernel_rfl) ?_))
end Go.Proofs.YtmbmodeiikhnkaaGreatDoor
