/-
  addr.Parse of any text.
-/
import Derived.Test.YtmbmodeiikhnkaaGreatDoorP6g
import Derived.Test.YtmbmodeiikhnkaaGreatDoorG14
import Derived.Lib.Case
namespace Go.Proofs.YtmbmodeiikhnkaaGreatDoor
open Go.RowKit
set_option maxHeartbeats 16000000 in
set_option maxRecDepth 100000 in
theorem parse_spec (l : List UInt8) : Spec Tryz.prog 12 [.val (bstr l)] [] (prsV l) [] := by
  have ct := contains_spec l 58
  unfold prsV prsA
  by_cases c : 45 < l.length
  · rw [if_pos c]
    have d1 : decide ((l.length : Int) > 45) = true := decide_eq_true (by omega)
    have d2 : decide (45 < (l.length : Int)) = true := decide_eq_true (by omega)
    have d3 : decide (45 < l.length) = true := decide_eq_true (by omega)
    dsimp only
    refine spec_of_awp Tryz.func12 rfl (Nat.le_of_ble_eq_true rfl) fun ini => ?_
    simp only [Tryz.ntmps12]
    (repeat (first | refine awp_reg_seq rfl fun k => ?_ | refine awp_seq ?_ | refine awp_true rfl ?_ | (refine awp_ret ?_; (apply ends_pure ?_ ?_ ?_ ?_ ?_ (.inl rfl); rotate_left 1; (· (exact res_cell2 rfl rfl rfl rfl rfl rfl)); (· rfl); (· rfl); (· rfl); (· rfl))) | (((((apply runk0 rfl rfl (opok_slen rfl ?_ rfl) ?_; rotate_left 1; (· ((conv => (lhs; whnf)); try exact rfl))))))) | (apply runk0 rfl rfl (opok_move rfl ?_) ?_; rotate_left 1; (· (conv => (lhs; whnf)))) | (apply runk0 rfl rfl (opok_assign rfl ?_) ?_; rotate_left 1; (· (conv => (lhs; whnf)))) | (apply runk0 rfl rfl (opok_bin rfl ?_ ?_ ?_) ?_; rotate_left 3; (· (conv => (lhs; whnf))); (· (conv => (lhs; whnf))); (· (intro w; go_simp; rfl))) | (apply runk0 rfl rfl (opok_build rfl ?_ ?_ ?_ ?_ ?_) ?_; rotate_left 5; (· (conv => (lhs; whnf; arg 1; whnf))); (· (conv => (lhs; whnf; arg 1; repeat (whnf; arg 2)))); (· (conv => (lhs; whnf; arg 1; whnf))); (· (repeat ((exact PartsOf.nil)))); (· (conv => (lhs; whnf; arg 1; repeat (whnf; arg 2))))) | (apply runk_alloc rfl rfl rfl ?_ ?_ ?_; rotate_left 2; (· (conv => (lhs; whnf; arg 1; whnf))); (· (conv => (lhs; whnf)))) | (apply runk_store rfl rfl rfl ?_ ?_ ?_ ?_ ?_ ?_ ?_ ?_ ?_ ?_ ?_; rotate_left 9; (· (conv => (lhs; whnf))); (· (conv => (lhs; whnf))); (· (conv => (lhs; whnf; arg 1; whnf; arg 2; whnf))); (· rfl); (· (conv => (lhs; whnf))); (· rfl); (· (unfold sizeIs; conv => (lhs; whnf; arg 1; whnf))); (· rfl); (· rfl); (· (conv => (lhs; repeat (whnf; arg 2))))) | refine runk_end (by kernel_rfl) ?_))
  · rw [if_neg c]
    have d1 : decide ((l.length : Int) > 45) = false := decide_eq_false (by omega)
    have d2 : decide (45 < (l.length : Int)) = false := decide_eq_false (by omega)
    have d3 : decide (45 < l.length) = false := decide_eq_false (by omega)
    cases hb : hasB l 58 with
    | false =>
      rw [hb] at ct
      rw [if_neg (by decide)]
      have p4 := parse4_spec l (by omega)
      unfold p4V at p4
      cases e : p4N l with
      | none =>
        rw [e] at p4
        dsimp only [Option.map_none] at p4 ⊢
        refine spec_of_awp Tryz.func12 rfl (Nat.le_of_ble_eq_true rfl) fun ini => ?_
        simp only [Tryz.ntmps12]
        (repeat (first | refine awp_reg_seq rfl fun k => ?_ | refine awp_seq ?_ | refine awp_true rfl ?_ | refine awp_false rfl ?_ | refine awp_skip (?_ : Awp _ _ _ _ _ _) | (refine awp_ret ?_; (apply ends_pure ?_ ?_ ?_ ?_ ?_ (.inl rfl); rotate_left 1; (· (exact res_cell2 rfl rfl rfl rfl rfl rfl)); (· rfl); (· rfl); (· rfl); (· rfl))) | (apply runk_pure rfl rfl rfl ?_ ?_ ?_ ?_ ?_ ?_ ?_ ?_; rotate_left 6; (· (conv => (lhs; whnf))); (· exact Tryz.func32); (· rfl); (· rfl); (· exact (ct)); (· (repeat (first | exact Rens.nil | (refine Rens.cons ?_ ?_; (· ((refine Ren.pureR ?_ rfl; (rfl)))))))); (· rfl)) | (apply runk_pure rfl rfl rfl ?_ ?_ ?_ ?_ ?_ ?_ ?_ ?_; rotate_left 6; (· (conv => (lhs; whnf))); (· exact Tryz.func33); (· rfl); (· rfl); (· exact (p4)); (· (repeat (first | exact Rens.nil | (refine Rens.cons ?_ ?_; (· ((refine Ren.pureR ?_ rfl; (rfl)))))))); (· rfl)) | (((((apply runk0 rfl rfl (opok_slen rfl ?_ rfl) ?_; rotate_left 1; (· ((conv => (lhs; whnf)); try exact rfl))))))) | (apply runk0 rfl rfl (opok_move rfl ?_) ?_; rotate_left 1; (· (conv => (lhs; whnf)))) | (apply runk0 rfl rfl (opok_assign rfl ?_) ?_; rotate_left 1; (· (conv => (lhs; whnf)))) | (apply runk0 rfl rfl (opok_bin rfl ?_ ?_ ?_) ?_; rotate_left 3; (· (conv => (lhs; whnf))); (· (conv => (lhs; whnf))); (· (intro w; go_simp; rfl))) | (apply runk0 rfl rfl (opok_un rfl ?_ ?_) ?_; rotate_left 2; (· (conv => (lhs; whnf))); (· (intro w; go_simp; rfl))) | (apply runk0 rfl rfl (opok_extract rfl ?_ ?_) ?_; rotate_left 2; (· (conv => (lhs; whnf))); (· (conv => (lhs; whnf; arg 1; whnf)))) | (apply runk0 rfl rfl (opok_build rfl ?_ ?_ ?_ ?_ ?_) ?_; rotate_left 5; (· (conv => (lhs; whnf; arg 1; whnf))); (· (conv => (lhs; whnf; arg 1; repeat (whnf; arg 2)))); (· (conv => (lhs; whnf; arg 1; whnf))); (· (repeat ((exact PartsOf.nil)))); (· (conv => (lhs; whnf; arg 1; repeat (whnf; arg 2))))) | (apply runk_alloc rfl rfl rfl ?_ ?_ ?_; rotate_left 2; (· (conv => (lhs; whnf; arg 1; whnf))); (· (conv => (lhs; whnf)))) | (apply runk_store rfl rfl rfl ?_ ?_ ?_ ?_ ?_ ?_ ?_ ?_ ?_ ?_ ?_; rotate_left 9; (· (conv => (lhs; whnf))); (· (conv => (lhs; whnf))); (· (conv => (lhs; whnf; arg 1; whnf; arg 2; whnf))); (· rfl); (· (conv => (lhs; whnf))); (· rfl); (· (unfold sizeIs; conv => (lhs; whnf; arg 1; whnf))); (· rfl); (· rfl); (· (conv => (lhs; repeat (whnf; arg 2))))) | refine runk_end (by kernel_rfl) ?_))
      | some n =>
        rw [e] at p4
        dsimp only [Option.map_some] at p4 ⊢
        refine spec_of_awp Tryz.func12 rfl (Nat.le_of_ble_eq_true rfl) fun ini => ?_
        simp only [Tryz.ntmps12]
        (repeat (first | refine awp_reg_seq rfl fun k => ?_ | refine awp_seq ?_ | refine awp_true rfl ?_ | refine awp_false rfl ?_ | refine awp_skip (?_ : Awp _ _ _ _ _ _) | (refine awp_ret ?_; (apply ends_pure ?_ ?_ ?_ ?_ ?_ (.inl rfl); rotate_left 1; (· (exact res_cell2 rfl rfl rfl rfl rfl rfl)); (· rfl); (· rfl); (· rfl); (· rfl))) | (apply runk_pure rfl rfl rfl ?_ ?_ ?_ ?_ ?_ ?_ ?_ ?_; rotate_left 6; (· (conv => (lhs; whnf))); (· exact Tryz.func32); (· rfl); (· rfl); (· exact (ct)); (· (repeat (first | exact Rens.nil | (refine Rens.cons ?_ ?_; (· ((refine Ren.pureR ?_ rfl; (rfl)))))))); (· rfl)) | (apply runk_pure rfl rfl rfl ?_ ?_ ?_ ?_ ?_ ?_ ?_ ?_; rotate_left 6; (· (conv => (lhs; whnf))); (· exact Tryz.func33); (· rfl); (· rfl); (· exact (p4)); (· (repeat (first | exact Rens.nil | (refine Rens.cons ?_ ?_; (· ((refine Ren.pureR ?_ rfl; (rfl)))))))); (· rfl)) | (((((apply runk0 rfl rfl (opok_slen rfl ?_ rfl) ?_; rotate_left 1; (· ((conv => (lhs; whnf)); try exact rfl))))))) | (apply runk0 rfl rfl (opok_move rfl ?_) ?_; rotate_left 1; (· (conv => (lhs; whnf)))) | (apply runk0 rfl rfl (opok_assign rfl ?_) ?_; rotate_left 1; (· (conv => (lhs; whnf)))) | (apply runk0 rfl rfl (opok_bin rfl ?_ ?_ ?_) ?_; rotate_left 3; (· (conv => (lhs; whnf))); (· (conv => (lhs; whnf))); (· (intro w; go_simp; rfl))) | (apply runk0 rfl rfl (opok_un rfl ?_ ?_) ?_; rotate_left 2; (· (conv => (lhs; whnf))); (· (intro w; go_simp; rfl))) | (apply runk0 rfl rfl (opok_extract rfl ?_ ?_) ?_; rotate_left 2; (· (conv => (lhs; whnf))); (· (conv => (lhs; whnf; arg 1; whnf)))) | (apply runk0 rfl rfl (opok_build rfl ?_ ?_ ?_ ?_ ?_) ?_; rotate_left 5; (· (conv => (lhs; whnf; arg 1; whnf))); (· (conv => (lhs; whnf; arg 1; repeat (whnf; arg 2)))); (· (conv => (lhs; whnf; arg 1; whnf))); (· (repeat (first | exact PartsOf.nil | (apply PartsOf.cons; (· (conv => (lhs; whnf))))))); (· (conv => (lhs; whnf; arg 1; repeat (whnf; arg 2))))) | (apply runk_alloc rfl rfl rfl ?_ ?_ ?_; rotate_left 2; (· (conv => (lhs; whnf; arg 1; whnf))); (· (conv => (lhs; whnf)))) | (apply runk_store rfl rfl rfl ?_ ?_ ?_ ?_ ?_ ?_ ?_ ?_ ?_ ?_ ?_; rotate_left 9; (· (conv => (lhs; whnf))); (· (conv => (lhs; whnf))); (· (conv => (lhs; whnf; arg 1; whnf; arg 2; whnf))); (· rfl); (· (conv => (lhs; whnf))); (· rfl); (· (unfold sizeIs; conv => (lhs; whnf; arg 1; whnf))); (· rfl); (· rfl); (· (conv => (lhs; repeat (whnf; arg 2))))) | refine runk_end (by kernel_rfl) ?_))
    | true =>
      rw [hb] at ct
      rw [if_pos rfl]
      have p6 := parse6_spec l (by omega)
      unfold p6V at p6
      cases e : p6N l with
      | none =>
        rw [e] at p6
        dsimp only [Option.map_none] at p6 ⊢
        refine spec_of_awp Tryz.func12 rfl (Nat.le_of_ble_eq_true rfl) fun ini => ?_
        simp only [Tryz.ntmps12]
        (repeat (first | refine awp_reg_seq rfl fun k => ?_ | refine awp_seq ?_ | refine awp_true rfl ?_ | refine awp_false rfl ?_ | refine awp_skip (?_ : Awp _ _ _ _ _ _) | (refine awp_ret ?_; (apply ends_pure ?_ ?_ ?_ ?_ ?_ (.inl rfl); rotate_left 1; (· (exact res_cell2 rfl rfl rfl rfl rfl rfl)); (· rfl); (· rfl); (· rfl); (· rfl))) | (apply runk_pure rfl rfl rfl ?_ ?_ ?_ ?_ ?_ ?_ ?_ ?_; rotate_left 6; (· (conv => (lhs; whnf))); (· exact Tryz.func32); (· rfl); (· rfl); (· exact (ct)); (· (repeat (first | exact Rens.nil | (refine Rens.cons ?_ ?_; (· ((refine Ren.pureR ?_ rfl; (rfl)))))))); (· rfl)) | (apply runk_pure rfl rfl rfl ?_ ?_ ?_ ?_ ?_ ?_ ?_ ?_; rotate_left 6; (· (conv => (lhs; whnf))); (· exact Tryz.func34); (· rfl); (· rfl); (· exact (p6)); (· (repeat (first | exact Rens.nil | (refine Rens.cons ?_ ?_; (· ((refine Ren.pureR ?_ rfl; (rfl)))))))); (· rfl)) | (((((apply runk0 rfl rfl (opok_slen rfl ?_ rfl) ?_; rotate_left 1; (· ((conv => (lhs; whnf)); try exact rfl))))))) | (apply runk0 rfl rfl (opok_move rfl ?_) ?_; rotate_left 1; (· (conv => (lhs; whnf)))) | (apply runk0 rfl rfl (opok_assign rfl ?_) ?_; rotate_left 1; (· (conv => (lhs; whnf)))) | (apply runk0 rfl rfl (opok_bin rfl ?_ ?_ ?_) ?_; rotate_left 3; (· (conv => (lhs; whnf))); (· (conv => (lhs; whnf))); (· (intro w; go_simp; rfl))) | (apply runk0 rfl rfl (opok_un rfl ?_ ?_) ?_; rotate_left 2; (· (conv => (lhs; whnf))); (· (intro w; go_simp; rfl))) | (apply runk0 rfl rfl (opok_extract rfl ?_ ?_) ?_; rotate_left 2; (· (conv => (lhs; whnf))); (· (conv => (lhs; whnf; arg 1; whnf)))) | (apply runk0 rfl rfl (opok_build rfl ?_ ?_ ?_ ?_ ?_) ?_; rotate_left 5; (· (conv => (lhs; whnf; arg 1; whnf))); (· (conv => (lhs; whnf; arg 1; repeat (whnf; arg 2)))); (· (conv => (lhs; whnf; arg 1; whnf))); (· (repeat ((exact PartsOf.nil)))); (· (conv => (lhs; whnf; arg 1; repeat (whnf; arg 2))))) | (apply runk_alloc rfl rfl rfl ?_ ?_ ?_; rotate_left 2; (· (conv => (lhs; whnf; arg 1; whnf))); (· (conv => (lhs; whnf)))) | (apply runk_store rfl rfl rfl ?_ ?_ ?_ ?_ ?_ ?_ ?_ ?_ ?_ ?_ ?_; rotate_left 9; (· (conv => (lhs; whnf))); (· (conv => (lhs; whnf))); (· (conv => (lhs; whnf; arg 1; whnf; arg 2; whnf))); (· rfl); (· (conv => (lhs; whnf))); (· rfl); (· (unfold sizeIs; conv => (lhs; whnf; arg 1; whnf))); (· rfl); (· rfl); (· (conv => (lhs; repeat (whnf; arg 2))))) | refine runk_end (by kernel_rfl) ?_))
      | some xs =>
        rw [e] at p6
        obtain ⟨h8, hlt⟩ := p6N_ok e
        obtain ⟨a, b, c, d, e', f, g, i, rfl⟩ := list8 h8
        have q := fun x (hx : x ∈ [a, b, c, d, e', f, g, i]) => hlt x hx
        have js := join_spec8 a b c d e' f g i (q a (by simp)) (q b (by simp)) (q c (by simp)) (q d (by simp)) (q e' (by simp)) (q f (by simp)) (q g (by simp)) (q i (by simp))
        dsimp only [Option.map_some, jn8] at p6 ⊢
        generalize (jn a b c d : Int) = J1 at *
        generalize (jn e' f g i : Int) = J2 at *
        clear q hlt h8 e
        simp only [nats, ints, List.map_cons, List.map_nil] at p6
        refine spec_of_awp Tryz.func12 rfl (Nat.le_of_ble_eq_true rfl) fun ini => ?_
        simp only [Tryz.ntmps12]
        (repeat (first | refine awp_reg_seq rfl fun k => ?_ | refine awp_seq ?_ | refine awp_false rfl ?_ | refine awp_skip (?_ : Awp _ _ _ _ _ _) | (refine awp_ret ?_; (apply ends_pure ?_ ?_ ?_ ?_ ?_ (.inl rfl); rotate_left 1; (· (exact res_cell2 rfl rfl rfl rfl rfl rfl)); (· rfl); (· rfl); (· rfl); (· rfl))) | (apply runk_pure rfl rfl rfl ?_ ?_ ?_ ?_ ?_ ?_ ?_ ?_; rotate_left 6; (· (conv => (lhs; whnf))); (· exact Tryz.func32); (· rfl); (· rfl); (· exact (ct)); (· (repeat (first | exact Rens.nil | (refine Rens.cons ?_ ?_; (· ((refine Ren.pureR ?_ rfl; (rfl)))))))); (· rfl)) | (apply runk_pure rfl rfl rfl ?_ ?_ ?_ ?_ ?_ ?_ ?_ ?_; rotate_left 6; (· (conv => (lhs; whnf))); (· exact Tryz.func34); (· rfl); (· rfl); (· exact (p6)); (· (repeat (first | exact Rens.nil | (refine Rens.cons ?_ ?_; (· ((refine Ren.pureR ?_ rfl; (rfl)))))))); (· rfl)) | (apply runk_pure rfl rfl rfl ?_ ?_ ?_ ?_ ?_ ?_ ?_ ?_; rotate_left 6; (· (conv => (lhs; whnf))); (· exact Tryz.func35); (· rfl); (· rfl); (· exact (js)); (· (repeat (first | exact Rens.nil | (refine Rens.cons ?_ ?_; (· ((refine Ren.pureR ?_ rfl; (rfl)))))))); (· rfl)) | (((((apply runk0 rfl rfl (opok_slen rfl ?_ rfl) ?_; rotate_left 1; (· ((conv => (lhs; whnf)); try exact rfl))))))) | (apply runk0 rfl rfl (opok_move rfl ?_) ?_; rotate_left 1; (· (conv => (lhs; whnf)))) | (apply runk0 rfl rfl (opok_assign rfl ?_) ?_; rotate_left 1; (· (conv => (lhs; whnf)))) | (apply runk0 rfl rfl (opok_loadA rfl ?_ ?_ ?_ ?_ ?_ ?_) ?_; rotate_left 6; (· (conv => (lhs; whnf))); (· (conv => (lhs; whnf; arg 1; whnf; arg 2; whnf))); (· rfl); (· (unfold sizeIs; conv => (lhs; whnf; arg 1; whnf))); (· (conv => (lhs; repeat (whnf; arg 2)))); (· rfl)) | (apply runk0 rfl rfl (opok_bin rfl ?_ ?_ ?_) ?_; rotate_left 3; (· (conv => (lhs; whnf))); (· (conv => (lhs; whnf))); (· (intro w; go_simp; rfl))) | (apply runk0 rfl rfl (opok_un rfl ?_ ?_) ?_; rotate_left 2; (· (conv => (lhs; whnf))); (· (intro w; go_simp; rfl))) | (apply runk0 rfl rfl (opok_extract rfl ?_ ?_) ?_; rotate_left 2; (· (conv => (lhs; whnf))); (· (conv => (lhs; whnf; arg 1; whnf)))) | (apply runk_alloc rfl rfl rfl ?_ ?_ ?_; rotate_left 2; (· (conv => (lhs; whnf; arg 1; whnf))); (· (conv => (lhs; whnf)))) | (apply runk_store rfl rfl rfl ?_ ?_ ?_ ?_ ?_ ?_ ?_ ?_ ?_ ?_ ?_; rotate_left 9; (· (conv => (lhs; whnf))); (· (conv => (lhs; whnf))); (· (conv => (lhs; whnf; arg 1; whnf; arg 2; whnf))); (· rfl); (· (conv => (lhs; whnf))); (· rfl); (· (unfold sizeIs; conv => (lhs; whnf; arg 1; whnf))); (· rfl); (· rfl); (· (conv => (lhs; repeat (whnf; arg 2))))) | refine runk_end (by kernel_rfl) ?_))
end Go.Proofs.YtmbmodeiikhnkaaGreatDoor
namespace Go.Proofs.YtmbmodeiikhnkaaGreatDoor
open Go.RowKit
theorem ex_p1 : prsA [50, 48, 48, 49, 58, 68, 66, 56, 58, 48, 58, 48, 58, 49, 58, 48, 58, 48, 58, 49] = some (true, 2306139568115548160, 281474976710657) := by decide +kernel
theorem ex_p2 : prsA [49, 46, 50, 46, 51, 46, 48, 52] = none := by decide +kernel
theorem ex_r1 : prA true 2306139568115548160 281474976710657 = [50, 48, 48, 49, 58, 100, 98, 56, 58, 58, 49, 58, 48, 58, 48, 58, 49] := by decide +kernel
theorem ex_r2 : prA false 0 3221225985 = [49, 57, 50, 46, 48, 46, 50, 46, 49] := by decide +kernel
set_option maxHeartbeats 16000000 in
set_option maxRecDepth 100000 in
theorem awake01 : Spec Tryz.prog 4 [] [] (.val (.bool true)) [] := by
  have s1 := parse_spec [50, 48, 48, 49, 58, 68, 66, 56, 58, 48, 58, 48, 58, 49, 58, 48, 58, 48, 58, 49]
  have s2 := parse_spec [49, 46, 50, 46, 51, 46, 48, 52]
  unfold prsV at s1 s2
  rw [ex_p1] at s1
  rw [ex_p2] at s2
  dsimp only at s1 s2
  have r1 := print_spec (aok6 (hi := 2306139568115548160) (lo := 281474976710657) ⟨by decide, by decide⟩ ⟨by decide, by decide⟩)
  have r2 := print_spec (aok4 (lo := 3221225985) (by decide) (by decide))
  rw [ex_r1] at r1
  rw [ex_r2] at r2
  refine spec_of_awp Tryz.func4 rfl (Nat.le_of_ble_eq_true rfl) fun ini => ?_
  simp only [Tryz.ntmps4]
  (repeat (first | refine awp_reg_seq rfl fun k => ?_ | (refine awp_ret ?_; (apply ends_pure ?_ ?_ ?_ ?_ ?_ (.inl rfl); rotate_left 1; (· (exact res_one rfl rfl)); (· rfl); (· rfl); (· rfl); (· rfl))) | (apply runk_pure rfl rfl rfl ?_ ?_ ?_ ?_ ?_ ?_ ?_ ?_; rotate_left 6; (· (conv => (lhs; whnf))); (· exact Tryz.func12); (· rfl); (· rfl); (· exact (s1)); (· (repeat (first | exact Rens.nil | (refine Rens.cons ?_ ?_; (· ((refine Ren.pureR ?_ rfl; (rfl)))))))); (· rfl)) | (apply runk_pure rfl rfl rfl ?_ ?_ ?_ ?_ ?_ ?_ ?_ ?_; rotate_left 6; (· (conv => (lhs; whnf))); (· exact Tryz.func12); (· rfl); (· rfl); (· exact (s2)); (· (repeat (first | exact Rens.nil | (refine Rens.cons ?_ ?_; (· ((refine Ren.pureR ?_ rfl; (rfl)))))))); (· rfl)) | (apply runk_guard rfl rfl ?_ rfl ?_ ?_; rotate_left 3; (· (conv => (lhs; whnf))); (· (intro hb; (try rw [hb]); apply opok_pure rfl ?_ ?_ ?_ ?_ ?_ ?_ ?_; rotate_left 6; (· (conv => (lhs; whnf))); (· exact Tryz.func8); (· rfl); (· rfl); (· exact (r1)); (· (repeat (first | exact Rens.nil | (refine Rens.cons ?_ ?_; (· ((refine Ren.pureR ?_ rfl; (rfl)))))))); (· rfl)))) | (apply runk_guard rfl rfl ?_ rfl ?_ ?_; rotate_left 3; (· (conv => (lhs; whnf))); (· (intro hb; (try rw [hb]); apply opok_pure rfl ?_ ?_ ?_ ?_ ?_ ?_ ?_; rotate_left 6; (· (conv => (lhs; whnf))); (· exact Tryz.func8); (· rfl); (· rfl); (· exact (r2)); (· (repeat (first | exact Rens.nil | (refine Rens.cons ?_ ?_; (· ((refine Ren.pureR ?_ rfl; (rfl)))))))); (· rfl)))) | (((((apply runk_guard rfl rfl ?_ rfl ?_ ?_; rotate_left 3; (· (conv => (lhs; whnf))); (· (intro hb; (try rw [hb]); apply opok_seql rfl ?_ ?_; rotate_left 2; (· ((conv => (lhs; whnf)); try exact rfl)); (· ((conv => (lhs; whnf)); try exact rfl))))))))) | ((refine runk_ung rfl rfl rfl rfl ?_)) | (apply runk0 rfl rfl (opok_move rfl ?_) ?_; rotate_left 1; (· (conv => (lhs; whnf)))) | (apply runk0 rfl rfl (opok_assign rfl ?_) ?_; rotate_left 1; (· (conv => (lhs; whnf)))) | (apply runk0 rfl rfl (opok_loadA rfl ?_ ?_ ?_ ?_ ?_ ?_) ?_; rotate_left 6; (· (conv => (lhs; whnf))); (· (conv => (lhs; whnf; arg 1; whnf; arg 2; whnf))); (· rfl); (· (unfold sizeIs; conv => (lhs; whnf; arg 1; whnf))); (· (conv => (lhs; repeat (whnf; arg 2)))); (· rfl)) | (apply runk0 rfl rfl (opok_bin rfl ?_ ?_ ?_) ?_; rotate_left 3; (· (conv => (lhs; whnf))); (· (conv => (lhs; whnf))); (· (intro w; go_simp; rfl))) | (apply runk0 rfl rfl (opok_pick rfl ?_ ?_) ?_; rotate_left 2; (· (conv => (lhs; whnf))); (· (exact pick_and))) | (apply runk0 rfl rfl (opok_extract rfl ?_ ?_) ?_; rotate_left 2; (· (conv => (lhs; whnf))); (· (conv => (lhs; whnf; arg 1; whnf)))) | (apply runk0 rfl rfl (opok_build rfl ?_ ?_ ?_ ?_ ?_) ?_; rotate_left 5; (· (conv => (lhs; whnf; arg 1; whnf))); (· (conv => (lhs; whnf; arg 1; repeat (whnf; arg 2)))); (· (conv => (lhs; whnf; arg 1; whnf))); (· (repeat (first | exact PartsOf.nil | (apply PartsOf.cons; (· (conv => (lhs; whnf))))))); (· (conv => (lhs; whnf; arg 1; repeat (whnf; arg 2))))) | (apply runk_alloc rfl rfl rfl ?_ ?_ ?_; rotate_left 2; (· (conv => (lhs; whnf; arg 1; whnf))); (· (conv => (lhs; whnf)))) | (apply runk_store rfl rfl rfl ?_ ?_ ?_ ?_ ?_ ?_ ?_ ?_ ?_ ?_ ?_; rotate_left 9; (· (conv => (lhs; whnf))); (· (conv => (lhs; whnf))); (· (conv => (lhs; whnf; arg 1; whnf; arg 2; whnf))); (· rfl); (· (conv => (lhs; whnf))); (· rfl); (· (unfold sizeIs; conv => (lhs; whnf; arg 1; whnf))); (· rfl); (· rfl); (· (conv => (lhs; repeat (whnf; arg 2))))) | refine runk_end (by kernel_rfl) ?_))
end Go.Proofs.YtmbmodeiikhnkaaGreatDoor
namespace Go.Proofs.YtmbmodeiikhnkaaGreatDoor
open Go.RowKit
/-- A byte that strings.ToLower leaves as it is. -/
def lowC (x : UInt8) : Prop := x.toNat < 128 ∧ Lib.lowerB x = x
theorem lowC_dig {x : UInt8} (h : isDig x = true) : lowC x := by
  unfold isDig at h
  simp at h
  refine ⟨by omega, ?_⟩
  unfold Lib.lowerB Lib.isUpperB
  have : ¬ (65 ≤ x) := by
    intro c
    have := UInt8.le_iff_toNat_le.1 c
    have e : (65 : UInt8).toNat = 65 := rfl
    omega
  simp [this]
theorem lowC_hex {d : Nat} (h : d < 16) : lowC (hexDig d) := by
  have key : ∀ d : Fin 16, (hexDig d.val).toNat < 128 ∧ Lib.lowerB (hexDig d.val) = hexDig d.val := by decide +kernel
  exact key ⟨d, h⟩
theorem lowC_hexL (u : Nat) : ∀ x ∈ hexL u, lowC x := by
  induction u using Nat.strongRecOn with
  | ind u ih =>
    by_cases h : u < 16
    · rw [hexL_small h]
      intro x hx
      rw [List.mem_singleton.1 hx]
      exact lowC_hex h
    · rw [hexL_big h]
      intro x hx
      rcases List.mem_append.1 hx with hx | hx
      · exact ih (u / 16) (by omega) x hx
      · rw [List.mem_singleton.1 hx]
        exact lowC_hex (by omega)
theorem lowC_join (c : UInt8) (hc : lowC c) : ∀ ls : List (List UInt8), (∀ l ∈ ls, ∀ x ∈ l, lowC x) → ∀ x ∈ joinC c ls, lowC x
  | [], _, x, hx => by simp [joinC] at hx
  | [l], h, x, hx => h l (by simp) x hx
  | l :: m :: r, h, x, hx => by
    rw [joinC_cons c l (by simp)] at hx
    rcases List.mem_append.1 hx with hx | hx
    · exact h l (by simp) x hx
    · rcases List.mem_cons.1 hx with rfl | hx
      · exact hc
      · exact lowC_join c hc (m :: r) (fun y hy => h y (List.mem_cons_of_mem _ hy)) x hx
theorem lowC_58 : lowC 58 := ⟨by decide, by decide⟩
theorem lowC_46 : lowC 46 := ⟨by decide, by decide⟩
theorem lowC_hexJ (xs : List Nat) : ∀ x ∈ hexJ xs, lowC x := by
  rw [hexJ_joinC]
  refine lowC_join 58 lowC_58 _ fun l hl => ?_
  obtain ⟨u, -, rfl⟩ := List.mem_map.1 hl
  exact lowC_hexL u
theorem lowC_p6 (xs : List Nat) : ∀ x ∈ p6 xs, lowC x := by
  unfold p6
  by_cases h : (lrs xs 8).2 < 2
  · rw [if_pos h]; exact lowC_hexJ xs
  · rw [if_neg h]
    intro x hx
    rcases List.mem_append.1 hx with hx | hx
    · rcases List.mem_append.1 hx with hx | hx
      · exact lowC_hexJ _ x hx
      · simp only [List.mem_cons, List.not_mem_nil, or_false, or_self] at hx
        rw [hx]; exact lowC_58
    · exact lowC_hexJ _ x hx
theorem lowC_quad (n : Nat) : ∀ x ∈ quad n, lowC x := by
  rw [quad_join]
  refine lowC_join 46 lowC_46 _ fun l hl x hx => ?_
  simp only [List.mem_cons, List.not_mem_nil, or_false] at hl
  rcases hl with rfl | rfl | rfl | rfl <;> exact lowC_dig (decDigits_dig _ x hx)
theorem lowC_prA (v : Bool) (hi lo : Int) : ∀ x ∈ prA v hi lo, lowC x := by
  unfold prA
  cases v with
  | true => rw [if_pos rfl]; exact lowC_p6 _
  | false => rw [if_neg (by decide)]; exact lowC_quad _
theorem lower_prA (v : Bool) (hi lo : Int) : Lib.toLowerA (prA v hi lo) = prA v hi lo := by
  unfold Lib.toLowerA
  have := lowC_prA v hi lo
  generalize prA v hi lo = l at *
  exact (List.map_congr_left (g := id) fun x hx => (this x hx).2).trans (List.map_id l)
theorem hexJ_len9 : ∀ xs : List Nat, xs ≠ [] → (∀ x ∈ xs, x < 65536) → (hexJ xs).length + 1 ≤ 5 * xs.length
  | [], h, _ => absurd rfl h
  | [x], _, h => by
    have := hexL_len 3 x (h x (by simp))
    simp [hexJ, Lib.join_one]; omega
  | x :: y :: r, _, h => by
    have h1 := hexL_len 3 x (h x (by simp))
    have h2 := hexJ_len9 (y :: r) (by simp) (fun z hz => h z (List.mem_cons_of_mem _ hz))
    rw [hexJ_joinC] at h2 ⊢
    rw [List.map_cons, joinC_cons 58 (hexL x) (by simp)]
    simp only [List.length_append, List.length_cons] at h2 ⊢
    omega
theorem p6_len39 {xs : List Nat} (h8 : xs.length = 8) (hb : ∀ x ∈ xs, x < 65536) : (p6 xs).length ≤ 39 := by
  have bd := lrs_bd xs h8 8 (Nat.le_refl _)
  unfold p6
  by_cases h : (lrs xs 8).2 < 2
  · rw [if_pos h]
    have := hexJ_len9 xs (by intro e; rw [e] at h8; cases h8) hb
    omega
  · rw [if_neg h]
    have h1 := hexJ_len (xs.take (lrs xs 8).1) fun x hx => hb x (List.mem_of_mem_take hx)
    have h2 := hexJ_len (xs.drop ((lrs xs 8).1 + (lrs xs 8).2)) fun x hx => hb x (List.mem_of_mem_drop hx)
    rw [List.length_take] at h1
    rw [List.length_drop] at h2
    simp only [List.length_append, List.length_cons, List.length_nil]
    omega
theorem prA_len39 (v : Bool) (hi lo : Int) : (prA v hi lo).length ≤ 39 := by
  unfold prA
  cases v with
  | true => rw [if_pos rfl]; exact p6_len39 (grps_len _ _) (grps_lt _ _)
  | false =>
    rw [if_neg (by decide)]
    have := quad_len (n := lo.toNat)
    omega
/-- Different addresses have different texts. -/
theorem prA_inj {v v' : Bool} {hi lo hi' lo' : Int} (a : AOk v hi lo) (b : AOk v' hi' lo') (h : prA v hi lo = prA v' hi' lo') : v = v' ∧ hi = hi' ∧ lo = lo' := by
  have h1 := prsA_prA a
  rw [h, prsA_prA b] at h1
  simp only [Option.some.injEq, Prod.mk.injEq] at h1
  exact ⟨h1.1.symm, h1.2.1.symm, h1.2.2.symm⟩
end Go.Proofs.YtmbmodeiikhnkaaGreatDoor
