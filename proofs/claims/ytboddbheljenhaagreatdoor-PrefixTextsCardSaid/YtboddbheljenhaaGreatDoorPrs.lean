/-
  addr.Parse of any text.
-/
import Derived.Test.YtboddbheljenhaaGreatDoorP6g
import Derived.Test.YtboddbheljenhaaGreatDoorG16
namespace Go.Proofs.YtboddbheljenhaaGreatDoor
open Go.RowKit
set_option maxHeartbeats 16000000 in
set_option maxRecDepth 100000 in
theorem parse_spec (l : List UInt8) : Spec Tryz.prog 58 [.val (bstr l)] [] (prsV l) [] := by
  have ct := contains_spec l 58
  unfold prsV prsA
  by_cases c : 45 < l.length
  · rw [if_pos c]
    have d1 : decide ((l.length : Int) > 45) = true := decide_eq_true (by omega)
    have d2 : decide (45 < (l.length : Int)) = true := decide_eq_true (by omega)
    have d3 : decide (45 < l.length) = true := decide_eq_true (by omega)
    dsimp only
    refine spec_of_awp Tryz.func58 rfl (Nat.le_of_ble_eq_true rfl) fun ini => ?_
    simp only [Tryz.ntmps58]
    (repeat (first | refine awp_reg_seq rfl fun k => ?_ | refine awp_seq ?_ | refine awp_true rfl ?_ | (refine awp_ret ?_; (apply ends_pure ?_ ?_ ?_ ?_ ?_ (.inl rfl); rotate_left 1; (· (exact res_cell2 rfl rfl rfl rfl rfl rfl)); (· rfl); (· rfl); (· rfl); (· rfl))) | (((((apply runk0 rfl rfl (opok_slen rfl ?_ rfl) ?_; rotate_left 1; (· ((conv => (lhs; whnf)); try exact rfl))))))) | (apply runk0 rfl rfl (opok_move rfl ?_) ?_; rotate_left 1; (· (conv => (lhs; whnf)))) | (apply runk0 rfl rfl (opok_assign rfl ?_) ?_; rotate_left 1; (· (conv => (lhs; whnf)))) | (apply runk0 rfl rfl (opok_bin rfl ?_ ?_ ?_) ?_; rotate_left 3; (· (conv => (lhs; whnf))); (· (conv => (lhs; whnf))); (· (intro w; go_simp; rfl))) | (apply runk0 rfl rfl (opok_build rfl ?_ ?_ ?_ ?_ ?_) ?_; rotate_left 5; (· (conv => (lhs; whnf; arg 1; whnf))); (· (conv => (lhs; whnf; arg 1; repeat (whnf; arg 2)))); (· (conv => (lhs; whnf; arg 1; whnf))); (· (repeat ((exact PartsOf.nil)))); (· (conv => (lhs; whnf; arg 1; repeat (whnf; arg 2))))) | (apply runk_alloc rfl rfl rfl ?_ ?_ ?_; rotate_left 2; (· (conv => (lhs; whnf; arg 1; whnf))); (· (conv => (lhs; whnf)))) | (apply runk_store rfl rfl rfl ?_ ?_ ?_ ?_ ?_ ?_ ?_ ?_ ?_ ?_ ?_; rotate_left 9; (· (conv => (lhs; whnf))); (· (conv => (lhs; whnf))); (· (conv => (lhs; whnf; arg 1; whnf; arg 2; whnf))); (· rfl); (· (conv => (lhs; whnf))); (· rfl); (· (unfold sizeIs; conv => (lhs; whnf; arg 1; whnf))); (· rfl); (· rfl); (· (conv => (lhs; repeat (whnf; arg 2))))) | refine runk_end (by kernel_rfl) ?_))
  · rw [if_neg c]
    have d1 : decide ((l.length : Int) > 45) = false := decide_eq_false (by omega)
    have d2 : decide (45 < (l.length : Int)) = false := decide_eq_false (by omega)
    have d3 : decide (45 < l.length) = false := decide_eq_false (by omega)
    cases hb : hasB l 58 with
    | false =>
      rw [hb] at ct
      rw [if_neg (by decide)]
      have p4 := parse4_spec l (by omega)
      unfold p4V at p4
      cases e : p4N l with
      | none =>
        rw [e] at p4
        dsimp only [Option.map_none] at p4 ⊢
        refine spec_of_awp Tryz.func58 rfl (Nat.le_of_ble_eq_true rfl) fun ini => ?_
        simp only [Tryz.ntmps58]
        (repeat (first | refine awp_reg_seq rfl fun k => ?_ | refine awp_seq ?_ | refine awp_true rfl ?_ | refine awp_false rfl ?_ | refine awp_skip (?_ : Awp _ _ _ _ _ _) | (refine awp_ret ?_; (apply ends_pure ?_ ?_ ?_ ?_ ?_ (.inl rfl); rotate_left 1; (· (exact res_cell2 rfl rfl rfl rfl rfl rfl)); (· rfl); (· rfl); (· rfl); (· rfl))) | (apply runk_pure rfl rfl rfl ?_ ?_ ?_ ?_ ?_ ?_ ?_ ?_; rotate_left 6; (· (conv => (lhs; whnf))); (· exact Tryz.func75); (· rfl); (· rfl); (· exact (ct)); (· (repeat (first | exact Rens.nil | (refine Rens.cons ?_ ?_; (· ((refine Ren.pureR ?_ rfl; (rfl)))))))); (· rfl)) | (apply runk_pure rfl rfl rfl ?_ ?_ ?_ ?_ ?_ ?_ ?_ ?_; rotate_left 6; (· (conv => (lhs; whnf))); (· exact Tryz.func76); (· rfl); (· rfl); (· exact (p4)); (· (repeat (first | exact Rens.nil | (refine Rens.cons ?_ ?_; (· ((refine Ren.pureR ?_ rfl; (rfl)))))))); (· rfl)) | (((((apply runk0 rfl rfl (opok_slen rfl ?_ rfl) ?_; rotate_left 1; (· ((conv => (lhs; whnf)); try exact rfl))))))) | (apply runk0 rfl rfl (opok_move rfl ?_) ?_; rotate_left 1; (· (conv => (lhs; whnf)))) | (apply runk0 rfl rfl (opok_assign rfl ?_) ?_; rotate_left 1; (· (conv => (lhs; whnf)))) | (apply runk0 rfl rfl (opok_bin rfl ?_ ?_ ?_) ?_; rotate_left 3; (· (conv => (lhs; whnf))); (· (conv => (lhs; whnf))); (· (intro w; go_simp; rfl))) | (apply runk0 rfl rfl (opok_un rfl ?_ ?_) ?_; rotate_left 2; (· (conv => (lhs; whnf))); (· (intro w; go_simp; rfl))) | (apply runk0 rfl rfl (opok_extract rfl ?_ ?_) ?_; rotate_left 2; (· (conv => (lhs; whnf))); (· (conv => (lhs; whnf; arg 1; whnf)))) | (apply runk0 rfl rfl (opok_build rfl ?_ ?_ ?_ ?_ ?_) ?_; rotate_left 5; (· (conv => (lhs; whnf; arg 1; whnf))); (· (conv => (lhs; whnf; arg 1; repeat (whnf; arg 2)))); (· (conv => (lhs; whnf; arg 1; whnf))); (· (repeat ((exact PartsOf.nil)))); (· (conv => (lhs; whnf; arg 1; repeat (whnf; arg 2))))) | (apply runk_alloc rfl rfl rfl ?_ ?_ ?_; rotate_left 2; (· (conv => (lhs; whnf; arg 1; whnf))); (· (conv => (lhs; whnf)))) | (apply runk_store rfl rfl rfl ?_ ?_ ?_ ?_ ?_ ?_ ?_ ?_ ?_ ?_ ?_; rotate_left 9; (· (conv => (lhs; whnf))); (· (conv => (lhs; whnf))); (· (conv => (lhs; whnf; arg 1; whnf; arg 2; whnf))); (· rfl); (· (conv => (lhs; whnf))); (· rfl); (· (unfold sizeIs; conv => (lhs; whnf; arg 1; whnf))); (· rfl); (· rfl); (· (conv => (lhs; repeat (whnf; arg 2))))) | refine runk_end (by kernel_rfl) ?_))
      | some n =>
        rw [e] at p4
        dsimp only [Option.map_some] at p4 ⊢
        refine spec_of_awp Tryz.func58 rfl (Nat.le_of_ble_eq_true rfl) fun ini => ?_
        simp only [Tryz.ntmps58]
        (repeat (first | refine awp_reg_seq rfl fun k => ?_ | refine awp_seq ?_ | refine awp_true rfl ?_ | refine awp_false rfl ?_ | refine awp_skip (?_ : Awp _ _ _ _ _ _) | (refine awp_ret ?_; (apply ends_pure ?_ ?_ ?_ ?_ ?_ (.inl rfl); rotate_left 1; (· (exact res_cell2 rfl rfl rfl rfl rfl rfl)); (· rfl); (· rfl); (· rfl); (· rfl))) | (apply runk_pure rfl rfl rfl ?_ ?_ ?_ ?_ ?_ ?_ ?_ ?_; rotate_left 6; (· (conv => (lhs; whnf))); (· exact Tryz.func75); (· rfl); (· rfl); (· exact (ct)); (· (repeat (first | exact Rens.nil | (refine Rens.cons ?_ ?_; (· ((refine Ren.pureR ?_ rfl; (rfl)))))))); (· rfl)) | (apply runk_pure rfl rfl rfl ?_ ?_ ?_ ?_ ?_ ?_ ?_ ?_; rotate_left 6; (· (conv => (lhs; whnf))); (· exact Tryz.func76); (· rfl); (· rfl); (· exact (p4)); (· (repeat (first | exact Rens.nil | (refine Rens.cons ?_ ?_; (· ((refine Ren.pureR ?_ rfl; (rfl)))))))); (· rfl)) | (((((apply runk0 rfl rfl (opok_slen rfl ?_ rfl) ?_; rotate_left 1; (· ((conv => (lhs; whnf)); try exact rfl))))))) | (apply runk0 rfl rfl (opok_move rfl ?_) ?_; rotate_left 1; (· (conv => (lhs; whnf)))) | (apply runk0 rfl rfl (opok_assign rfl ?_) ?_; rotate_left 1; (· (conv => (lhs; whnf)))) | (apply runk0 rfl rfl (opok_bin rfl ?_ ?_ ?_) ?_; rotate_left 3; (· (conv => (lhs; whnf))); (· (conv => (lhs; whnf))); (· (intro w; go_simp; rfl))) | (apply runk0 rfl rfl (opok_un rfl ?_ ?_) ?_; rotate_left 2; (· (conv => (lhs; whnf))); (· (intro w; go_simp; rfl))) | (apply runk0 rfl rfl (opok_extract rfl ?_ ?_) ?_; rotate_left 2; (· (conv => (lhs; whnf))); (· (conv => (lhs; whnf; arg 1; whnf)))) | (apply runk0 rfl rfl (opok_build rfl ?_ ?_ ?_ ?_ ?_) ?_; rotate_left 5; (· (conv => (lhs; whnf; arg 1; whnf))); (· (conv => (lhs; whnf; arg 1; repeat (whnf; arg 2)))); (· (conv => (lhs; whnf; arg 1; whnf))); (· (repeat (first | exact PartsOf.nil | (apply PartsOf.cons; (· (conv => (lhs; whnf))))))); (· (conv => (lhs; whnf; arg 1; repeat (whnf; arg 2))))) | (apply runk_alloc rfl rfl rfl ?_ ?_ ?_; rotate_left 2; (· (conv => (lhs; whnf; arg 1; whnf))); (· (conv => (lhs; whnf)))) | (apply runk_store rfl rfl rfl ?_ ?_ ?_ ?_ ?_ ?_ ?_ ?_ ?_ ?_ ?_; rotate_left 9; (· (conv => (lhs; whnf))); (· (conv => (lhs; whnf))); (· (conv => (lhs; whnf; arg 1; whnf; arg 2; whnf))); (· rfl); (· (conv => (lhs; whnf))); (· rfl); (· (unfold sizeIs; conv => (lhs; whnf; arg 1; whnf))); (· rfl); (· rfl); (· (conv => (lhs; repeat (whnf; arg 2))))) | refine runk_end (by kernel_rfl) ?_))
    | true =>
      rw [hb] at ct
      rw [if_pos rfl]
      have p6 := parse6_spec l (by omega)
      unfold p6V at p6
      cases e : p6N l with
      | none =>
        rw [e] at p6
        dsimp only [Option.map_none] at p6 ⊢
        refine spec_of_awp Tryz.func58 rfl (Nat.le_of_ble_eq_true rfl) fun ini => ?_
        simp only [Tryz.ntmps58]
        (repeat (first | refine awp_reg_seq rfl fun k => ?_ | refine awp_seq ?_ | refine awp_true rfl ?_ | refine awp_false rfl ?_ | refine awp_skip (?_ : Awp _ _ _ _ _ _) | (refine awp_ret ?_; (apply ends_pure ?_ ?_ ?_ ?_ ?_ (.inl rfl); rotate_left 1; (· (exact res_cell2 rfl rfl rfl rfl rfl rfl)); (· rfl); (· rfl); (· rfl); (· rfl))) | (apply runk_pure rfl rfl rfl ?_ ?_ ?_ ?_ ?_ ?_ ?_ ?_; rotate_left 6; (· (conv => (lhs; whnf))); (· exact Tryz.func75); (· rfl); (· rfl); (· exact (ct)); (· (repeat (first | exact Rens.nil | (refine Rens.cons ?_ ?_; (· ((refine Ren.pureR ?_ rfl; (rfl)))))))); (· rfl)) | (apply runk_pure rfl rfl rfl ?_ ?_ ?_ ?_ ?_ ?_ ?_ ?_; rotate_left 6; (· (conv => (lhs; whnf))); (· exact Tryz.func77); (· rfl); (· rfl); (· exact (p6)); (· (repeat (first | exact Rens.nil | (refine Rens.cons ?_ ?_; (· ((refine Ren.pureR ?_ rfl; (rfl)))))))); (· rfl)) | (((((apply runk0 rfl rfl (opok_slen rfl ?_ rfl) ?_; rotate_left 1; (· ((conv => (lhs; whnf)); try exact rfl))))))) | (apply runk0 rfl rfl (opok_move rfl ?_) ?_; rotate_left 1; (· (conv => (lhs; whnf)))) | (apply runk0 rfl rfl (opok_assign rfl ?_) ?_; rotate_left 1; (· (conv => (lhs; whnf)))) | (apply runk0 rfl rfl (opok_bin rfl ?_ ?_ ?_) ?_; rotate_left 3; (· (conv => (lhs; whnf))); (· (conv => (lhs; whnf))); (· (intro w; go_simp; rfl))) | (apply runk0 rfl rfl (opok_un rfl ?_ ?_) ?_; rotate_left 2; (· (conv => (lhs; whnf))); (· (intro w; go_simp; rfl))) | (apply runk0 rfl rfl (opok_extract rfl ?_ ?_) ?_; rotate_left 2; (· (conv => (lhs; whnf))); (· (conv => (lhs; whnf; arg 1; whnf)))) | (apply runk0 rfl rfl (opok_build rfl ?_ ?_ ?_ ?_ ?_) ?_; rotate_left 5; (· (conv => (lhs; whnf; arg 1; whnf))); (· (conv => (lhs; whnf; arg 1; repeat (whnf; arg 2)))); (· (conv => (lhs; whnf; arg 1; whnf))); (· (repeat ((exact PartsOf.nil)))); (· (conv => (lhs; whnf; arg 1; repeat (whnf; arg 2))))) | (apply runk_alloc rfl rfl rfl ?_ ?_ ?_; rotate_left 2; (· (conv => (lhs; whnf; arg 1; whnf))); (· (conv => (lhs; whnf)))) | (apply runk_store rfl rfl rfl ?_ ?_ ?_ ?_ ?_ ?_ ?_ ?_ ?_ ?_ ?_; rotate_left 9; (· (conv => (lhs; whnf))); (· (conv => (lhs; whnf))); (· (conv => (lhs; whnf; arg 1; whnf; arg 2; whnf))); (· rfl); (· (conv => (lhs; whnf))); (· rfl); (· (unfold sizeIs; conv => (lhs; whnf; arg 1; whnf))); (· rfl); (· rfl); (· (conv => (lhs; repeat (whnf; arg 2))))) | refine runk_end (by kernel_rfl) ?_))
      | some xs =>
        rw [e] at p6
        obtain ⟨h8, hlt⟩ := p6N_ok e
        obtain ⟨a, b, c, d, e', f, g, i, rfl⟩ := list8 h8
        have q := fun x (hx : x ∈ [a, b, c, d, e', f, g, i]) => hlt x hx
        have js := join_spec8 a b c d e' f g i (q a (by simp)) (q b (by simp)) (q c (by simp)) (q d (by simp)) (q e' (by simp)) (q f (by simp)) (q g (by simp)) (q i (by simp))
        dsimp only [Option.map_some, jn8] at p6 ⊢
        generalize (jn a b c d : Int) = J1 at *
        generalize (jn e' f g i : Int) = J2 at *
        clear q hlt h8 e
        simp only [nats, ints, List.map_cons, List.map_nil] at p6
        refine spec_of_awp Tryz.func58 rfl (Nat.le_of_ble_eq_true rfl) fun ini => ?_
        simp only [Tryz.ntmps58]
        (repeat (first | refine awp_reg_seq rfl fun k => ?_ | refine awp_seq ?_ | refine awp_false rfl ?_ | refine awp_skip (?_ : Awp _ _ _ _ _ _) | (refine awp_ret ?_; (apply ends_pure ?_ ?_ ?_ ?_ ?_ (.inl rfl); rotate_left 1; (· (exact res_cell2 rfl rfl rfl rfl rfl rfl)); (· rfl); (· rfl); (· rfl); (· rfl))) | (apply runk_pure rfl rfl rfl ?_ ?_ ?_ ?_ ?_ ?_ ?_ ?_; rotate_left 6; (· (conv => (lhs; whnf))); (· exact Tryz.func75); (· rfl); (· rfl); (· exact (ct)); (· (repeat (first | exact Rens.nil | (refine Rens.cons ?_ ?_; (· ((refine Ren.pureR ?_ rfl; (rfl)))))))); (· rfl)) | (apply runk_pure rfl rfl rfl ?_ ?_ ?_ ?_ ?_ ?_ ?_ ?_; rotate_left 6; (· (conv => (lhs; whnf))); (· exact Tryz.func77); (· rfl); (· rfl); (· exact (p6)); (· (repeat (first | exact Rens.nil | (refine Rens.cons ?_ ?_; (· ((refine Ren.pureR ?_ rfl; (rfl)))))))); (· rfl)) | (apply runk_pure rfl rfl rfl ?_ ?_ ?_ ?_ ?_ ?_ ?_ ?_; rotate_left 6; (· (conv => (lhs; whnf))); (· exact Tryz.func78); (· rfl); (· rfl); (· exact (js)); (· (repeat (first | exact Rens.nil | (refine Rens.cons ?_ ?_; (· ((refine Ren.pureR ?_ rfl; (rfl)))))))); (· rfl)) | (((((apply runk0 rfl rfl (opok_slen rfl ?_ rfl) ?_; rotate_left 1; (· ((conv => (lhs; whnf)); try exact rfl))))))) | (apply runk0 rfl rfl (opok_move rfl ?_) ?_; rotate_left 1; (· (conv => (lhs; whnf)))) | (apply runk0 rfl rfl (opok_assign rfl ?_) ?_; rotate_left 1; (· (conv => (lhs; whnf)))) | (apply runk0 rfl rfl (opok_loadA rfl ?_ ?_ ?_ ?_ ?_ ?_) ?_; rotate_left 6; (· (conv => (lhs; whnf))); (· (conv => (lhs; whnf; arg 1; whnf; arg 2; whnf))); (· rfl); (· (unfold sizeIs; conv => (lhs; whnf; arg 1; whnf))); (· (conv => (lhs; repeat (whnf; arg 2)))); (· rfl)) | (apply runk0 rfl rfl (opok_bin rfl ?_ ?_ ?_) ?_; rotate_left 3; (· (conv => (lhs; whnf))); (· (conv => (lhs; whnf))); (· (intro w; go_simp; rfl))) | (apply runk0 rfl rfl (opok_un rfl ?_ ?_) ?_; rotate_left 2; (· (conv => (lhs; whnf))); (· (intro w; go_simp; rfl))) | (apply runk0 rfl rfl (opok_extract rfl ?_ ?_) ?_; rotate_left 2; (· (conv => (lhs; whnf))); (· (conv => (lhs; whnf; arg 1; whnf)))) | (apply runk_alloc rfl rfl rfl ?_ ?_ ?_; rotate_left 2; (· (conv => (lhs; whnf; arg 1; whnf))); (· (conv => (lhs; whnf)))) | (apply runk_store rfl rfl rfl ?_ ?_ ?_ ?_ ?_ ?_ ?_ ?_ ?_ ?_ ?_; rotate_left 9; (· (conv => (lhs; whnf))); (· (conv => (lhs; whnf))); (· (conv => (lhs; whnf; arg 1; whnf; arg 2; whnf))); (· rfl); (· (conv => (lhs; whnf))); (· rfl); (· (unfold sizeIs; conv => (lhs; whnf; arg 1; whnf))); (· rfl); (· rfl); (· (conv => (lhs; repeat (whnf; arg 2))))) | refine runk_end (by kernel_rfl) ?_))
end Go.Proofs.YtboddbheljenhaaGreatDoor
