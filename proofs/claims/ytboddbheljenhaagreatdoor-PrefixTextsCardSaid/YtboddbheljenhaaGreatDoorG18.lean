/-
  min of three. No program is named here.
-/
import Derived.Test.YtboddbheljenhaaGreatDoorAbsB
import Derived.Test.YtboddbheljenhaaGreatDoorG17
import Derived.Test.YtboddbheljenhaaGreatDoorEqG
import Derived.Test.YtboddbheljenhaaGreatDoorG08
import Derived.Test.YtboddbheljenhaaGreatDoorG06
namespace Go.Proofs.YtboddbheljenhaaGreatDoor
open Go.RowKit
section
variable {P : Program} {k : Nat} {st : St} {o : Oper}
theorem opok_min3 {x y z : Operand} {t t' t2 : TypeId} {a b c : Int} (ho : o.op = .call { callee := .builtin .min, args := #[x, y, z], argTypes := #[t, t', t2] }) (hx : st.aop x = .val (.int .i64 a)) (hy : st.aop y = .val (.int .i64 b)) (hz : st.aop z = .val (.int .i64 c)) : OpOk P k st o ⟨.val (.int .i64 (min (min a b) c)), [], [], []⟩ :=
  opok_quiet fun ψ prot obj w ρ _ hr _ => by
    have h1 := (hx ▸ hr x (by simp [ho, Op.operands, Call.operands]) : VRel ψ prot w (.val (.int .i64 a)) (ρ x)).val_eq
    have h2 := (hy ▸ hr y (by simp [ho, Op.operands, Call.operands]) : VRel ψ prot w (.val (.int .i64 b)) (ρ y)).val_eq
    have h3 := (hz ▸ hr z (by simp [ho, Op.operands, Call.operands]) : VRel ψ prot w (.val (.int .i64 c)) (ρ z)).val_eq
    refine ⟨_, ?_, .val _⟩
    by_cases h : b < a
    · have e : min a b = b := by omega
      rw [e]
      by_cases h' : c < b
      · have e' : min b c = c := by omega
        rw [e']
        simp [execOp, ho, resolve, invoke, builtin, h1, h2, h3, Builtin.min_, Builtin.min2, go_sem, h, h']
      · have e' : min b c = b := by omega
        rw [e']
        simp [execOp, ho, resolve, invoke, builtin, h1, h2, h3, Builtin.min_, Builtin.min2, go_sem, h, h']
    · have e : min a b = a := by omega
      rw [e]
      by_cases h' : c < a
      · have e' : min a c = c := by omega
        rw [e']
        simp [execOp, ho, resolve, invoke, builtin, h1, h2, h3, Builtin.min_, Builtin.min2, go_sem, h, h']
      · have e' : min a c = a := by omega
        rw [e']
        simp [execOp, ho, resolve, invoke, builtin, h1, h2, h3, Builtin.min_, Builtin.min2, go_sem, h, h']
end
end Go.Proofs.YtboddbheljenhaaGreatDoor
namespace Go.Proofs.YtboddbheljenhaaGreatDoor
open Go.RowKit
theorem bints_get {l : List UInt8} {i : Nat} {x : UInt8} (h : l[i]? = some x) : (ints .u8 (bints l))[i]? = some (.val (.int .u8 (x.toNat : Int))) := by
  rw [ints_get]
  unfold bints
  rw [List.getElem?_map, h]
  rfl
theorem bints_len (l : List UInt8) : (bints l).length = l.length := by unfold bints; rw [List.length_map]
theorem dig_no_all {l : List UInt8} {i : Nat} {x : UInt8} (h : l[i]? = some x) (hd : isDig x = false) : l.all isDig = false := by
  cases e : l.all isDig with
  | false => rfl
  | true => rw [List.all_eq_true.1 e x (List.mem_of_getElem? h)] at hd; cases hd
theorem dig_step {l : List UInt8} {i : Nat} {x : UInt8} (h : l[i]? = some x) (hd : isDig x = true) (ha : (l.take i).all isDig = true) : (l.take (i + 1)).all isDig = true := by
  rw [take_snoc h, List.all_append, ha]
  simp [hd]
set_option maxHeartbeats 16000000 in
set_option maxRecDepth 100000 in
theorem decimal_spec (l : List UInt8) (hl : l.length ≤ 100000) : Spec Tryz.prog 59 [.val (bstr l)] [] (.val (.bool (canD l))) [] := by
  by_cases c : l = []
  · subst c
    have d : (([] : List UInt8) == []) = true := rfl
    have e : canD [] = false := rfl
    rw [e]
    refine spec_of_awp Tryz.func59 rfl (Nat.le_of_ble_eq_true rfl) fun ini => ?_
    simp only [Tryz.ntmps59]
    (repeat (first | refine awp_reg_seq rfl fun k => ?_ | refine awp_seq ?_ | refine awp_true rfl ?_ | (refine awp_ret ?_; (apply ends_pure ?_ ?_ ?_ ?_ ?_ (.inl rfl); rotate_left 1; (· (exact res_one rfl rfl)); (· rfl); (· rfl); (· rfl); (· rfl))) | (((((apply runk0 rfl rfl (opok_seql rfl ?_ ?_) ?_; rotate_left 2; (· ((conv => (lhs; whnf)); try exact rfl)); (· ((conv => (lhs; whnf)); try exact rfl))))))) | (first | refine runk_off rfl rfl rfl rfl rfl ?_ | refine runk_offU rfl rfl rfl rfl ?_) | (apply runk0 rfl rfl (opok_move rfl ?_) ?_; rotate_left 1; (· (conv => (lhs; whnf)))) | (apply runk0 rfl rfl (opok_assign rfl ?_) ?_; rotate_left 1; (· (conv => (lhs; whnf)))) | (apply runk0 rfl rfl (opok_pick rfl ?_ ?_) ?_; rotate_left 2; (· (conv => (lhs; whnf))); (· ((conv => (lhs; whnf))))) | refine runk_end (by kernel_rfl) ?_))
  · obtain ⟨y, r, hyr⟩ : ∃ y r, l = y :: r := by
      cases l with
      | nil => exact absurd rfl c
      | cons y r => exact ⟨y, r, rfl⟩
    have eC : canD l = ((r.isEmpty || y != 48) && l.all isDig) := by rw [hyr]; rfl
    have d0 : (l == []) = false := by rw [hyr]; rfl
    have hy0 : l[0]? = some y := by rw [hyr]; rfl
    have hb0 : byteAt l 0 = (y.toNat : Int) := byteAt_get hy0
    have hlr : l.length = r.length + 1 := by rw [hyr]; rfl
    clear hyr c
    have y256 : y.toNat < 256 := y.toNat_lt
    have hpos : 0 < l.length := by omega
    obtain ⟨b1, b2, hb1, hb2, hbb⟩ : ∃ b1 b2 : Bool, decide ((l.length : Int) > 1) = b1 ∧ ((y.toNat : Int) == 48) = b2 ∧ (r.isEmpty || y != 48) = (!(b1 && b2)) := by
      refine ⟨_, _, rfl, rfl, ?_⟩
      have e1 : decide ((l.length : Int) > 1) = !r.isEmpty := by
        cases r with
        | nil => rw [hlr]; rfl
        | cons a b => simp only [List.isEmpty_cons, Bool.not_false, decide_eq_true_eq]; rw [hlr]; simp; omega
      have e2 : ((y.toNat : Int) == 48) = (y == 48) := by
        rw [Bool.eq_iff_iff, beq_iff_eq, beq_iff_eq]
        constructor
        · intro h; exact UInt8.toNat_inj.1 (by have : (48 : UInt8).toNat = 48 := rfl; omega)
        · rintro rfl; rfl
      rw [e1, e2]
      cases r.isEmpty <;> cases h : (y == 48) <;> simp [bne, h]
    have hb1' : decide (1 < (l.length : Int)) = b1 := hb1
    have hb1'' : decide (1 < l.length) = b1 := by rw [← hb1, decide_eq_decide]; omega
    rw [hbb] at eC
    clear hbb hy0 hlr
    generalize (y.toNat : Int) = Y at *
    cases b1 <;> cases b2
    case true.true =>
      rw [show (!(true && true)) = false from rfl, Bool.false_and] at eC
      rw [eC]
      refine spec_of_awp Tryz.func59 rfl (Nat.le_of_ble_eq_true rfl) fun ini => ?_
      simp only [Tryz.ntmps59]
      (repeat (first | refine awp_reg_seq rfl fun k => ?_ | refine awp_seq ?_ | (((first | (apply runk0 rfl rfl (opok_seql rfl ?_ ?_) ?_; rotate_left 2; (· ((conv => (lhs; whnf)); try exact rfl)); (· ((conv => (lhs; whnf)); try exact rfl))) | (apply runk0 rfl rfl (opok_slen rfl ?_ rfl) ?_; rotate_left 1; (· ((conv => (lhs; whnf)); try exact rfl))) | (apply runk0 rfl rfl (opok_sindex rfl ?_ ?_ rfl ?_ ?_) ?_; rotate_left 3; (· ((conv => (lhs; whnf)); try exact rfl)); (· (conv => (lhs; whnf))); (· omega); (· omega))))) | (first | refine runk_ung rfl rfl rfl rfl ?_ | refine runk_ung rfl rfl rfl (by assumption) ?_) | (apply runk0 rfl rfl (opok_move rfl ?_) ?_; rotate_left 1; (· (conv => (lhs; whnf)))) | (apply runk0 rfl rfl (opok_assign rfl ?_) ?_; rotate_left 1; (· (conv => (lhs; whnf)))) | (apply runk0 rfl rfl (opok_bin rfl ?_ ?_ ?_) ?_; rotate_left 3; (· (conv => (lhs; whnf))); (· (conv => (lhs; whnf))); (· (intro w; go_simp; rfl))) | (apply runk0 rfl rfl (opok_pick rfl ?_ ?_) ?_; rotate_left 2; (· (conv => (lhs; whnf))); (· first | exact pick_and | (conv => (lhs; whnf)))) | refine runk_end (by kernel_rfl) ?_))
      rw [d0]
      (repeat (first | refine awp_reg_seq rfl fun k => ?_ | refine awp_true rfl ?_ | (refine awp_ret ?_; (apply ends_pure ?_ ?_ ?_ ?_ ?_ (.inl rfl); rotate_left 1; (· (exact res_one rfl rfl)); (· rfl); (· rfl); (· rfl); (· rfl))) | (apply runk0 rfl rfl (opok_assign rfl ?_) ?_; rotate_left 1; (· (conv => (lhs; whnf)))) | refine runk_end (by kernel_rfl) ?_))
    all_goals
      rw [show (!(_ && _)) = true from rfl, Bool.true_and] at eC
      refine spec_of_awp Tryz.func59 rfl (Nat.le_of_ble_eq_true rfl) fun ini => ?_
      simp only [Tryz.ntmps59]
      have hB := bints_len l
      have hG := fun (i : Nat) (x : UInt8) (h : l[i]? = some x) => bints_get h
      (repeat (first | refine awp_reg_seq rfl fun k => ?_ | refine awp_seq ?_ | (((first | (apply runk0 rfl rfl (opok_seql rfl ?_ ?_) ?_; rotate_left 2; (· ((conv => (lhs; whnf)); try exact rfl)); (· ((conv => (lhs; whnf)); try exact rfl))) | (apply runk0 rfl rfl (opok_slen rfl ?_ rfl) ?_; rotate_left 1; (· ((conv => (lhs; whnf)); try exact rfl))) | (apply runk0 rfl rfl (opok_sindex rfl ?_ ?_ rfl ?_ ?_) ?_; rotate_left 3; (· ((conv => (lhs; whnf)); try exact rfl)); (· (conv => (lhs; whnf))); (· omega); (· omega))))) | (first | refine runk_ung rfl rfl rfl rfl ?_ | refine runk_ung rfl rfl rfl (by assumption) ?_) | ((refine runk_off rfl rfl rfl rfl rfl ?_)) | (apply runk0 rfl rfl (opok_move rfl ?_) ?_; rotate_left 1; (· (conv => (lhs; whnf)))) | (apply runk0 rfl rfl (opok_assign rfl ?_) ?_; rotate_left 1; (· (conv => (lhs; whnf)))) | (apply runk0 rfl rfl (opok_bin rfl ?_ ?_ ?_) ?_; rotate_left 3; (· (conv => (lhs; whnf))); (· (conv => (lhs; whnf))); (· (intro w; go_simp; rfl))) | (apply runk0 rfl rfl (opok_pick rfl ?_ ?_) ?_; rotate_left 2; (· (conv => (lhs; whnf))); (· first | exact pick_and | (conv => (lhs; whnf)))) | refine runk_end (by kernel_rfl) ?_))
      rw [d0]
      (repeat (first | refine awp_reg_seq rfl fun k => ?_ | refine awp_seq ?_ | refine awp_false rfl ?_ | refine awp_skip (?_ : Awp _ _ _ _ _ _) | refine awp_block ?_ | (((apply runk0 rfl rfl (opok_convL rfl ?_ rfl rfl rfl) ?_; rotate_left 1; (· ((conv => (lhs; whnf)); try exact rfl))))) | (apply runk0 rfl rfl (opok_move rfl ?_) ?_; rotate_left 1; (· (conv => (lhs; whnf)))) | (((apply runk0 rfl rfl (opok_len rfl ?_ ?_ ?_) ?_; rotate_left 3; (· (conv => (lhs; whnf))); (· (conv => (lhs; whnf; arg 1; whnf))); (· (exact length_ints _ _))))) | refine runk_end (by kernel_rfl) ?_))
      generalize bints l = B at *
      refine awp_loop (fun m st => ∃ i : Nat, i + m = l.length ∧ (l.take i).all isDig = true ∧ st.leB ⟨[(18, .ro (ints .u8 B)), (19, .val (.int .i64 (l.length : Int))), (20, .val (.int .i64 (i : Int)))], []⟩) l.length ⟨0, by omega, rfl, by (refine leB_of ?_ ?_; (· (repeat (first | exact EnvIs.nil | (refine EnvIs.cons ?_ ?_; (· first | rfl | ((conv => (lhs; whnf)); ((simp [hB]; done)))))))); (· (repeat ((exact ObjsAre.nil)))))⟩ ?_
      rintro m st ⟨i, him, hall, hle⟩
      refine awp_less hle ?_
      clear hle st
      have wi : IntKind.i64.wrap ((i : Int) + 1) = ((i + 1 : Nat) : Int) := by rw [IntKind.wrap_i64]; omega
      obtain ⟨j, hj⟩ : ∃ j, i + 1 = j := ⟨_, rfl⟩
      rw [hj] at wi
      (repeat (first | refine awp_reg_seq rfl fun k => ?_ | refine awp_seq ?_ | (apply runk0 rfl rfl (opok_bin rfl ?_ ?_ ?_) ?_; rotate_left 3; (· (conv => (lhs; whnf))); (· (conv => (lhs; whnf))); (· (intro w; go_simp; first | done | rfl))) | refine runk_end (by kernel_rfl) ?_))
      refine awp_if rfl (fun hc => ?_) (fun hc => ?_)
      · have hil : i < l.length := by simp at hc; omega
        clear hc
        obtain ⟨x, hx⟩ : ∃ x, l[i]? = some x := ⟨_, List.getElem?_eq_getElem hil⟩
        have hX := hG i x hx
        clear hG
        have x256 : x.toNat < 256 := x.toNat_lt
        by_cases a1 : x.toNat < 48
        · have hd : isDig x = false := by unfold isDig; simp; omega
          have d1 : decide ((x.toNat : Int) < 48) = true := decide_eq_true (by omega)
          have d1' : decide (x.toNat < 48) = true := decide_eq_true a1
          rw [dig_no_all hx hd] at eC
          try rw [Bool.and_false] at eC
          rw [eC]
          generalize (x.toNat : Int) = X at *
          (repeat (first | refine awp_reg_seq rfl fun k => ?_ | refine awp_seq ?_ | refine awp_true rfl ?_ | refine awp_skip (?_ : Awp _ _ _ _ _ _) | refine awp_block ?_ | (refine awp_ret ?_; (apply ends_pure ?_ ?_ ?_ ?_ ?_ (.inl rfl); rotate_left 1; (· (exact res_one rfl rfl)); (· rfl); (· rfl); (· rfl); (· rfl))) | ((refine runk_off rfl rfl rfl rfl rfl ?_)) | (apply runk0 rfl rfl (opok_move rfl ?_) ?_; rotate_left 1; (· (conv => (lhs; whnf)))) | (apply runk0 rfl rfl (opok_assign rfl ?_) ?_; rotate_left 1; (· (conv => (lhs; whnf)))) | (((apply runk0 rfl rfl (opok_loadR rfl ?_ ?_ ?_) ?_; rotate_left 2; (· (conv => (lhs; whnf))); (· rfl); (· (conv => (lhs; whnf; arg 1; whnf)))))) | (apply runk0 rfl rfl (opok_bin rfl ?_ ?_ ?_) ?_; rotate_left 3; (· (conv => (lhs; whnf))); (· (conv => (lhs; whnf))); (· (intro w; go_simp; rfl))) | (apply runk0 rfl rfl (opok_pick rfl ?_ ?_) ?_; rotate_left 2; (· (conv => (lhs; whnf))); (· ((conv => (lhs; whnf))))) | refine runk_end (by kernel_rfl) ?_ | (apply runk0 rfl rfl (opok_index_ro rfl ?_ ?_ ?_ ?_ ?_ ?_ ?_) ?_; rotate_left 6; (· (conv => (lhs; whnf))); (· (conv => (lhs; whnf))); (· (conv => (lhs; whnf; arg 1; whnf))); (· (unfold sizeIs; conv => (lhs; whnf; arg 1; whnf))); (· (exact widths_ints _ _)); (· omega); (· assumption))))
        · by_cases a2 : 57 < x.toNat
          · have hd : isDig x = false := by unfold isDig; simp; omega
            have d1 : decide ((x.toNat : Int) < 48) = false := decide_eq_false (by omega)
            have d2 : decide (57 < (x.toNat : Int)) = true := decide_eq_true (by omega)
            have d3 : decide ((x.toNat : Int) > 57) = true := decide_eq_true (by omega)
            rw [dig_no_all hx hd] at eC
            try rw [Bool.and_false] at eC
            rw [eC]
            generalize (x.toNat : Int) = X at *
            (repeat (first | refine awp_reg_seq rfl fun k => ?_ | refine awp_seq ?_ | refine awp_true rfl ?_ | refine awp_skip (?_ : Awp _ _ _ _ _ _) | refine awp_block ?_ | (refine awp_ret ?_; (apply ends_pure ?_ ?_ ?_ ?_ ?_ (.inl rfl); rotate_left 1; (· (exact res_one rfl rfl)); (· rfl); (· rfl); (· rfl); (· rfl))) | ((refine runk_ung rfl rfl rfl rfl ?_)) | (apply runk0 rfl rfl (opok_move rfl ?_) ?_; rotate_left 1; (· (conv => (lhs; whnf)))) | (apply runk0 rfl rfl (opok_assign rfl ?_) ?_; rotate_left 1; (· (conv => (lhs; whnf)))) | (((apply runk0 rfl rfl (opok_loadR rfl ?_ ?_ ?_) ?_; rotate_left 2; (· (conv => (lhs; whnf))); (· rfl); (· (conv => (lhs; whnf; arg 1; whnf)))))) | (apply runk0 rfl rfl (opok_bin rfl ?_ ?_ ?_) ?_; rotate_left 3; (· (conv => (lhs; whnf))); (· (conv => (lhs; whnf))); (· (intro w; go_simp; rfl))) | (apply runk0 rfl rfl (opok_pick rfl ?_ ?_) ?_; rotate_left 2; (· (conv => (lhs; whnf))); (· (exact pick_or))) | refine runk_end (by kernel_rfl) ?_ | (apply runk0 rfl rfl (opok_index_ro rfl ?_ ?_ ?_ ?_ ?_ ?_ ?_) ?_; rotate_left 6; (· (conv => (lhs; whnf))); (· (conv => (lhs; whnf))); (· (conv => (lhs; whnf; arg 1; whnf))); (· (unfold sizeIs; conv => (lhs; whnf; arg 1; whnf))); (· (exact widths_ints _ _)); (· omega); (· assumption))))
          · have hd : isDig x = true := by unfold isDig; simp; omega
            have hstep := dig_step hx hd hall
            rw [hj] at hstep
            have d1 : decide ((x.toNat : Int) < 48) = false := decide_eq_false (by omega)
            have d2 : decide (57 < (x.toNat : Int)) = false := decide_eq_false (by omega)
            have d3 : decide ((x.toNat : Int) > 57) = false := decide_eq_false (by omega)
            generalize (x.toNat : Int) = X at *
            (repeat (first | refine awp_reg_seq rfl fun k => ?_ | refine awp_reg rfl fun k => ?_ | refine awp_seq ?_ | refine awp_false rfl ?_ | refine awp_skip (?_ : Awp _ _ _ _ _ _) | refine awp_block ?_ | ((refine runk_ung rfl rfl rfl rfl ?_)) | (apply runk0 rfl rfl (opok_move rfl ?_) ?_; rotate_left 1; (· (conv => (lhs; whnf)))) | (apply runk0 rfl rfl (opok_assign rfl ?_) ?_; rotate_left 1; (· (conv => (lhs; whnf)))) | (((apply runk0 rfl rfl (opok_loadR rfl ?_ ?_ ?_) ?_; rotate_left 2; (· (conv => (lhs; whnf))); (· rfl); (· (conv => (lhs; whnf; arg 1; whnf)))))) | (apply runk0 rfl rfl (opok_bin rfl ?_ ?_ ?_) ?_; rotate_left 3; (· (conv => (lhs; whnf))); (· (conv => (lhs; whnf))); (· (intro w; go_simp; rfl))) | (apply runk0 rfl rfl (opok_pick rfl ?_ ?_) ?_; rotate_left 2; (· (conv => (lhs; whnf))); (· (exact pick_or))) | refine runk_end (by kernel_rfl) ?_ | (apply runk0 rfl rfl (opok_index_ro rfl ?_ ?_ ?_ ?_ ?_ ?_ ?_) ?_; rotate_left 6; (· (conv => (lhs; whnf))); (· (conv => (lhs; whnf))); (· (conv => (lhs; whnf; arg 1; whnf))); (· (unfold sizeIs; conv => (lhs; whnf; arg 1; whnf))); (· (exact widths_ints _ _)); (· omega); (· assumption))))
            exact ⟨l.length - j, by omega, j, by omega, hstep, by (refine leB_of ?_ ?_; (· (repeat (first | exact EnvIs.nil | (refine EnvIs.cons ?_ ?_; (· rfl))))); (· (repeat ((exact ObjsAre.nil)))))⟩
      · have hil : i = l.length := by simp at hc; omega
        subst hil
        rw [List.take_length] at hall
        rw [hall] at eC
        rw [eC]
        clear hc hG
        (repeat (first | refine awp_reg_seq rfl fun k => ?_ | refine awp_exit (?_ : Awp _ _ _ _ _ _) | (refine awp_ret ?_; (apply ends_pure ?_ ?_ ?_ ?_ ?_ (.inl rfl); rotate_left 1; (· (exact res_one rfl rfl)); (· rfl); (· rfl); (· rfl); (· rfl))) | (apply runk0 rfl rfl (opok_assign rfl ?_) ?_; rotate_left 1; (· (conv => (lhs; whnf)))) | refine runk_end (by kernel_rfl) ?_))
end Go.Proofs.YtboddbheljenhaaGreatDoor
namespace Go.Proofs.YtboddbheljenhaaGreatDoor
open Go.RowKit
set_option maxHeartbeats 16000000 in
set_option maxRecDepth 100000 in
theorem rdigits_spec (l : List UInt8) (hl : l.length ≤ 100000) : Spec Tryz.prog 62 [.val (bstr l)] [] (.val (.bool (canD l))) [] := by
  by_cases c : l = []
  · subst c
    have e : canD [] = false := rfl
    rw [e]
    refine spec_of_awp Tryz.func62 rfl (Nat.le_of_ble_eq_true rfl) fun ini => ?_
    simp only [Tryz.ntmps62]
    (repeat (first | refine awp_reg_seq rfl fun k => ?_ | refine awp_seq ?_ | refine awp_block ?_ | (((((apply runk0 rfl rfl (opok_slen rfl ?_ rfl) ?_; rotate_left 1; (· ((conv => (lhs; whnf)); try exact rfl))))))) | (apply runk0 rfl rfl (opok_move rfl ?_) ?_; rotate_left 1; (· (conv => (lhs; whnf)))) | (apply runk0 rfl rfl (opok_assign rfl ?_) ?_; rotate_left 1; (· (conv => (lhs; whnf)))) | refine runk_end (by kernel_rfl) ?_))
    refine awp_rounds 1 ?_
    (repeat (first | refine awp_reg_seq rfl fun k => ?_ | refine awp_seq ?_ | refine awp_false rfl ?_ | refine awp_exit (?_ : Awp _ _ _ _ _ _) | (refine awp_ret ?_; (apply ends_pure ?_ ?_ ?_ ?_ ?_ (.inl rfl); rotate_left 1; (· (exact res_one rfl rfl)); (· rfl); (· rfl); (· rfl); (· rfl))) | (((((apply runk0 rfl rfl (opok_sneq rfl ?_ ?_) ?_; rotate_left 2; (· ((conv => (lhs; whnf)); try exact rfl)); (· ((conv => (lhs; whnf)); try exact rfl))))))) | (first | refine runk_off rfl rfl rfl rfl rfl ?_ | refine runk_offU rfl rfl rfl rfl ?_) | (apply runk0 rfl rfl (opok_move rfl ?_) ?_; rotate_left 1; (· (conv => (lhs; whnf)))) | (apply runk0 rfl rfl (opok_assign rfl ?_) ?_; rotate_left 1; (· (conv => (lhs; whnf)))) | (apply runk0 rfl rfl (opok_bin rfl ?_ ?_ ?_) ?_; rotate_left 3; (· (conv => (lhs; whnf))); (· (conv => (lhs; whnf))); (· (intro w; go_simp; rfl))) | (apply runk0 rfl rfl (opok_pick rfl ?_ ?_) ?_; rotate_left 2; (· (conv => (lhs; whnf))); (· ((conv => (lhs; whnf))))) | refine runk_end (by kernel_rfl) ?_))
  · obtain ⟨y, r, hyr⟩ : ∃ y r, l = y :: r := by
      cases l with
      | nil => exact absurd rfl c
      | cons y r => exact ⟨y, r, rfl⟩
    have eC : canD l = ((r.isEmpty || y != 48) && l.all isDig) := by rw [hyr]; rfl
    have d0 : (l == []) = false := by rw [hyr]; rfl
    have hy0 : l[0]? = some y := by rw [hyr]; rfl
    have hb0 : byteAt l 0 = (y.toNat : Int) := byteAt_get hy0
    have hpos : 0 < l.length := by rw [hyr]; simp
    have e48 : (l == [48]) = (r.isEmpty && y == 48) := by
      rw [hyr]
      cases r with
      | nil => simp [List.isEmpty]
      | cons a b => simp [List.isEmpty]
    have e2 : ((y.toNat : Int) == 48) = (y == 48) := by
      rw [Bool.eq_iff_iff, beq_iff_eq, beq_iff_eq]
      constructor
      · intro h; exact UInt8.toNat_inj.1 (by have : (48 : UInt8).toNat = 48 := rfl; omega)
      · rintro rfl; rfl
    have fin : (r.isEmpty || y != 48) = (((y.toNat : Int) != 48) || (l == [48])) := by
      unfold bne
      rw [e2, e48]
      cases r.isEmpty <;> cases h : (y == 48) <;> simp [h]
    rw [fin] at eC
    have hyp : Nonempty (PLift (l = y :: r)) := ⟨⟨hyr⟩⟩
    clear c hy0 e48 e2 hyr fin
    have y256 : y.toNat < 256 := y.toNat_lt
    generalize (y.toNat : Int) = Y at *
    refine spec_of_awp Tryz.func62 rfl (Nat.le_of_ble_eq_true rfl) fun ini => ?_
    simp only [Tryz.ntmps62]
    (repeat (first | refine awp_reg_seq rfl fun k => ?_ | refine awp_seq ?_ | refine awp_block ?_ | (((((apply runk0 rfl rfl (opok_slen rfl ?_ rfl) ?_; rotate_left 1; (· ((conv => (lhs; whnf)); try exact rfl))))))) | (apply runk0 rfl rfl (opok_move rfl ?_) ?_; rotate_left 1; (· (conv => (lhs; whnf)))) | (apply runk0 rfl rfl (opok_assign rfl ?_) ?_; rotate_left 1; (· (conv => (lhs; whnf)))) | refine runk_end (by kernel_rfl) ?_))
    refine awp_loop (fun m st => ∃ i : Nat, i + m = l.length ∧ (l.take i).all isDig = true ∧ st.leB ⟨[(0, .val (bstr l)), (2, .val (.bool false)), (5, .val (.int .i64 (l.length : Int))), (6, .val (.int .i64 (i : Int)))], []⟩) l.length ⟨0, by omega, rfl, by (refine leB_of ?_ ?_; (· (repeat (first | exact EnvIs.nil | (refine EnvIs.cons ?_ ?_; (· rfl))))); (· (repeat ((exact ObjsAre.nil)))))⟩ ?_
    rintro m st ⟨i, him, hall, hle⟩
    refine awp_less hle ?_
    clear hle st
    have wi : IntKind.i64.wrap ((i : Int) + 1) = ((i + 1 : Nat) : Int) := by rw [IntKind.wrap_i64]; omega
    obtain ⟨j, hj⟩ : ∃ j, i + 1 = j := ⟨_, rfl⟩
    rw [hj] at wi
    (repeat (first | refine awp_reg_seq rfl fun k => ?_ | refine awp_seq ?_ | (apply runk0 rfl rfl (opok_bin rfl ?_ ?_ ?_) ?_; rotate_left 3; (· (conv => (lhs; whnf))); (· (conv => (lhs; whnf))); (· (intro w; go_simp; first | done | rfl))) | refine runk_end (by kernel_rfl) ?_))
    refine awp_if rfl (fun hc => ?_) (fun hc => ?_)
    · have hil : i < l.length := by simp at hc; omega
      clear hc
      obtain ⟨x, hx⟩ : ∃ x, l[i]? = some x := ⟨_, List.getElem?_eq_getElem hil⟩
      have hb := byteAt_get hx
      have x256 : x.toNat < 256 := x.toNat_lt
      clear hb0 hpos
      by_cases a1 : x.toNat < 48
      · have hd : isDig x = false := by unfold isDig; simp; omega
        have d1 : decide ((x.toNat : Int) < 48) = true := decide_eq_true (by omega)
        have d1' : decide (x.toNat < 48) = true := decide_eq_true a1
        rw [dig_no_all hx hd] at eC
        try rw [Bool.and_false] at eC
        rw [eC]
        generalize (x.toNat : Int) = X at *
        (repeat (first | refine awp_reg_seq rfl fun k => ?_ | refine awp_seq ?_ | refine awp_true rfl ?_ | refine awp_skip (?_ : Awp _ _ _ _ _ _) | refine awp_block ?_ | (refine awp_ret ?_; (apply ends_pure ?_ ?_ ?_ ?_ ?_ (.inl rfl); rotate_left 1; (· (exact res_one rfl rfl)); (· rfl); (· rfl); (· rfl); (· rfl))) | (((((apply runk0 rfl rfl (opok_sindex rfl ?_ ?_ rfl ?_ ?_) ?_; rotate_left 3; (· ((conv => (lhs; whnf)); try exact rfl)); (· (conv => (lhs; whnf))); (· omega); (· omega)))))) | ((refine runk_off rfl rfl rfl rfl rfl ?_)) | (apply runk0 rfl rfl (opok_move rfl ?_) ?_; rotate_left 1; (· (conv => (lhs; whnf)))) | (apply runk0 rfl rfl (opok_assign rfl ?_) ?_; rotate_left 1; (· (conv => (lhs; whnf)))) | (apply runk0 rfl rfl (opok_bin rfl ?_ ?_ ?_) ?_; rotate_left 3; (· (conv => (lhs; whnf))); (· (conv => (lhs; whnf))); (· (intro w; go_simp; rfl))) | (apply runk0 rfl rfl (opok_pick rfl ?_ ?_) ?_; rotate_left 2; (· (conv => (lhs; whnf))); (· ((conv => (lhs; whnf))))) | refine runk_end (by kernel_rfl) ?_))
      · by_cases a2 : 57 < x.toNat
        · have hd : isDig x = false := by unfold isDig; simp; omega
          have d1 : decide ((x.toNat : Int) < 48) = false := decide_eq_false (by omega)
          have d2 : decide (57 < (x.toNat : Int)) = true := decide_eq_true (by omega)
          have d3 : decide ((x.toNat : Int) > 57) = true := decide_eq_true (by omega)
          rw [dig_no_all hx hd] at eC
          try rw [Bool.and_false] at eC
          rw [eC]
          generalize (x.toNat : Int) = X at *
          (repeat (first | refine awp_reg_seq rfl fun k => ?_ | refine awp_seq ?_ | refine awp_true rfl ?_ | refine awp_skip (?_ : Awp _ _ _ _ _ _) | refine awp_block ?_ | (refine awp_ret ?_; (apply ends_pure ?_ ?_ ?_ ?_ ?_ (.inl rfl); rotate_left 1; (· (exact res_one rfl rfl)); (· rfl); (· rfl); (· rfl); (· rfl))) | (((((apply runk0 rfl rfl (opok_sindex rfl ?_ ?_ rfl ?_ ?_) ?_; rotate_left 3; (· ((conv => (lhs; whnf)); try exact rfl)); (· (conv => (lhs; whnf))); (· omega); (· omega)))))) | (((((apply runk_guard rfl rfl ?_ rfl ?_ ?_; rotate_left 3; (· (conv => (lhs; whnf))); (· (intro hb; (try rw [hb]); apply opok_sindex rfl ?_ ?_ rfl ?_ ?_; rotate_left 3; (· ((conv => (lhs; whnf)); try exact rfl)); (· (conv => (lhs; whnf))); (· omega); (· omega)))))))) | ((refine runk_ung rfl rfl rfl rfl ?_)) | (apply runk0 rfl rfl (opok_move rfl ?_) ?_; rotate_left 1; (· (conv => (lhs; whnf)))) | (apply runk0 rfl rfl (opok_assign rfl ?_) ?_; rotate_left 1; (· (conv => (lhs; whnf)))) | (apply runk0 rfl rfl (opok_bin rfl ?_ ?_ ?_) ?_; rotate_left 3; (· (conv => (lhs; whnf))); (· (conv => (lhs; whnf))); (· (intro w; go_simp; rfl))) | (apply runk0 rfl rfl (opok_pick rfl ?_ ?_) ?_; rotate_left 2; (· (conv => (lhs; whnf))); (· (exact pick_or))) | refine runk_end (by kernel_rfl) ?_))
        · have hd : isDig x = true := by unfold isDig; simp; omega
          have hstep := dig_step hx hd hall
          rw [hj] at hstep
          have d1 : decide ((x.toNat : Int) < 48) = false := decide_eq_false (by omega)
          have d2 : decide (57 < (x.toNat : Int)) = false := decide_eq_false (by omega)
          have d3 : decide ((x.toNat : Int) > 57) = false := decide_eq_false (by omega)
          generalize (x.toNat : Int) = X at *
          (repeat (first | refine awp_reg_seq rfl fun k => ?_ | refine awp_reg rfl fun k => ?_ | refine awp_seq ?_ | refine awp_false rfl ?_ | refine awp_skip (?_ : Awp _ _ _ _ _ _) | refine awp_block ?_ | (((((apply runk0 rfl rfl (opok_sindex rfl ?_ ?_ rfl ?_ ?_) ?_; rotate_left 3; (· ((conv => (lhs; whnf)); try exact rfl)); (· (conv => (lhs; whnf))); (· omega); (· omega)))))) | (((((apply runk_guard rfl rfl ?_ rfl ?_ ?_; rotate_left 3; (· (conv => (lhs; whnf))); (· (intro hb; (try rw [hb]); apply opok_sindex rfl ?_ ?_ rfl ?_ ?_; rotate_left 3; (· ((conv => (lhs; whnf)); try exact rfl)); (· (conv => (lhs; whnf))); (· omega); (· omega)))))))) | ((refine runk_ung rfl rfl rfl rfl ?_)) | (apply runk0 rfl rfl (opok_move rfl ?_) ?_; rotate_left 1; (· (conv => (lhs; whnf)))) | (apply runk0 rfl rfl (opok_assign rfl ?_) ?_; rotate_left 1; (· (conv => (lhs; whnf)))) | (apply runk0 rfl rfl (opok_bin rfl ?_ ?_ ?_) ?_; rotate_left 3; (· (conv => (lhs; whnf))); (· (conv => (lhs; whnf))); (· (intro w; go_simp; rfl))) | (apply runk0 rfl rfl (opok_pick rfl ?_ ?_) ?_; rotate_left 2; (· (conv => (lhs; whnf))); (· (exact pick_or))) | refine runk_end (by kernel_rfl) ?_))
          exact ⟨l.length - j, by omega, j, by omega, hstep, by (refine leB_of ?_ ?_; (· (repeat (first | exact EnvIs.nil | (refine EnvIs.cons ?_ ?_; (· rfl))))); (· (repeat ((exact ObjsAre.nil)))))⟩
    · have hil : i = l.length := by simp at hc; omega
      subst hil
      rw [List.take_length] at hall
      rw [hall, Bool.and_true] at eC
      rw [eC]
      clear hc eC wi him hj hl
      obtain ⟨⟨hyr⟩⟩ := hyp
      subst hyr
      (repeat (first | refine awp_reg_seq rfl fun k => ?_ | refine awp_exit (?_ : Awp _ _ _ _ _ _) | (refine awp_ret ?_; (apply ends_pure ?_ ?_ ?_ ?_ ?_ (.inl rfl); rotate_left 1; (· (exact res_one rfl rfl)); (· rfl); (· rfl); (· rfl); (· rfl))) | (((((apply runk0 rfl rfl (opok_sneq rfl ?_ ?_) ?_; rotate_left 2; (· ((conv => (lhs; whnf)); try exact rfl)); (· ((conv => (lhs; whnf)); try exact rfl))))))) | (((first | (apply runk_guard rfl rfl ?_ rfl ?_ ?_; rotate_left 3; (· (conv => (lhs; whnf))); (· (intro hb; (try rw [hb]); apply opok_seql rfl ?_ ?_; rotate_left 2; (· ((conv => (lhs; whnf)); try exact rfl)); (· ((conv => (lhs; whnf)); try exact rfl))))) | (apply runk_guard rfl rfl ?_ rfl ?_ ?_; rotate_left 3; (· (conv => (lhs; whnf))); (· (intro hb; (try rw [hb]); apply opok_sindex rfl ?_ ?_ rfl ?_ ?_; rotate_left 3; (· ((conv => (lhs; whnf)); try exact rfl)); (· (conv => (lhs; whnf))); (· omega); (· omega))))))) | ((refine runk_ung rfl rfl rfl rfl ?_)) | (apply runk0 rfl rfl (opok_move rfl ?_) ?_; rotate_left 1; (· (conv => (lhs; whnf)))) | (apply runk0 rfl rfl (opok_assign rfl ?_) ?_; rotate_left 1; (· (conv => (lhs; whnf)))) | (apply runk0 rfl rfl (opok_bin rfl ?_ ?_ ?_) ?_; rotate_left 3; (· (conv => (lhs; whnf))); (· (conv => (lhs; whnf))); (· (intro w; go_simp; rfl))) | (apply runk_guard rfl rfl ?_ rfl ?_ ?_; rotate_left 3; (· (conv => (lhs; whnf))); (· (intro hb; (try rw [hb]); apply opok_move rfl ?_; rotate_left 1; (· (conv => (lhs; whnf)))))) | (apply runk0 rfl rfl (opok_pick rfl ?_ ?_) ?_; rotate_left 2; (· (conv => (lhs; whnf))); (· first | exact pick_or | exact pick_and)) | refine runk_end (by kernel_rfl) ?_))
end Go.Proofs.YtboddbheljenhaaGreatDoor
namespace Go.Proofs.YtboddbheljenhaaGreatDoor
open Go.RowKit Go.Sort
def atoiV (l : List UInt8) (t : TypeId) : AVal := match Lib.atoiAll l with
  | .ok v => .tuple [.val (.int .i64 v), .val .nilIface]
  | .syntax => .tuple [.val (.int .i64 0), .ifc t]
  | .range => .tuple [.val (.int .i64 (Lib.atoiSat l)), .ifc t]
theorem atoi_spec (l : List UInt8) (hl : l.length ≤ 281474976710656) : Spec Tryz.prog 60 [.val (bstr l)] [] (atoiV l 128) [] := by
  have hsz : (⟨l.toArray⟩ : ByteArray).size = l.length := rfl
  unfold atoiV
  cases h : Lib.atoiAll l with
  | ok v =>
    exact spec_belowV (timeless_two (timeless_val _) (timeless_val _)) fun ψ prot w cargs hV hk hs hargs => by
      obtain rfl := one_arg hs hargs
      refine (Tryz.strconv_Atoi_ok ⟨l.toArray⟩ (by rw [hsz]; omega) v h w).mono ?_
      rintro e w' ⟨rfl, hw⟩
      refine ⟨_, rfl, vrel_two (.val _) (.val _), ?_⟩
      rcases hw with rfl | ⟨t, rfl⟩
      · exact Below.refl _ _
      · exact Lib.bytesWorld_below w _ t
  | «syntax» =>
    exact spec_belowV (timeless_two (timeless_val _) (timeless_ifc _)) fun ψ prot w cargs hV hk hs hargs => by
      obtain rfl := one_arg hs hargs
      obtain ⟨tp, p, hv⟩ := vars_syntax hV
      refine (Tryz.strconv_Atoi_syntax_var ⟨l.toArray⟩ (by rw [hsz]; exact hl) h tp p w hv).mono ?_
      rintro e w' ⟨N, rfl, -, -, hb⟩
      exact ⟨_, rfl, vrel_two (.val _) (.ifc _ _), hb⟩
  | range =>
    exact spec_belowV (timeless_two (timeless_val _) (timeless_ifc _)) fun ψ prot w cargs hV hk hs hargs => by
      obtain rfl := one_arg hs hargs
      obtain ⟨tp, p, hv⟩ := vars_range hV
      refine (Tryz.strconv_Atoi_range_var ⟨l.toArray⟩ (by rw [hsz]; exact hl) h tp p w hv).mono ?_
      rintro e w' ⟨N, rfl, -, -, hb⟩
      exact ⟨_, rfl, vrel_two (.val _) (.ifc _ _), hb⟩
end Go.Proofs.YtboddbheljenhaaGreatDoor
