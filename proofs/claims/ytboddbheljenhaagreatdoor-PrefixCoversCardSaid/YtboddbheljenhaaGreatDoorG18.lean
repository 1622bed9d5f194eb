/-
  Layer 2: prefix.Bit and the reference's Bit at any place.
-/
import Derived.Test.YtboddbheljenhaaGreatDoorG15
import Derived.Test.YtboddbheljenhaaGreatDoorAbsB
namespace Go.Proofs.YtboddbheljenhaaGreatDoor
open Go.RowKit
theorem i64_and1 : ∀ b : Nat, b < 256 → bits .and .i64 (b : Int) 1 = ((b % 2 : Nat) : Int) := by decide +kernel
set_option maxHeartbeats 4000000 in
set_option maxRecDepth 100000 in
theorem rbit_spec {v : Bool} {hi lo : Int} (ao : AOk v hi lo) (i : Nat) (h : i < wiN v) : Spec Tryz.prog 18 [.agg [.val (.bool v), .val (.int .u64 hi), .val (.int .u64 lo)], .val (.int .i64 (i : Int))] [] (.val (.int .i64 (bitA v hi lo i))) [] := by
  obtain ⟨m, X, hm0, hm16, hwm, hX, hXA, rb, -⟩ := addr_by ao
  have w8 : IntKind.i64.wrap (8 * (m : Int)) = 8 * (m : Int) := by rw [IntKind.wrap_i64]; omega
  have d : decide ((i : Int) < 0) = false := decide_eq_false (by omega)
  have d2 : decide ((i : Int) ≥ 8 * (m : Int)) = false := decide_eq_false (by omega)
  have d3 : decide (8 * (m : Int) ≤ (i : Int)) = false := decide_eq_false (by omega)
  obtain ⟨Q, hQ⟩ : ∃ Q, i / 8 = Q := ⟨_, rfl⟩
  obtain ⟨R, hR⟩ : ∃ R, i % 8 = R := ⟨_, rfl⟩
  have hQm : Q < m := by omega
  have hR8 : R < 8 := by omega
  have q1 : (i : Int).tdiv 8 = (Q : Int) := by rw [Int.tdiv_eq_ediv_of_nonneg (by omega)]; omega
  have r1 : (i : Int).tmod 8 = (R : Int) := by rw [Int.tmod_eq_emod_of_nonneg (by omega)]; omega
  have wQ : IntKind.i64.wrap (Q : Int) = (Q : Int) := by rw [IntKind.wrap_i64]; omega
  have wR : IntKind.i64.wrap (R : Int) = (R : Int) := by rw [IntKind.wrap_i64]; omega
  have uR : IntKind.u64.wrap (R : Int) = (R : Int) := by rw [IntKind.wrap_u64]; omega
  obtain ⟨S, hS⟩ : ∃ S, 7 - R = S := ⟨_, rfl⟩
  have uS : IntKind.u64.wrap (7 - (R : Int)) = (S : Int) := by rw [IntKind.wrap_u64]; omega
  have hg := beB_get m X Q hQm
  obtain ⟨b, hb⟩ : ∃ b : Nat, X / 256 ^ (m - 1 - Q) % 256 = b := ⟨_, rfl⟩
  have hb256 : b < 256 := by omega
  rw [hb] at hg
  have hx : (ints .u8 (beB m X))[Q]? = some (.val (.int .u8 (b : Int))) := by rw [ints_get, hg]; rfl
  have sh : (b : Int) / 2 ^ S = ((b / 2 ^ S : Nat) : Int) := by rw [Int.natCast_ediv, cast_pow]
  have hs256 : b / 2 ^ S < 256 := Nat.lt_of_le_of_lt (Nat.div_le_self _ _) hb256
  have wz : ∀ z : Nat, z < 256 → IntKind.i64.wrap (z : Int) = (z : Int) := fun z hz => by rw [IntKind.wrap_i64]; omega
  have wb := wz _ hs256
  clear wz
  have an := i64_and1 _ hs256
  have hln : (beB m X).length = m := beB_length _ _
  have fin : ((b / 2 ^ S % 2 : Nat) : Int) = bitA v hi lo i := by
    have e : b / 2 ^ S % 2 = X / 2 ^ (8 * m - 1 - i) % 2 := by
      have e1 := byte_bit X (m - 1 - Q) S
      rw [hb, decide_eq_true (by omega : S < 8), Bool.true_and, show 8 * (m - 1 - Q) + S = 8 * m - 1 - i by omega] at e1
      rw [bit_of, bit_of, e1]
    rw [bit_nA ao h, e, ← hXA, hwm, Int.natCast_emod, Int.natCast_ediv, cast_pow]
    rfl
  rw [← fin]
  clear fin hg hb hX hXA hQ hR
  generalize beB m X = B0 at *
  generalize b / 2 ^ S = b' at *
  refine spec_of_awp Tryz.func18 rfl (Nat.le_of_ble_eq_true rfl) fun ini => ?_
  simp only [Tryz.ntmps18]
  (repeat (first | refine awp_reg_seq rfl fun k => ?_ | refine awp_seq ?_ | refine awp_false rfl ?_ | refine awp_skip (?_ : Awp _ _ _ _ _ _) | (refine awp_ret ?_; (apply ends_pure ?_ ?_ ?_ ?_ ?_ (.inl rfl); rotate_left 1; (· first | exact res_one rfl rfl | exact res_two rfl rfl rfl | exact res_none rfl | exact res_three rfl rfl rfl rfl | exact res_cell rfl rfl rfl rfl rfl | exact res_cell2 rfl rfl rfl rfl rfl rfl | exact res3 rfl (rv_cell rfl rfl rfl rfl) (rv_tmp rfl) (rv_tmp rfl) | exact res3 rfl (rv_cell rfl rfl rfl rfl) (rv_cell rfl rfl rfl rfl) (rv_cell rfl rfl rfl rfl)); (· first | rfl | ((conv => (lhs; whnf)); first | rfl | (simp; done))); (· first | rfl | (simp; done) | (simp [AVal.pure, AVal.pures, AObj.pure]; done)); (· rfl); (· rfl))) | (apply runk_made rfl rfl rfl ?_ ?_ ?_ ?_ ?_ ?_ ?_ ?_ ?_; rotate_left 8; (· (conv => (lhs; whnf))); (· exact Tryz.func46); (· rfl); (· rfl); (· exact (rb)); (· (repeat (first | exact Rens.nil | (refine Rens.cons ?_ ?_; (· first | exact Ren.own _ _ _ _ _ _ rfl List.mem_cons_self | exact Ren.own _ _ _ _ _ _ rfl (List.mem_cons_of_mem _ List.mem_cons_self) | (refine (Ren.own _ _ _ _ _ _ ?_ List.mem_cons_self); first | rfl | (simp; done)) | (refine (Ren.own _ _ _ _ _ _ ?_ (List.mem_cons_of_mem _ List.mem_cons_self)); first | rfl | (simp; done)) | exact Ren.ptr _ _ _ _ _ List.mem_cons_self | (refine Ren.pureR ?_ rfl; (first | rfl | (simp; done) | (simp [AVal.pure, AVal.pures, AObj.pure]; done)))))))); (· first | exact .one (.ptr _ _ _ _ _ List.mem_cons_self) | exact .one (.own _ _ _ _ _ _ rfl List.mem_cons_self) | exact .one (.own _ _ _ _ _ _ rfl (List.mem_cons_of_mem _ List.mem_cons_self)) | (apply RenT.tuple; (repeat (first | exact Rens.nil | (apply Rens.cons; (· first | exact Ren.own _ _ _ _ _ _ rfl List.mem_cons_self | exact Ren.own _ _ _ _ _ _ rfl (List.mem_cons_of_mem _ List.mem_cons_self) | exact Ren.ptr _ _ _ _ _ List.mem_cons_self | (refine Ren.pureR ?_ rfl; (first | rfl | (simp; done) | (simp [AVal.pure, AVal.pures, AObj.pure]; done)))))))) | (refine .one (.pure _ ?_); (first | rfl | (simp; done) | (simp [AVal.pure, AVal.pures, AObj.pure]; done)))); (· first | rfl | (simp; done) | simp [AVal.pure, AVal.pures, AObj.pure])) | (first | refine runk_ung rfl rfl rfl rfl ?_ | refine runk_ung rfl rfl rfl (by assumption) ?_) | (apply runk0 rfl rfl (opok_move rfl ?_) ?_; rotate_left 1; (· (conv => (lhs; whnf)))) | (apply runk_assignOwn rfl rfl rfl ?_ ?_ ?_; rotate_left 4; (· (conv => (lhs; whnf))); (· (conv => (lhs; whnf; arg 1; whnf)))) | (apply runk0 rfl rfl (opok_assign rfl ?_) ?_; rotate_left 1; (· (conv => (lhs; whnf)))) | (apply runk0 rfl rfl (opok_loadA rfl ?_ ?_ ?_ ?_ ?_ ?_) ?_; rotate_left 6; (· (conv => (lhs; whnf))); (· (conv => (lhs; whnf; arg 1; whnf; arg 2; whnf))); (· rfl); (· (unfold sizeIs; conv => (lhs; whnf; arg 1; whnf))); (· (conv => (lhs; repeat (whnf; arg 2)))); (· rfl)) | (apply runk0 rfl rfl (opok_bin rfl ?_ ?_ ?_) ?_; rotate_left 3; (· (conv => (lhs; whnf))); (· (conv => (lhs; whnf))); (· (intro w; go_simp; first | done | rfl))) | (apply runk0 rfl rfl (opok_conv rfl ?_ ?_) ?_; rotate_left 2; (· (conv => (lhs; whnf))); (· (intro w; go_simp; first | done | rfl))) | (first | (apply runk0 rfl rfl (opok_lenO rfl ?_ ?_ ?_) ?_; rotate_left 5; (· (conv => (lhs; whnf))); (· (conv => (lhs; whnf; arg 1; whnf))); (· first | exact length_ints _ _ | rfl)) | (apply runk0 rfl rfl (opok_len_own rfl ?_ ?_) ?_; rotate_left 4; (· (conv => (lhs; whnf))); (· (conv => (lhs; whnf; arg 1; whnf)))) | (apply runk0 rfl rfl (opok_len rfl ?_ ?_ ?_) ?_; rotate_left 3; (· (conv => (lhs; whnf))); (· (conv => (lhs; whnf; arg 1; whnf))); (· first | exact length_ints _ _ | rfl))) | (apply runk0 rfl rfl (opok_pick rfl ?_ ?_) ?_; rotate_left 2; (· (conv => (lhs; whnf))); (· first | exact pick_or | exact pick_and | (conv => (lhs; whnf)))) | (apply runk0 rfl rfl (opok_index_own rfl ?_ ?_ ?_ ?_ ?_ ?_ ?_ ?_) ?_; rotate_left 10; (· (conv => (lhs; whnf))); (· (conv => (lhs; whnf; arg 1; whnf; arg 2; whnf))); (· (conv => (lhs; whnf))); (· (conv => (lhs; whnf; arg 1; whnf))); (· (unfold sizeIs; conv => (lhs; whnf; arg 1; whnf))); (· first | omega | (simp; done) | (simp; omega)); (· first | omega | (simp; done) | (simp; omega)); (· first | rfl | (simp; done) | (simp; omega))) | (apply runk_box rfl rfl rfl ?_ ?_ ?_ ?_; rotate_left 2; (· (conv => (lhs; whnf))); (· rfl); (· (conv => (lhs; whnf)))) | refine runk_end (by kernel_rfl) ?_ | (apply runk0 rfl rfl (opok_elem _ rfl ?_ ?_ ?_ ?_ ?_ ?_ ?_ ?_) ?_; rotate_left 8; (· (conv => (lhs; whnf))); (· (conv => (lhs; whnf; arg 1; whnf; arg 2; whnf))); (· rfl); (· rfl); (· first | rfl | exact widths_ints _ _ | simp [widths, AVal.flat]); (· rfl); (· first | assumption | (simp only [Int.toNat_natCast]; assumption) | (simp only [Int.reduceToNat]; assumption)); (· rfl))))
end Go.Proofs.YtboddbheljenhaaGreatDoor
namespace Go.Proofs.YtboddbheljenhaaGreatDoor
open Go.RowKit
section
variable {P : Program} {k : Nat} {st : St} {o : Oper}
theorem opok_min3 {x y z : Operand} {t t' t2 : TypeId} {a b c : Int} (ho : o.op = .call { callee := .builtin .min, args := #[x, y, z], argTypes := #[t, t', t2] }) (hx : st.aop x = .val (.int .i64 a)) (hy : st.aop y = .val (.int .i64 b)) (hz : st.aop z = .val (.int .i64 c)) : OpOk P k st o ⟨.val (.int .i64 (min (min a b) c)), [], [], []⟩ :=
  opok_quiet fun ψ prot obj w ρ _ hr _ => by
    have h1 := (hx ▸ hr x (by simp [ho, Op.operands, Call.operands]) : VRel ψ prot w (.val (.int .i64 a)) (ρ x)).val_eq
    have h2 := (hy ▸ hr y (by simp [ho, Op.operands, Call.operands]) : VRel ψ prot w (.val (.int .i64 b)) (ρ y)).val_eq
    have h3 := (hz ▸ hr z (by simp [ho, Op.operands, Call.operands]) : VRel ψ prot w (.val (.int .i64 c)) (ρ z)).val_eq
    refine ⟨_, ?_, .val _⟩
    by_cases h : b < a
    · have e : min a b = b := by omega
      rw [e]
      by_cases h' : c < b
      · have e' : min b c = c := by omega
        rw [e']
        simp [execOp, ho, resolve, invoke, builtin, h1, h2, h3, Builtin.min_, Builtin.min2, go_sem, h, h']
      · have e' : min b c = b := by omega
        rw [e']
        simp [execOp, ho, resolve, invoke, builtin, h1, h2, h3, Builtin.min_, Builtin.min2, go_sem, h, h']
    · have e : min a b = a := by omega
      rw [e]
      by_cases h' : c < a
      · have e' : min a c = c := by omega
        rw [e']
        simp [execOp, ho, resolve, invoke, builtin, h1, h2, h3, Builtin.min_, Builtin.min2, go_sem, h, h']
      · have e' : min a c = a := by omega
        rw [e']
        simp [execOp, ho, resolve, invoke, builtin, h1, h2, h3, Builtin.min_, Builtin.min2, go_sem, h, h']
end
end Go.Proofs.YtboddbheljenhaaGreatDoor
