/-
  A value made an interface; the bytes of a text (a value) that nobody writes. No program is named here.
-/
import Derived.Test.YtboddbheljenhaaGreatDoorG07
import Derived.Test.YtboddbheljenhaaGreatDoorG04
import Derived.Test.YtboddbheljenhaaGreatDoorG05
namespace Go.Proofs.YtboddbheljenhaaGreatDoor
open Go.RowKit
theorem bints_range (l : List UInt8) : ∀ z ∈ bints l, 0 ≤ z ∧ z < 256 := by
  intro z hz
  obtain ⟨b, -, rfl⟩ := List.mem_map.1 hz
  have := b.toNat_lt
  omega
section
variable {P : Program} {k : Nat} {st : St} {o : Oper}
theorem opok_convL {s t e : TypeId} {x : Operand} {l : List UInt8} (ho : o.op = .convert s t x) (hx : st.aop x = .val (bstr l)) (hs : P.underlying s = some .string) (ht : P.underlying t = some (.slice e)) (he : P.underlying e = some (.int .u8)) : OpOk P k st o ⟨.ro (ints .u8 (bints l)), [], [], []⟩ := by
  rw [← strOf_bints] at hx
  exact opok_convB ho hx hs ht he (bints_range l)
theorem opok_mkIf {t : TypeId} {x : Operand} {kd kt : IntKind} {v : Int} (ho : o.op = .makeInterface t x) (hx : st.aop x = .val (.int kd v)) (ht : P.underlying t = some (.int kt)) : OpOk P k st o ⟨.val (.iface t (.int kd v)), [], [], []⟩ :=
  opok_quiet fun ψ prot obj w ρ _ hr _ => by
    have h1 := (hx ▸ hr x (by simp [ho, Op.operands]) : VRel ψ prot w (.val (.int kd v)) (ρ x)).val_eq
    exact ⟨.iface t (.int kd v), by simp [execOp, ho, h1, Instr.makeInterface, run_underlying ht, go_sem], .val _⟩
theorem opok_errNeV {t yt it : TypeId} {x y : Operand} {v : Value} (ho : o.op = .binOp .neq t x y yt) (hx : st.aop x = .val (.iface it v)) (hy : st.aop y = .val .nilIface) (ht : P.underlying t = some (.interface (P.methodsAt t))) : OpOk P k st o ⟨.val (.bool true), [], [], []⟩ :=
  opok_quiet fun ψ prot obj w ρ _ hr _ => by
    have h2 := (hy ▸ hr y (by simp [ho, Op.operands]) : VRel ψ prot w (.val .nilIface) (ρ y)).val_eq
    have hv := (hx ▸ hr x (by simp [ho, Op.operands]) : VRel ψ prot w (.val (.iface it v)) (ρ x)).val_eq
    have hb : (binOp .neq t (.iface it v) .nilIface).run P w = .ok (.bool true) w := run_neq_held_nil w t it v ht
    refine ⟨.bool true, ?_, .val _⟩
    simp only [execOp, ho, hv, h2, Sem.run_bind, eqGuard, Bool.not_true, Bool.false_eq_true, if_false, hb, Sem.run_pure, Result.andThen_ok]
end
end Go.Proofs.YtboddbheljenhaaGreatDoor
namespace Go.Proofs.YtboddbheljenhaaGreatDoor
open Go.RowKit
def lowZ (c : Int) : Int := bits .or .u8 c 32
def letZ (c : Int) : Int := IntKind.u8.wrap (IntKind.u8.wrap (lowZ c - 97) + 10)
def clsB (x : Nat) : Bool :=
  let c : Int := (x : Int)
  match hexV (UInt8.ofNat x) with
  | some d => (decide (48 ≤ c) && decide (c ≤ 57) && decide (IntKind.u8.wrap (c - 48) = (d : Int))) || (!(decide (48 ≤ c) && decide (c ≤ 57)) && decide (97 ≤ lowZ c) && decide (lowZ c ≤ 122) && decide (letZ c = (d : Int)))
  | none => !(decide (48 ≤ c) && decide (c ≤ 57)) && (!(decide (97 ≤ lowZ c) && decide (lowZ c ≤ 122)) || decide (16 ≤ letZ c))
theorem cls_all : ∀ x : Fin 256, clsB x.val = true := by decide +kernel
theorem cls (x : UInt8) : clsB x.toNat = true := cls_all ⟨x.toNat, x.toNat_lt⟩
theorem cls_some {x : UInt8} {d : Nat} (h : hexV x = some d) : (decide (48 ≤ (x.toNat : Int)) = true ∧ decide ((x.toNat : Int) ≤ 57) = true ∧ IntKind.u8.wrap ((x.toNat : Int) - 48) = (d : Int)) ∨
    ((decide (48 ≤ (x.toNat : Int)) = false ∨ decide (48 ≤ (x.toNat : Int)) = true ∧ decide ((x.toNat : Int) ≤ 57) = false) ∧ decide (97 ≤ lowZ (x.toNat : Int)) = true ∧ decide (lowZ (x.toNat : Int) ≤ 122) = true ∧ letZ (x.toNat : Int) = (d : Int)) := by
  have hc := cls x
  unfold clsB at hc
  simp only [UInt8.ofNat_toNat, h] at hc
  cases b1 : decide (48 ≤ (x.toNat : Int)) <;> cases b2 : decide ((x.toNat : Int) ≤ 57) <;> cases b3 : decide (97 ≤ lowZ (x.toNat : Int)) <;> cases b4 : decide (lowZ (x.toNat : Int) ≤ 122) <;> simp [b1, b2, b3, b4] at hc ⊢ <;> exact hc
theorem cls_none {x : UInt8} (h : hexV x = none) : (decide (48 ≤ (x.toNat : Int)) = false ∨ decide (48 ≤ (x.toNat : Int)) = true ∧ decide ((x.toNat : Int) ≤ 57) = false) ∧
    (decide (97 ≤ lowZ (x.toNat : Int)) = false ∨ decide (97 ≤ lowZ (x.toNat : Int)) = true ∧ decide (lowZ (x.toNat : Int) ≤ 122) = false ∨ decide (97 ≤ lowZ (x.toNat : Int)) = true ∧ decide (lowZ (x.toNat : Int) ≤ 122) = true ∧ decide (letZ (x.toNat : Int) ≥ 16) = true) := by
  have hc := cls x
  unfold clsB at hc
  simp only [UInt8.ofNat_toNat, h] at hc
  cases b1 : decide (48 ≤ (x.toNat : Int)) <;> cases b2 : decide ((x.toNat : Int) ≤ 57) <;> cases b3 : decide (97 ≤ lowZ (x.toNat : Int)) <;> cases b4 : decide (lowZ (x.toNat : Int) ≤ 122) <;> simp [b1, b2, b3, b4] at hc ⊢ <;> exact hc
theorem lower_spec (c : Int) : Spec Tryz.prog 131 [.val (.int .u8 c)] [] (.val (.int .u8 (lowZ c))) [] :=
  spec_belowV (timeless_val _) fun ψ prot w cargs hV hk hsz hargs => by
    obtain rfl := one_arg hsz hargs
    refine (Tryz.internal_strconv_lower c w).mono ?_
    rintro e w' ⟨rfl, rfl⟩
    exact ⟨_, rfl, .val _, Below.refl _ _⟩
def hexP (l : List UInt8) : Option Nat := if l = [] then none else hexN 0 l
def pu16V (l : List UInt8) : AVal := match hexP l with
  | some n => .tuple [.val (.int .u64 (n : Int)), .val .nilIface]
  | none => .tuple [.val (.int .u64 0), .val (.iface 125 (.int .i64 2))]
theorem hexN_bad {l : List UInt8} {i : Nat} (hi : i < l.length) (h : hexV l[i] = none) : hexN 0 l = none := by
  conv => lhs; rw [← List.take_append_drop i l]
  rw [hexN_append, List.drop_eq_getElem_cons hi]
  cases hexN 0 (l.take i) with
  | none => rfl
  | some n => simp [hexN, h]
theorem hexN_step {l : List UInt8} {i n d : Nat} (hi : i < l.length) (hn : hexN 0 (l.take i) = some n) (h : hexV l[i] = some d) : hexN 0 (l.take (i + 1)) = some (n * 16 + d) := by
  rw [List.take_add_one, List.getElem?_eq_getElem hi, hexN_append, hn]
  simp [hexN, h]
set_option maxHeartbeats 16000000 in
set_option maxRecDepth 100000 in
theorem ipu16_spec (l : List UInt8) (hl : l.length ≤ 4) : Spec Tryz.prog 119 [.val (bstr l), .val (.int .i64 16), .val (.int .i64 16)] [] (pu16V l) [] := by
  have w0 : IntKind.i64.wrap 0 = 0 := by decide
  have w1 : IntKind.u64.wrap 65536 = 65536 := by decide
  have w2 : IntKind.u64.wrap 65535 = 65535 := by decide
  have w3 : IntKind.u64.wrap 16 = 16 := by decide
  have w4 : IntKind.u8.wrap 16 = 16 := by decide
  by_cases h0 : l = []
  · subst h0
    refine spec_of_awp Tryz.func119 rfl (Nat.le_of_ble_eq_true rfl) fun ini => ?_
    simp only [Tryz.ntmps119]
    (repeat (first | refine awp_reg_seq rfl fun k => ?_ | refine awp_seq ?_ | refine awp_true rfl ?_ | (refine awp_ret ?_; (apply ends_pure ?_ ?_ ?_ ?_ ?_ (.inl rfl); rotate_left 1; (· (exact res_two rfl rfl rfl)); (· rfl); (· rfl); (· rfl); (· rfl))) | (((apply runk0 rfl rfl (opok_mkIf rfl ?_ ?_) ?_; rotate_left 3; (· (conv => (lhs; whnf))); (· (conv => (lhs; whnf; arg 1; whnf)))))) | (((((apply runk0 rfl rfl (opok_seql rfl ?_ ?_) ?_; rotate_left 2; (· ((conv => (lhs; whnf)); try exact rfl)); (· ((conv => (lhs; whnf)); try exact rfl))))))) | (apply runk0 rfl rfl (opok_move rfl ?_) ?_; rotate_left 1; (· (conv => (lhs; whnf)))) | (apply runk0 rfl rfl (opok_assign rfl ?_) ?_; rotate_left 1; (· (conv => (lhs; whnf)))) | refine runk_end (by kernel_rfl) ?_))
  have he : (l == ([] : List UInt8)) = false := by
    cases l with
    | nil => exact absurd rfl h0
    | cons a b => rfl
  refine spec_of_awp Tryz.func119 rfl (Nat.le_of_ble_eq_true rfl) fun ini => ?_
  simp only [Tryz.ntmps119]
  (repeat (first | refine awp_reg_seq rfl fun k => ?_ | refine awp_reg rfl fun k => ?_ | refine awp_seq ?_ | refine awp_true rfl ?_ | refine awp_false rfl ?_ | refine awp_isF rfl (by assumption) ?_ | refine awp_skip (?_ : Awp _ _ _ _ _ _) | refine awp_block ?_ | (((((apply runk0 rfl rfl (opok_seql rfl ?_ ?_) ?_; rotate_left 2; (· ((conv => (lhs; whnf)); try exact rfl)); (· ((conv => (lhs; whnf)); try exact rfl))))))) | (((apply runk0 rfl rfl (opok_convL rfl ?_ rfl rfl rfl) ?_; rotate_left 1; (· ((conv => (lhs; whnf)); try exact rfl))))) | ((refine runk_ung rfl rfl rfl rfl ?_)) | (apply runk0 rfl rfl (opok_move rfl ?_) ?_; rotate_left 1; (· (conv => (lhs; whnf)))) | (apply runk0 rfl rfl (opok_assign rfl ?_) ?_; rotate_left 1; (· (conv => (lhs; whnf)))) | (apply runk0 rfl rfl (opok_bin rfl ?_ ?_ ?_) ?_; rotate_left 3; (· (conv => (lhs; whnf))); (· (conv => (lhs; whnf))); (· (intro w; go_simp; rfl))) | (apply runk0 rfl rfl (opok_conv rfl ?_ ?_) ?_; rotate_left 2; (· (conv => (lhs; whnf))); (· (intro w; go_simp; rfl))) | (((apply runk0 rfl rfl (opok_len rfl ?_ ?_ ?_) ?_; rotate_left 3; (· (conv => (lhs; whnf))); (· (conv => (lhs; whnf; arg 1; whnf))); (· (exact length_ints _ _))))) | (apply runk0 rfl rfl (opok_pick rfl ?_ ?_) ?_; rotate_left 2; (· (conv => (lhs; whnf))); (· first | exact pick_or | exact pick_and)) | refine runk_end (by kernel_rfl) ?_))
  have hlen : (bints l).length = l.length := by simp [bints]
  refine awp_loop (fun m st => ∃ (i n : Nat), i + m = l.length ∧ hexN 0 (l.take i) = some n ∧ n < 16 ^ i ∧ st.leB ⟨[(1, .val (.int .i64 16)), (8, .val (.bool false)), (10, .val (.int .u64 1152921504606846976)), (11, .val (.int .u64 65535)), (12, .val (.bool false)), (13, .val (.int .u64 (n : Int))), (99, .ro (ints .u8 (bints l))), (100, .val (.int .i64 (l.length : Int))), (101, .val (.int .i64 (i : Int)))], []⟩) l.length ⟨0, 0, by omega, by simp [hexN], by decide, ?_⟩ ?_
  · (refine leB_of ?_ ?_; (· (repeat (first | exact EnvIs.nil | (refine EnvIs.cons ?_ ?_; (· first | rfl | ((conv => (lhs; whnf)); ((simp [ints, hlen]; done)))))))); (· (repeat ((exact ObjsAre.nil)))))
  · rintro m st ⟨i, n, hi, hn, hnb, hle⟩
    refine awp_less hle ?_
    clear hle st
    (repeat (first | refine awp_reg_seq rfl fun k => ?_ | refine awp_seq ?_ | (apply runk0 rfl rfl (opok_bin rfl ?_ ?_ ?_) ?_; rotate_left 3; (· (conv => (lhs; whnf))); (· (conv => (lhs; whnf))); (· (intro w; go_simp; first | done | rfl))) | refine runk_end (by kernel_rfl) ?_))
    refine awp_if rfl (fun hc => ?_) (fun hc => ?_)
    · have hlt : i < l.length := by simpa using hc
      obtain ⟨x, hx⟩ : ∃ x, l[i] = x := ⟨_, rfl⟩
      have hxi : (ints .u8 (bints l))[i]? = some (.val (.int .u8 (x.toNat : Int))) := by
        rw [ints_get]
        simp [bints, List.getElem?_eq_getElem hlt, hx]
      have lw := lower_spec (x.toNat : Int)
      have hwn : IntKind.i64.wrap ((i : Int) + 1) = ((i + 1 : Nat) : Int) := by rw [IntKind.wrap_i64]; omega
      have hi3 : (16 : Nat) ^ i ≤ 4096 := Nat.pow_le_pow_right (by decide) (show i ≤ 3 by omega)
      have g1 : decide ((n : Int) ≥ 1152921504606846976) = false := decide_eq_false (by omega)
      cases hv : hexV x with
      | some d =>
        have hd := hexV_lt hv
        have hs := hexN_step hlt hn (by rw [hx]; exact hv)
        have hcl := cls_some hv
        have hb : n * 16 + d < 16 ^ (i + 1) := by rw [Nat.pow_succ]; omega
        have g2 : decide ((d : Int) ≥ 16) = false := decide_eq_false (by omega)
        have wm : IntKind.u64.wrap ((n : Int) * 16) = (n : Int) * 16 := by rw [IntKind.wrap_u64]; omega
        have wd : IntKind.u64.wrap (d : Int) = (d : Int) := by rw [IntKind.wrap_u64]; omega
        obtain ⟨y, hy⟩ : ∃ y, n * 16 + d = y := ⟨_, rfl⟩
        have wa : IntKind.u64.wrap ((n : Int) * 16 + (d : Int)) = (y : Int) := by rw [IntKind.wrap_u64]; omega
        have g3 : decide ((y : Int) < (n : Int) * 16) = false := decide_eq_false (by omega)
        have g4 : decide ((y : Int) > 65535) = false := decide_eq_false (by omega)
        rw [hy] at hs hb
        clear hx hy hn hnb hi3
        unfold letZ at hcl
        generalize lowZ (x.toNat : Int) = lo at *
        generalize (x.toNat : Int) = c at *
        rcases hcl with ⟨b1, b2, e1⟩ | ⟨b1 | ⟨b1, b2⟩, b3, b4, e1⟩ <;>
        · (repeat (first | refine awp_reg_seq rfl fun k => ?_ | refine awp_seq ?_ | refine awp_skip (?_ : Awp _ _ _ _ _ _) | refine awp_block ?_ | (apply runk0 rfl rfl (opok_move rfl ?_) ?_; rotate_left 1; (· (conv => (lhs; whnf)))) | (apply runk0 rfl rfl (opok_assign rfl ?_) ?_; rotate_left 1; (· (conv => (lhs; whnf)))) | (((apply runk0 rfl rfl (opok_loadR rfl ?_ ?_ ?_) ?_; rotate_left 2; (· (conv => (lhs; whnf))); (· rfl); (· (conv => (lhs; whnf; arg 1; whnf)))))) | (apply runk0 rfl rfl (opok_bin rfl ?_ ?_ ?_) ?_; rotate_left 3; (· (conv => (lhs; whnf))); (· (conv => (lhs; whnf))); (· (intro w; go_simp; rfl))) | (apply runk_guard rfl rfl ?_ rfl ?_ ?_; rotate_left 3; (· (conv => (lhs; whnf))); (· (intro hb; (try rw [hb]); apply opok_move rfl ?_; rotate_left 1; (· (conv => (lhs; whnf)))))) | (apply runk0 rfl rfl (opok_pick rfl ?_ ?_) ?_; rotate_left 2; (· (conv => (lhs; whnf))); (· (exact pick_and))) | refine runk_end (by kernel_rfl) ?_ | (apply runk0 rfl rfl (opok_index_ro rfl ?_ ?_ ?_ ?_ ?_ ?_ ?_) ?_; rotate_left 6; (· (conv => (lhs; whnf))); (· (conv => (lhs; whnf))); (· (conv => (lhs; whnf; arg 1; whnf))); (· (unfold sizeIs; conv => (lhs; whnf; arg 1; whnf))); (· (exact widths_ints _ _)); (· omega); (· assumption))))
          refine awp_if rfl (fun hq => by simp at hq) (fun hq => ?_)
          clear hq
          (repeat (first | refine awp_reg_seq rfl fun k => ?_ | refine awp_reg rfl fun k => ?_ | refine awp_seq ?_ | refine awp_true rfl ?_ | refine awp_false rfl ?_ | refine awp_skip (?_ : Awp _ _ _ _ _ _) | (apply runk_pure rfl rfl rfl ?_ ?_ ?_ ?_ ?_ ?_ ?_ ?_; rotate_left 6; (· (conv => (lhs; whnf))); (· exact Tryz.func131); (· rfl); (· rfl); (· exact (lw)); (· (repeat (first | exact Rens.nil | (refine Rens.cons ?_ ?_; (· ((refine Ren.pureR ?_ rfl; (rfl)))))))); (· rfl)) | (apply runk_guard rfl rfl ?_ rfl ?_ ?_; rotate_left 3; (· (conv => (lhs; whnf))); (· (intro hb; (try rw [hb]); apply opok_pure rfl ?_ ?_ ?_ ?_ ?_ ?_ ?_; rotate_left 6; (· (conv => (lhs; whnf))); (· exact Tryz.func131); (· rfl); (· rfl); (· exact (lw)); (· (repeat (first | exact Rens.nil | (refine Rens.cons ?_ ?_; (· ((refine Ren.pureR ?_ rfl; (rfl)))))))); (· rfl)))) | ((refine runk_ung rfl rfl rfl rfl ?_)) | ((refine runk_off rfl rfl rfl rfl rfl ?_)) | (apply runk0 rfl rfl (opok_move rfl ?_) ?_; rotate_left 1; (· (conv => (lhs; whnf)))) | (apply runk0 rfl rfl (opok_assign rfl ?_) ?_; rotate_left 1; (· (conv => (lhs; whnf)))) | (apply runk0 rfl rfl (opok_bin rfl ?_ ?_ ?_) ?_; rotate_left 3; (· (conv => (lhs; whnf))); (· (conv => (lhs; whnf))); (· (intro w; go_simp; rfl))) | (apply runk0 rfl rfl (opok_conv rfl ?_ ?_) ?_; rotate_left 2; (· (conv => (lhs; whnf))); (· (intro w; go_simp; rfl))) | (apply runk0 rfl rfl (opok_pick rfl ?_ ?_) ?_; rotate_left 2; (· (conv => (lhs; whnf))); (· first | exact pick_or | exact pick_and | (conv => (lhs; whnf)))) | refine runk_end (by kernel_rfl) ?_))
          refine ⟨m - 1, by omega, i + 1, y, by omega, hs, hb, ?_⟩
          (refine leB_of ?_ ?_; (· (repeat (first | exact EnvIs.nil | (refine EnvIs.cons ?_ ?_; (· rfl))))); (· (repeat ((exact ObjsAre.nil)))))
      | none =>
        have hcl := cls_none hv
        have hv : pu16V l = .tuple [.val (.int .u64 0), .val (.iface 125 (.int .i64 2))] := by
          unfold pu16V hexP
          rw [if_neg h0, hexN_bad hlt (by rw [hx]; exact hv)]
        rw [hv]
        clear hx hn hnb hi3
        unfold letZ at hcl
        generalize lowZ (x.toNat : Int) = lo at *
        generalize (x.toNat : Int) = c at *
        rcases hcl with ⟨b1 | ⟨b1, b2⟩, b3 | ⟨b3, b4⟩ | ⟨b3, b4, e1⟩⟩ <;>
        · (repeat (first | refine awp_reg_seq rfl fun k => ?_ | refine awp_seq ?_ | refine awp_skip (?_ : Awp _ _ _ _ _ _) | refine awp_block ?_ | (apply runk0 rfl rfl (opok_move rfl ?_) ?_; rotate_left 1; (· (conv => (lhs; whnf)))) | (apply runk0 rfl rfl (opok_assign rfl ?_) ?_; rotate_left 1; (· (conv => (lhs; whnf)))) | (((apply runk0 rfl rfl (opok_loadR rfl ?_ ?_ ?_) ?_; rotate_left 2; (· (conv => (lhs; whnf))); (· rfl); (· (conv => (lhs; whnf; arg 1; whnf)))))) | (apply runk0 rfl rfl (opok_bin rfl ?_ ?_ ?_) ?_; rotate_left 3; (· (conv => (lhs; whnf))); (· (conv => (lhs; whnf))); (· (intro w; go_simp; rfl))) | (apply runk_guard rfl rfl ?_ rfl ?_ ?_; rotate_left 3; (· (conv => (lhs; whnf))); (· (intro hb; (try rw [hb]); apply opok_move rfl ?_; rotate_left 1; (· (conv => (lhs; whnf)))))) | (apply runk0 rfl rfl (opok_pick rfl ?_ ?_) ?_; rotate_left 2; (· (conv => (lhs; whnf))); (· (exact pick_and))) | refine runk_end (by kernel_rfl) ?_ | (apply runk0 rfl rfl (opok_index_ro rfl ?_ ?_ ?_ ?_ ?_ ?_ ?_) ?_; rotate_left 6; (· (conv => (lhs; whnf))); (· (conv => (lhs; whnf))); (· (conv => (lhs; whnf; arg 1; whnf))); (· (unfold sizeIs; conv => (lhs; whnf; arg 1; whnf))); (· (exact widths_ints _ _)); (· omega); (· assumption))))
          refine awp_if rfl (fun hq => by simp at hq) (fun hq => ?_)
          clear hq
          (repeat (first | refine awp_reg_seq rfl fun k => ?_ | refine awp_reg rfl fun k => ?_ | refine awp_seq ?_ | refine awp_true rfl ?_ | refine awp_false rfl ?_ | (refine awp_ret ?_; (apply ends_pure ?_ ?_ ?_ ?_ ?_ (.inl rfl); rotate_left 1; (· (exact res_two rfl rfl rfl)); (· rfl); (· rfl); (· rfl); (· rfl))) | (apply runk_pure rfl rfl rfl ?_ ?_ ?_ ?_ ?_ ?_ ?_ ?_; rotate_left 6; (· (conv => (lhs; whnf))); (· exact Tryz.func131); (· rfl); (· rfl); (· exact (lw)); (· (repeat (first | exact Rens.nil | (refine Rens.cons ?_ ?_; (· ((refine Ren.pureR ?_ rfl; (rfl)))))))); (· rfl)) | (apply runk_guard rfl rfl ?_ rfl ?_ ?_; rotate_left 3; (· (conv => (lhs; whnf))); (· (intro hb; (try rw [hb]); apply opok_pure rfl ?_ ?_ ?_ ?_ ?_ ?_ ?_; rotate_left 6; (· (conv => (lhs; whnf))); (· exact Tryz.func131); (· rfl); (· rfl); (· exact (lw)); (· (repeat (first | exact Rens.nil | (refine Rens.cons ?_ ?_; (· ((refine Ren.pureR ?_ rfl; (rfl)))))))); (· rfl)))) | (((apply runk0 rfl rfl (opok_mkIf rfl ?_ ?_) ?_; rotate_left 3; (· (conv => (lhs; whnf))); (· (conv => (lhs; whnf; arg 1; whnf)))))) | ((refine runk_ung rfl rfl rfl rfl ?_)) | ((refine runk_off rfl rfl rfl rfl rfl ?_)) | (apply runk0 rfl rfl (opok_move rfl ?_) ?_; rotate_left 1; (· (conv => (lhs; whnf)))) | (apply runk0 rfl rfl (opok_assign rfl ?_) ?_; rotate_left 1; (· (conv => (lhs; whnf)))) | (apply runk0 rfl rfl (opok_bin rfl ?_ ?_ ?_) ?_; rotate_left 3; (· (conv => (lhs; whnf))); (· (conv => (lhs; whnf))); (· (intro w; go_simp; rfl))) | (apply runk0 rfl rfl (opok_conv rfl ?_ ?_) ?_; rotate_left 2; (· (conv => (lhs; whnf))); (· (intro w; go_simp; rfl))) | (apply runk0 rfl rfl (opok_pick rfl ?_ ?_) ?_; rotate_left 2; (· (conv => (lhs; whnf))); (· first | exact pick_and | (conv => (lhs; whnf)))) | refine runk_end (by kernel_rfl) ?_))
    · have hie : i = l.length := by simp at hc; omega
      subst hie
      rw [List.take_length] at hn
      have hv : pu16V l = .tuple [.val (.int .u64 (n : Int)), .val .nilIface] := by
        unfold pu16V hexP
        rw [if_neg h0, hn]
      rw [hv]
      refine awp_exit (?_ : Awp _ _ _ _ _ _)
      (repeat (first | refine awp_reg_seq rfl fun k => ?_ | refine awp_seq ?_ | refine awp_false rfl ?_ | refine awp_skip (?_ : Awp _ _ _ _ _ _) | (refine awp_ret ?_; (apply ends_pure ?_ ?_ ?_ ?_ ?_ (.inl rfl); rotate_left 1; (· (exact res_two rfl rfl rfl)); (· rfl); (· rfl); (· rfl); (· rfl))) | ((refine runk_off rfl rfl rfl rfl rfl ?_)) | (apply runk0 rfl rfl (opok_move rfl ?_) ?_; rotate_left 1; (· (conv => (lhs; whnf)))) | (apply runk0 rfl rfl (opok_assign rfl ?_) ?_; rotate_left 1; (· (conv => (lhs; whnf)))) | (apply runk0 rfl rfl (opok_pick rfl ?_ ?_) ?_; rotate_left 2; (· (conv => (lhs; whnf))); (· ((conv => (lhs; whnf))))) | refine runk_end (by kernel_rfl) ?_))
end Go.Proofs.YtboddbheljenhaaGreatDoor
