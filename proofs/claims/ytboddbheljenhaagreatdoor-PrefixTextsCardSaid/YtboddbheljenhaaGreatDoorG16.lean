/-
  addr.join: eight groups as an address.
-/
import Derived.Test.YtboddbheljenhaaGreatDoorG13
import Derived.Test.YtboddbheljenhaaGreatDoorG04
import Derived.Test.YtboddbheljenhaaGreatDoorG15
import Derived.Test.YtboddbheljenhaaGreatDoorG10
import Derived.Test.YtboddbheljenhaaGreatDoorG11
import Derived.Test.YtboddbheljenhaaGreatDoorG07
namespace Go.Proofs.YtboddbheljenhaaGreatDoor
open Go.RowKit
def jn (a b c d : Nat) : Nat := ((a * 65536 + b) * 65536 + c) * 65536 + d
theorem or16_u64 (a b : Nat) (h2 : a < 281474976710656) (h4 : b < 65536) : bits .or .u64 ((a : Int) * 65536) (b : Int) = ((a * 65536 + b : Nat) : Int) := by
  have e := bits_or_u64_nat (a * 65536) b (by omega) (by omega)
  rw [show ((a * 65536 : Nat) : Int) = (a : Int) * 65536 by omega] at e
  rw [e]
  congr 1
  have h := Nat.two_pow_add_eq_or_of_lt (i := 16) (b := b) (by simpa using h4) a
  rw [show (2 : Nat) ^ 16 = 65536 by decide] at h
  rw [Nat.mul_comm a 65536, ← h]
theorem or16_r (a b r : Nat) (h2 : a < 281474976710656) (h4 : b < 65536) (hr : r = a * 65536 + b) : bits .or .u64 ((a : Int) * 65536) (b : Int) = (r : Int) := by
  rw [hr]
  exact or16_u64 a b h2 h4
set_option maxHeartbeats 16000000 in
set_option maxRecDepth 100000 in
theorem join_spec8 (a b c d e f g h : Nat) (ha : a < 65536) (hb : b < 65536) (hc : c < 65536) (hd : d < 65536) (he : e < 65536) (hf : f < 65536) (hg : g < 65536) (hh : h < 65536) :
    Spec Tryz.prog 78 [.agg [.val (.int .u16 (a : Int)), .val (.int .u16 (b : Int)), .val (.int .u16 (c : Int)), .val (.int .u16 (d : Int)), .val (.int .u16 (e : Int)), .val (.int .u16 (f : Int)), .val (.int .u16 (g : Int)), .val (.int .u16 (h : Int))]] [] (.agg [.val (.bool true), .val (.int .u64 (jn a b c d : Int)), .val (.int .u64 (jn e f g h : Int))]) [] := by
  obtain ⟨A2, hA2⟩ : ∃ r, r = a * 65536 + b := ⟨_, rfl⟩
  obtain ⟨A3, hA3⟩ : ∃ r, r = A2 * 65536 + c := ⟨_, rfl⟩
  obtain ⟨A4, hA4⟩ : ∃ r, r = A3 * 65536 + d := ⟨_, rfl⟩
  obtain ⟨E2, hE2⟩ : ∃ r, r = e * 65536 + f := ⟨_, rfl⟩
  obtain ⟨E3, hE3⟩ : ∃ r, r = E2 * 65536 + g := ⟨_, rfl⟩
  obtain ⟨E4, hE4⟩ : ∃ r, r = E3 * 65536 + h := ⟨_, rfl⟩
  have j1 : jn a b c d = A4 := by unfold jn; omega
  have j2 : jn e f g h = E4 := by unfold jn; omega
  rw [j1, j2]
  have o1 := or16_r 0 a a (by omega) ha (by omega)
  have p1 := or16_r 0 e e (by omega) he (by omega)
  rw [show ((0 : Nat) : Int) * 65536 = 0 by decide] at o1 p1
  have oA2 := or16_r a b A2 (by omega) hb hA2
  have wA2 : IntKind.u64.wrap ((a : Int) * 65536) = (a : Int) * 65536 := by rw [IntKind.wrap_u64]; omega
  have oA3 := or16_r A2 c A3 (by omega) hc hA3
  have wA3 : IntKind.u64.wrap ((A2 : Int) * 65536) = (A2 : Int) * 65536 := by rw [IntKind.wrap_u64]; omega
  have oA4 := or16_r A3 d A4 (by omega) hd hA4
  have wA4 : IntKind.u64.wrap ((A3 : Int) * 65536) = (A3 : Int) * 65536 := by rw [IntKind.wrap_u64]; omega
  have wa : IntKind.u64.wrap (a : Int) = (a : Int) := by rw [IntKind.wrap_u64]; omega
  have wb : IntKind.u64.wrap (b : Int) = (b : Int) := by rw [IntKind.wrap_u64]; omega
  have wc : IntKind.u64.wrap (c : Int) = (c : Int) := by rw [IntKind.wrap_u64]; omega
  have wd : IntKind.u64.wrap (d : Int) = (d : Int) := by rw [IntKind.wrap_u64]; omega
  have oE2 := or16_r e f E2 (by omega) hf hE2
  have wE2 : IntKind.u64.wrap ((e : Int) * 65536) = (e : Int) * 65536 := by rw [IntKind.wrap_u64]; omega
  have oE3 := or16_r E2 g E3 (by omega) hg hE3
  have wE3 : IntKind.u64.wrap ((E2 : Int) * 65536) = (E2 : Int) * 65536 := by rw [IntKind.wrap_u64]; omega
  have oE4 := or16_r E3 h E4 (by omega) hh hE4
  have wE4 : IntKind.u64.wrap ((E3 : Int) * 65536) = (E3 : Int) * 65536 := by rw [IntKind.wrap_u64]; omega
  have we : IntKind.u64.wrap (e : Int) = (e : Int) := by rw [IntKind.wrap_u64]; omega
  have wf : IntKind.u64.wrap (f : Int) = (f : Int) := by rw [IntKind.wrap_u64]; omega
  have wg : IntKind.u64.wrap (g : Int) = (g : Int) := by rw [IntKind.wrap_u64]; omega
  have wh : IntKind.u64.wrap (h : Int) = (h : Int) := by rw [IntKind.wrap_u64]; omega
  have w0 : IntKind.u64.wrap 0 = 0 := by decide
  clear hA2 hA3 hA4 hE2 hE3 hE4 j1 j2
  have x1 : IntKind.i64.wrap 1 = 1 := by decide
  have x2 : IntKind.i64.wrap 2 = 2 := by decide
  have x3 : IntKind.i64.wrap 3 = 3 := by decide
  have x4 : IntKind.i64.wrap 4 = 4 := by decide
  have x5 : IntKind.i64.wrap 5 = 5 := by decide
  have x6 : IntKind.i64.wrap 6 = 6 := by decide
  have x7 : IntKind.i64.wrap 7 = 7 := by decide
  refine spec_of_awp Tryz.func78 rfl (Nat.le_of_ble_eq_true rfl) fun ini => ?_
  simp only [Tryz.ntmps78]
  (repeat (first | refine awp_reg_seq rfl fun k => ?_ | refine awp_seq ?_ | refine awp_block ?_ | (apply runk0 rfl rfl (opok_move rfl ?_) ?_; rotate_left 1; (· (conv => (lhs; whnf)))) | (apply runk0 rfl rfl (opok_build rfl ?_ ?_ ?_ ?_ ?_) ?_; rotate_left 5; (· (conv => (lhs; whnf; arg 1; whnf))); (· (conv => (lhs; whnf; arg 1; repeat (whnf; arg 2)))); (· (conv => (lhs; whnf; arg 1; whnf))); (· (repeat (first | exact PartsOf.nil | (apply PartsOf.cons; (· (conv => (lhs; whnf))))))); (· (conv => (lhs; whnf; arg 1; repeat (whnf; arg 2))))) | (apply runk_box rfl rfl rfl ?_ ?_ ?_ ?_; rotate_left 2; (· (conv => (lhs; whnf))); (· rfl); (· (conv => (lhs; whnf)))) | (apply runk_alloc rfl rfl rfl ?_ ?_ ?_; rotate_left 2; (· (conv => (lhs; whnf; arg 1; whnf))); (· (conv => (lhs; whnf)))) | (apply runk_store rfl rfl rfl ?_ ?_ ?_ ?_ ?_ ?_ ?_ ?_ ?_ ?_ ?_; rotate_left 9; (· (conv => (lhs; whnf))); (· (conv => (lhs; whnf))); (· (conv => (lhs; whnf; arg 1; whnf; arg 2; whnf))); (· rfl); (· (conv => (lhs; whnf))); (· rfl); (· (unfold sizeIs; conv => (lhs; whnf; arg 1; whnf))); (· rfl); (· rfl); (· (conv => (lhs; repeat (whnf; arg 2))))) | refine runk_end (by kernel_rfl) ?_))
  refine awp_rounds 5 ?_
  (repeat (first | refine awp_reg_seq rfl fun k => ?_ | refine awp_reg rfl fun k => ?_ | refine awp_seq ?_ | refine awp_true rfl ?_ | refine awp_false rfl ?_ | refine awp_skip (?_ : Awp _ _ _ _ _ _) | refine awp_block ?_ | refine awp_exit (?_ : Awp _ _ _ _ _ _) | (refine awp_ret ?_; (apply ends_pure ?_ ?_ ?_ ?_ ?_ (.inl rfl); rotate_left 1; (· (exact res_cell rfl rfl rfl rfl rfl)); (· rfl); (· rfl); (· rfl); (· rfl))) | (((apply runk0 rfl rfl (opok_indexP rfl ?_ ?_ rfl ?_ ?_ ?_) ?_; rotate_left 6; (· (conv => (lhs; whnf))); (· (conv => (lhs; whnf))); (· (unfold sizeIs; conv => (lhs; whnf; arg 1; whnf))); (· omega); (· omega)))) | (((apply runk_storeI rfl rfl rfl ?_ ?_ ?_ ?_ ?_ ?_ ?_ ?_ ?_; rotate_left 7; (· (conv => (lhs; whnf))); (· rfl); (· (conv => (lhs; whnf))); (· rfl); (· rfl); (· (unfold sizeIs; conv => (lhs; whnf; arg 1; whnf))); (· ((simp; done))); (· rfl)))) | (apply runk0 rfl rfl (opok_move rfl ?_) ?_; rotate_left 1; (· (conv => (lhs; whnf)))) | (apply runk0 rfl rfl (opok_assign rfl ?_) ?_; rotate_left 1; (· (conv => (lhs; whnf)))) | (apply runk_fa rfl rfl rfl ?_ rfl rfl ?_ ?_ ?_ ?_; rotate_left 5; (· (conv => (lhs; whnf))); (· (unfold sizeIs; conv => (lhs; whnf; arg 1; whnf))); (· rfl); (· (conv => (lhs; whnf)))) | (((apply runk0 rfl rfl (opok_load rfl ?_ ?_ ?_ ?_) ?_; rotate_left 5; (· (conv => (lhs; whnf))); (· (conv => (lhs; whnf; arg 1; whnf; arg 2; whnf))); (· rfl); (· (conv => (lhs; whnf; arg 1; whnf)))))) | (apply runk0 rfl rfl (opok_loadA rfl ?_ ?_ ?_ ?_ ?_ ?_) ?_; rotate_left 6; (· (conv => (lhs; whnf))); (· (conv => (lhs; whnf; arg 1; whnf; arg 2; whnf))); (· rfl); (· (unfold sizeIs; conv => (lhs; whnf; arg 1; whnf))); (· (conv => (lhs; repeat (whnf; arg 2)))); (· rfl)) | (apply runk0 rfl rfl (opok_bin rfl ?_ ?_ ?_) ?_; rotate_left 3; (· (conv => (lhs; whnf))); (· (conv => (lhs; whnf))); (· (intro w; go_simp; rfl))) | (apply runk0 rfl rfl (opok_conv rfl ?_ ?_) ?_; rotate_left 2; (· (conv => (lhs; whnf))); (· (intro w; go_simp; rfl))) | (apply runk_store rfl rfl rfl ?_ ?_ ?_ ?_ ?_ ?_ ?_ ?_ ?_ ?_ ?_; rotate_left 9; (· (conv => (lhs; whnf))); (· (conv => (lhs; whnf))); (· (conv => (lhs; whnf; arg 1; whnf; arg 2; whnf))); (· rfl); (· (conv => (lhs; whnf))); (· rfl); (· (unfold sizeIs; conv => (lhs; whnf; arg 1; whnf))); (· rfl); (· rfl); (· (conv => (lhs; repeat (whnf; arg 2))))) | refine runk_end (by kernel_rfl) ?_))
end Go.Proofs.YtboddbheljenhaaGreatDoor
namespace Go.Proofs.YtboddbheljenhaaGreatDoor
open Go.RowKit
theorem pgF_lt : ∀ (e : Bool) (ps : List (List UInt8)) (xs : List Nat), pgF e ps = some xs → ∀ x ∈ xs, x < 65536
  | e, [], xs, h => by cases h; simp
  | e, p :: r, xs, h => by
    unfold pgF at h
    by_cases c : (e && r.isEmpty && hasB p 46) = true
    · rw [if_pos c] at h
      cases e4 : p4N p with
      | none => rw [e4] at h; cases h
      | some n =>
        rw [e4] at h
        cases h
        intro x hx
        simp only [List.mem_cons, List.not_mem_nil, or_false] at hx
        omega
    · rw [if_neg c] at h
      cases e4 : grpN p with
      | none => rw [e4] at h; cases h
      | some n =>
        rw [e4] at h
        cases e5 : pgF e r with
        | none => rw [e5] at h; cases h
        | some ys =>
          rw [e5] at h
          cases h
          intro x hx
          rcases List.mem_cons.1 hx with rfl | hx
          · exact grpN_lt e4
          · exact pgF_lt e r ys e5 x hx
theorem pgN_lt {e : Bool} {l : List UInt8} {xs : List Nat} (h : pgN e l = some xs) : ∀ x ∈ xs, x < 65536 := by
  unfold pgN at h
  by_cases c : l = []
  · rw [if_pos c] at h; cases h; simp
  · rw [if_neg c] at h
    exact pgF_lt e _ xs h
theorem p6N_ok {l : List UInt8} {xs : List Nat} (h : p6N l = some xs) : xs.length = 8 ∧ ∀ x ∈ xs, x < 65536 := by
  unfold p6N at h
  by_cases c : (Lib.cut l [58, 58]).2.2 = true
  · rw [if_pos c] at h
    cases ea : pgN false (Lib.cut l [58, 58]).1 with
    | none => rw [ea] at h; cases h
    | some a =>
      rw [ea, Option.bind_some] at h
      cases eb : pgN true (Lib.cut l [58, 58]).2.1 with
      | none => rw [eb] at h; cases h
      | some b =>
        rw [eb, Option.bind_some] at h
        by_cases h8 : a.length + b.length < 8
        · rw [if_pos h8] at h
          cases h
          refine ⟨by simp; omega, fun x hx => ?_⟩
          rcases List.mem_append.1 hx with hx | hx
          · rcases List.mem_append.1 hx with hx | hx
            · exact pgN_lt ea x hx
            · rw [(List.mem_replicate.1 hx).2]; omega
          · exact pgN_lt eb x hx
        · rw [if_neg h8] at h; cases h
  · rw [if_neg c] at h
    cases ea : pgN true l with
    | none => rw [ea] at h; cases h
    | some a =>
      rw [ea, Option.bind_some] at h
      by_cases h8 : a.length = 8
      · rw [if_pos h8] at h
        cases h
        exact ⟨h8, pgN_lt ea⟩
      · rw [if_neg h8] at h; cases h
def jn8 (xs : List Nat) : Bool × Int × Int := match xs with
  | [a, b, c, d, e, f, g, i] => (true, (jn a b c d : Int), (jn e f g i : Int))
  | _ => (false, 0, 0)
def prsA (l : List UInt8) : Option (Bool × Int × Int) := if 45 < l.length then none else if hasB l 58 = true then (p6N l).map jn8 else (p4N l).map fun n => (false, 0, (n : Int))
def prsV (l : List UInt8) : AVal := match prsA l with
  | some a => .tuple [.agg [.val (.bool a.1), .val (.int .u64 a.2.1), .val (.int .u64 a.2.2)], .val (.int .i64 0)]
  | none => .tuple [.agg [.val (.bool false), .val (.int .u64 0), .val (.int .u64 0)], .val (.int .i64 2)]
theorem jn_lt {a b c d : Nat} (ha : a < 65536) (hb : b < 65536) (hc : c < 65536) (hd : d < 65536) : jn a b c d < 18446744073709551616 := by unfold jn; omega
theorem prsA_ok {l : List UInt8} {v : Bool} {hi lo : Int} (h : prsA l = some (v, hi, lo)) : AOk v hi lo := by
  unfold prsA at h
  by_cases c : 45 < l.length
  · rw [if_pos c] at h; cases h
  · rw [if_neg c] at h
    by_cases c2 : hasB l 58 = true
    · rw [if_pos c2] at h
      cases e : p6N l with
      | none => rw [e] at h; cases h
      | some xs =>
        rw [e] at h
        obtain ⟨h8, hb⟩ := p6N_ok e
        obtain ⟨a, b, c, d, e', f, g, i, rfl⟩ := list8 h8
        simp only [Option.map_some, Option.some.injEq, jn8, Prod.mk.injEq] at h
        obtain ⟨rfl, rfl, rfl⟩ := h
        have q := fun x (hx : x ∈ [a, b, c, d, e', f, g, i]) => hb x hx
        have j1 := jn_lt (q a (by simp)) (q b (by simp)) (q c (by simp)) (q d (by simp))
        have j2 := jn_lt (q e' (by simp)) (q f (by simp)) (q g (by simp)) (q i (by simp))
        exact aok6 ⟨by omega, by omega⟩ ⟨by omega, by omega⟩
    · rw [if_neg c2] at h
      cases e : p4N l with
      | none => rw [e] at h; cases h
      | some n =>
        rw [e] at h
        have h' : some (false, (0 : Int), (n : Int)) = some (v, hi, lo) := h
        simp only [Option.some.injEq, Prod.mk.injEq] at h'
        obtain ⟨rfl, rfl, rfl⟩ := h'
        have := p4N_lt e
        exact aok4 (by omega) (by omega)
theorem jn_grps (x : Nat) (h : x < 18446744073709551616) : jn (x / 281474976710656 % 65536) (x / 4294967296 % 65536) (x / 65536 % 65536) (x % 65536) = x := by unfold jn; omega
theorem prsA_prA {v : Bool} {hi lo : Int} (ao : AOk v hi lo) : prsA (prA v hi lo) = some (v, hi, lo) := by
  obtain ⟨h0, h1, g0, g1, h4⟩ := ao
  obtain ⟨H, rfl⟩ := Int.eq_ofNat_of_zero_le h0
  obtain ⟨L, rfl⟩ := Int.eq_ofNat_of_zero_le g0
  cases v with
  | true =>
    have e : prA true (H : Int) (L : Int) = p6 (grps H L) := by unfold prA; rw [if_pos rfl, Int.toNat_natCast, Int.toNat_natCast]
    have h8 := grps_len H L
    have hb := grps_lt H L
    have l45 := p6_len45 h8 hb
    unfold prsA
    rw [e, if_neg (by omega), if_pos (hasB_yes (p6_colon h8)), p6N_p6 h8 hb]
    have j : jn8 (grps H L) = (true, (H : Int), (L : Int)) := by
      unfold jn8 grps
      dsimp only
      rw [jn_grps H (by omega), jn_grps L (by omega)]
    exact congrArg some j
  | false =>
    obtain ⟨hz, hl⟩ := h4 rfl
    have e : prA false (H : Int) (L : Int) = quad L := by unfold prA; rw [if_neg (by decide), Int.toNat_natCast]
    have l15 := quad_len (n := L)
    unfold prsA
    rw [e, if_neg (by omega), if_neg (by rw [hasB_no (quad_no L 58 (by decide) (by decide))]; decide), p4N_quad (by omega), hz]
    rfl
theorem prA_len {v : Bool} {hi lo : Int} (ao : AOk v hi lo) : (prA v hi lo).length ≤ 45 := by
  have h := prsA_prA ao
  unfold prsA at h
  by_cases c : 45 < (prA v hi lo).length
  · rw [if_pos c] at h; cases h
  · omega
end Go.Proofs.YtboddbheljenhaaGreatDoor
namespace Go.Proofs.YtboddbheljenhaaGreatDoor
open Go.RowKit
def eqQ (v : Bool) (hi lo : Int) (v' : Bool) (hi' lo' : Int) : Bool := v == v' && (hi == hi' && lo == lo')
def eqP (v : Bool) (hi lo n : Int) (v' : Bool) (hi' lo' n' : Int) : Bool := eqQ v hi lo v' hi' lo' && n == n'
section
variable {k : Nat} {st : St} {o : Oper}
theorem opok_eqQd {yt : TypeId} {x y : Operand} {v1 v2 : Bool} {h1 l1 h2 l2 : Int} (ho : o.op = .binOp .eql 24 x y yt) (hx : st.aop x = .agg [.val (.bool v1), .val (.int .u64 h1), .val (.int .u64 l1)]) (hy : st.aop y = .agg [.val (.bool v2), .val (.int .u64 h2), .val (.int .u64 l2)]) :
    OpOk Tryz.prog k st o ⟨.val (.bool (eqQ v1 h1 l1 v2 h2 l2)), [], [], []⟩ :=
  opok_binA ho hx (.cons (.cons (.cons .nil))) hy (.cons (.cons (.cons .nil))) fun w => by
    unfold eqQ
    go_simp
    by_cases c1 : v1 = v2 <;> by_cases c2 : h1 = h2 <;> by_cases c3 : l1 = l2 <;> simp_all
theorem opok_neQd {yt : TypeId} {x y : Operand} {v1 v2 : Bool} {h1 l1 h2 l2 : Int} (ho : o.op = .binOp .neq 24 x y yt) (hx : st.aop x = .agg [.val (.bool v1), .val (.int .u64 h1), .val (.int .u64 l1)]) (hy : st.aop y = .agg [.val (.bool v2), .val (.int .u64 h2), .val (.int .u64 l2)]) :
    OpOk Tryz.prog k st o ⟨.val (.bool (!eqQ v1 h1 l1 v2 h2 l2)), [], [], []⟩ :=
  opok_binA ho hx (.cons (.cons (.cons .nil))) hy (.cons (.cons (.cons .nil))) fun w => by
    unfold eqQ
    go_simp
    by_cases c1 : v1 = v2 <;> by_cases c2 : h1 = h2 <;> by_cases c3 : l1 = l2 <;> simp_all
theorem opok_eqPd {yt : TypeId} {x y : Operand} {v1 v2 : Bool} {h1 l1 h2 l2 n1 n2 : Int} (ho : o.op = .binOp .eql 26 x y yt) (hx : st.aop x = .agg [.val (.bool v1), .val (.int .u64 h1), .val (.int .u64 l1), .val (.int .i64 n1)]) (hy : st.aop y = .agg [.val (.bool v2), .val (.int .u64 h2), .val (.int .u64 l2), .val (.int .i64 n2)]) :
    OpOk Tryz.prog k st o ⟨.val (.bool (eqP v1 h1 l1 n1 v2 h2 l2 n2)), [], [], []⟩ :=
  opok_binA ho hx (.cons (.cons (.cons (.cons .nil)))) hy (.cons (.cons (.cons (.cons .nil)))) fun w => by
    unfold eqP eqQ
    go_simp
    by_cases c1 : v1 = v2 <;> by_cases c2 : h1 = h2 <;> by_cases c3 : l1 = l2 <;> by_cases c4 : n1 = n2 <;> simp_all
theorem opok_nePd {yt : TypeId} {x y : Operand} {v1 v2 : Bool} {h1 l1 h2 l2 n1 n2 : Int} (ho : o.op = .binOp .neq 26 x y yt) (hx : st.aop x = .agg [.val (.bool v1), .val (.int .u64 h1), .val (.int .u64 l1), .val (.int .i64 n1)]) (hy : st.aop y = .agg [.val (.bool v2), .val (.int .u64 h2), .val (.int .u64 l2), .val (.int .i64 n2)]) :
    OpOk Tryz.prog k st o ⟨.val (.bool (!eqP v1 h1 l1 n1 v2 h2 l2 n2)), [], [], []⟩ :=
  opok_binA ho hx (.cons (.cons (.cons (.cons .nil)))) hy (.cons (.cons (.cons (.cons .nil)))) fun w => by
    unfold eqP eqQ
    go_simp
    by_cases c1 : v1 = v2 <;> by_cases c2 : h1 = h2 <;> by_cases c3 : l1 = l2 <;> by_cases c4 : n1 = n2 <;> simp_all
end
end Go.Proofs.YtboddbheljenhaaGreatDoor
namespace Go.Proofs.YtboddbheljenhaaGreatDoor
open Go.RowKit
def okA' (v : Bool) (hi lo : Int) : Bool := v || (decide (hi = 0) && decide (lo ≤ 4294967295))
set_option maxHeartbeats 1000000 in
theorem avalid4_any (hi lo : Int) (w : World) : Calls Tryz.prog 41 #[.agg #[.bool false, .int .u64 hi, .int .u64 lo]] w fun e w' => e = .returned (.bool (decide (hi = 0) && decide (lo ≤ 4294967295))) ∧ Below w.heap.size w w' := by
  have e3 : decide (lo < 4294967296) = decide (lo ≤ 4294967295) := by rw [decide_eq_decide]; omega
  by_cases h1 : hi = 0
  · have e1 : decide (hi = 0) = true := by simpa using h1
    have e2 : (hi == 0) = true := by simpa using h1
    rw [e1]
    go_enter Tryz.func41, Tryz.ntmps41
    go_wp2
    go_ret
    refine ⟨?_, (by repeat (with_reducible first | exact Below.refl _ _ | assumption | refine Below.drew ?_ | refine below_drewN ?_ _ | refine Below.alloc ?_ (by simp) _ | refine Below.setCell ?_ (by first | (simp; done) | omega | (simp; omega)) _ | refine Below.alloc ?_ (by simp; omega) _))⟩
    first | rfl | (rw [← e3]; rfl)
  · have e1 : decide (hi = 0) = false := by simpa using h1
    have e2 : (hi == 0) = false := by simpa using h1
    rw [e1]
    go_enter Tryz.func41, Tryz.ntmps41
    go_wp2
    go_ret
    refine ⟨?_, (by repeat (with_reducible first | exact Below.refl _ _ | assumption | refine Below.drew ?_ | refine below_drewN ?_ _ | refine Below.alloc ?_ (by simp) _ | refine Below.setCell ?_ (by first | (simp; done) | omega | (simp; omega)) _ | refine Below.alloc ?_ (by simp; omega) _))⟩
    first | rfl | (rw [← e3]; rfl)
theorem avalid_v4 (hi lo : Int) : Spec Tryz.prog 41 [.agg [.val (.bool false), .val (.int .u64 hi), .val (.int .u64 lo)]] [] (.val (.bool (decide (hi = 0) && decide (lo ≤ 4294967295)))) [] :=
  (spec_of_calls (vs := #[.agg #[.bool false, .int .u64 hi, .int .u64 lo]]) fun w => avalid4_any hi lo w).of (.agg (vs := [.bool false, .int .u64 hi, .int .u64 lo]) .nil)
set_option maxHeartbeats 1000000 in
theorem avalid6_any (hi lo : Int) (w : World) : Calls Tryz.prog 41 #[.agg #[.bool true, .int .u64 hi, .int .u64 lo]] w fun e w' => e = .returned (.bool true) ∧ Below w.heap.size w w' := by
  go_enter Tryz.func41, Tryz.ntmps41
  go_wp2
  go_ret
  exact ⟨rfl, (by repeat (with_reducible first | exact Below.refl _ _ | assumption | refine Below.drew ?_ | refine below_drewN ?_ _ | refine Below.alloc ?_ (by simp) _ | refine Below.setCell ?_ (by first | (simp; done) | omega | (simp; omega)) _ | refine Below.alloc ?_ (by simp; omega) _))⟩
theorem avalid_v6 (hi lo : Int) : Spec Tryz.prog 41 [.agg [.val (.bool true), .val (.int .u64 hi), .val (.int .u64 lo)]] [] (.val (.bool true)) [] :=
  (spec_of_calls (vs := #[.agg #[.bool true, .int .u64 hi, .int .u64 lo]]) fun w => avalid6_any hi lo w).of (.agg (vs := [.bool true, .int .u64 hi, .int .u64 lo]) .nil)
theorem avalid_spec (v : Bool) (hi lo : Int) : Spec Tryz.prog 41 [.agg [.val (.bool v), .val (.int .u64 hi), .val (.int .u64 lo)]] [] (.val (.bool (okA' v hi lo))) [] := by
  cases v with
  | true => exact avalid_v6 hi lo
  | false => exact avalid_v4 hi lo
end Go.Proofs.YtboddbheljenhaaGreatDoor
