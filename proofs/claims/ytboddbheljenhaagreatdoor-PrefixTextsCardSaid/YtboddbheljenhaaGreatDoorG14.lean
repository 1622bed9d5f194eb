/-
  Layer 1: addr.longestRun of any groups.
-/
import Derived.Test.YtboddbheljenhaaGreatDoorG12
import Derived.Test.YtboddbheljenhaaGreatDoorG13
import Derived.Test.YtboddbheljenhaaGreatDoorBz
import Derived.Test.YtboddbheljenhaaGreatDoorG07
import Derived.Test.YtboddbheljenhaaGreatDoorG10
namespace Go.Proofs.YtboddbheljenhaaGreatDoor
open Go.RowKit
def zr : List Nat → Nat
  | [] => 0
  | x :: xs => if x = 0 then zr xs + 1 else 0
def lrs (xs : List Nat) : Nat → Nat × Nat
  | 0 => (0, 0)
  | i + 1 => if zr (xs.drop i) > (lrs xs i).2 then (i, zr (xs.drop i)) else lrs xs i
theorem zr_le : ∀ xs : List Nat, zr xs ≤ xs.length
  | [] => Nat.le_refl 0
  | x :: xs => by
    unfold zr
    split
    · have := zr_le xs; simp; omega
    · simp
theorem zr_drop {xs : List Nat} {s : Nat} (h : s < xs.length) : zr (xs.drop s) = if xs[s] = 0 then zr (xs.drop (s + 1)) + 1 else 0 := by
  rw [List.drop_eq_getElem_cons h]; rfl
theorem lrs_bd (xs : List Nat) (h8 : xs.length = 8) : ∀ i, i ≤ 8 → (lrs xs i).1 + (lrs xs i).2 ≤ 8 ∧ (lrs xs i).1 ≤ 8
  | 0, _ => ⟨by simp [lrs], by simp [lrs]⟩
  | i + 1, hi => by
    unfold lrs
    have := lrs_bd xs h8 i (by omega)
    have h2 := zr_le (xs.drop i)
    rw [List.length_drop, h8] at h2
    split
    · exact ⟨by simp; omega, by simp; omega⟩
    · exact this
set_option maxHeartbeats 16000000 in
set_option maxRecDepth 100000 in
theorem longest_spec (xs : List Nat) (h8 : xs.length = 8) : Spec Tryz.prog 90 [.agg (ints .u16 (nats xs))] [] (.tuple [.val (.int .i64 ((lrs xs 8).1 : Int)), .val (.int .i64 ((lrs xs 8).2 : Int))]) [] := by
  have hN : (nats xs).length = 8 := by simp [nats, h8]
  refine spec_of_awp Tryz.func90 rfl (Nat.le_of_ble_eq_true rfl) fun ini => ?_
  simp only [Tryz.ntmps90]
  (repeat (first | refine awp_reg_seq rfl fun k => ?_ | refine awp_seq ?_ | refine awp_block ?_ | (apply runk0 rfl rfl (opok_box_ro rfl ?_ ?_ ?_) ?_; rotate_left 2; (· (conv => (lhs; whnf))); (· rfl); (· (conv => (lhs; whnf)))) | (apply runk0 rfl rfl (opok_move rfl ?_) ?_; rotate_left 1; (· (conv => (lhs; whnf)))) | (apply runk0 rfl rfl (opok_assign rfl ?_) ?_; rotate_left 1; (· (conv => (lhs; whnf)))) | refine runk_end (by kernel_rfl) ?_))
  refine awp_loop (fun m st => ∃ i : Nat, i + m = 8 ∧ st.leB ⟨[(1, .rref (ints .u16 (nats xs))), (4, .val (.int .i64 ((lrs xs i).1 : Int))), (5, .val (.int .i64 ((lrs xs i).2 : Int))), (8, .val (.int .i64 (i : Int)))], []⟩) 8 ⟨0, by omega, ?_⟩ ?_
  · (refine leB_of ?_ ?_; (· (repeat (first | exact EnvIs.nil | (refine EnvIs.cons ?_ ?_; (· rfl))))); (· (repeat ((exact ObjsAre.nil)))))
  · rintro m st ⟨i, him, hle⟩
    refine awp_less hle ?_
    clear hle st
    have wi : IntKind.i64.wrap ((i : Int) + 1) = ((i + 1 : Nat) : Int) := by rw [IntKind.wrap_i64]; omega
    obtain ⟨j, hj⟩ : ∃ j, i + 1 = j := ⟨_, rfl⟩
    rw [hj] at wi
    (repeat (first | refine awp_reg_seq rfl fun k => ?_ | refine awp_seq ?_ | (apply runk0 rfl rfl (opok_bin rfl ?_ ?_ ?_) ?_; rotate_left 3; (· (conv => (lhs; whnf))); (· (conv => (lhs; whnf))); (· (intro w; go_simp; first | done | rfl))) | refine runk_end (by kernel_rfl) ?_))
    refine awp_if rfl (fun hc => ?_) (fun hc => ?_)
    · have hi : i < 8 := by simp at hc; omega
      clear hc
      (repeat (first | refine awp_reg_seq rfl fun k => ?_ | refine awp_seq ?_ | refine awp_skip (?_ : Awp _ _ _ _ _ _) | refine awp_block ?_ | (apply runk0 rfl rfl (opok_move rfl ?_) ?_; rotate_left 1; (· (conv => (lhs; whnf)))) | (apply runk0 rfl rfl (opok_assign rfl ?_) ?_; rotate_left 1; (· (conv => (lhs; whnf)))) | refine runk_end (by kernel_rfl) ?_))
      refine awp_loop (fun m st => ∃ n : Nat, i + n + m = 8 ∧ zr (xs.drop i) = n + zr (xs.drop (i + n)) ∧ st.leB ⟨[(1, .rref (ints .u16 (nats xs))), (4, .val (.int .i64 ((lrs xs i).1 : Int))), (5, .val (.int .i64 ((lrs xs i).2 : Int))), (6, .val (.int .i64 (i : Int))), (7, .val (.int .i64 (n : Int))), (8, .val (.int .i64 (i : Int)))], []⟩) (8 - i) ⟨0, by omega, by simp, ?_⟩ ?_
      · (refine leB_of ?_ ?_; (· (repeat (first | exact EnvIs.nil | (refine EnvIs.cons ?_ ?_; (· rfl))))); (· (repeat ((exact ObjsAre.nil)))))
      · rintro m' st ⟨n, hnm, hz, hle⟩
        refine awp_less hle ?_
        clear hle st
        obtain ⟨s, hs⟩ : ∃ s, i + n = s := ⟨_, rfl⟩
        rw [hs] at hz
        have ws : IntKind.i64.wrap ((i : Int) + (n : Int)) = (s : Int) := by rw [IntKind.wrap_i64]; omega
        have wn : IntKind.i64.wrap ((n : Int) + 1) = ((n + 1 : Nat) : Int) := by rw [IntKind.wrap_i64]; omega
        have fin : zr (xs.drop i) = n → decide ((n : Int) > ((lrs xs i).2 : Int)) = decide (n > (lrs xs i).2) := fun _ => by rw [decide_eq_decide]; omega
        by_cases hs8 : s < 8
        · have d1 : decide ((s : Int) < 8) = true := by simp; omega
          have hlt : s < xs.length := by omega
          obtain ⟨x, hx⟩ : ∃ x, xs[s] = x := ⟨_, rfl⟩
          have hLx : (List.drop s (ints .u16 (nats xs)))[0]? = some (.val (.int .u16 (x : Int))) := by
            rw [List.getElem?_drop, Nat.add_zero, ints_get]
            simp [nats, List.getElem?_eq_getElem hlt, hx]
          rw [zr_drop hlt, hx] at hz
          by_cases hx0 : x = 0
          · subst hx0
            rw [if_pos rfl] at hz
            obtain ⟨n', hn'⟩ : ∃ n', n + 1 = n' := ⟨_, rfl⟩
            rw [hn'] at wn
            (repeat (first | refine awp_reg_seq rfl fun k => ?_ | refine awp_reg rfl fun k => ?_ | refine awp_seq ?_ | refine awp_true rfl ?_ | refine awp_skip (?_ : Awp _ _ _ _ _ _) | refine awp_block ?_ | (((apply runk0 rfl rfl (opok_indexPR rfl ?_ ?_ ?_ ?_ ?_ ?_) ?_; rotate_left 6; (· (conv => (lhs; whnf))); (· (conv => (lhs; whnf))); (· (conv => (lhs; whnf; arg 1; whnf))); (· (unfold sizeIs; conv => (lhs; whnf; arg 1; whnf))); (· omega); (· omega)))) | (((apply runk0 rfl rfl (opok_loadR rfl ?_ ?_ ?_) ?_; rotate_left 2; (· (conv => (lhs; whnf))); (· rfl); (· (simp only [Int.toNat_natCast, Nat.mul_one, List.drop_drop]; assumption))))) | ((refine runk_ung rfl rfl rfl rfl ?_)) | (apply runk0 rfl rfl (opok_move rfl ?_) ?_; rotate_left 1; (· (conv => (lhs; whnf)))) | (apply runk0 rfl rfl (opok_assign rfl ?_) ?_; rotate_left 1; (· (conv => (lhs; whnf)))) | (apply runk0 rfl rfl (opok_bin rfl ?_ ?_ ?_) ?_; rotate_left 3; (· (conv => (lhs; whnf))); (· (conv => (lhs; whnf))); (· (intro w; go_simp; rfl))) | (apply runk0 rfl rfl (opok_pick rfl ?_ ?_) ?_; rotate_left 2; (· (conv => (lhs; whnf))); (· (exact pick_and))) | refine runk_end (by kernel_rfl) ?_))
            exact ⟨m' - 1, by omega, n', by omega, by rw [hz, show i + n' = s + 1 by omega]; omega, by (refine leB_of ?_ ?_; (· (repeat (first | exact EnvIs.nil | (refine EnvIs.cons ?_ ?_; (· rfl))))); (· (repeat ((exact ObjsAre.nil)))))⟩
          · have d2 : ((x : Int) == 0) = false := by simp; omega
            rw [if_neg hx0] at hz
            cases d3 : decide (n > (lrs xs i).2) with
            | true =>
              have d4 : decide ((n : Int) > ((lrs xs i).2 : Int)) = true := by rw [fin hz]; exact d3
              have hl : lrs xs j = (i, n) := by subst hj; rw [lrs, hz, Nat.add_zero, if_pos (by simpa using d3)]
              generalize lrs xs i = P at *
              (repeat (first | refine awp_reg_seq rfl fun k => ?_ | refine awp_reg rfl fun k => ?_ | refine awp_seq ?_ | refine awp_true rfl ?_ | refine awp_false rfl ?_ | refine awp_exit (?_ : Awp _ _ _ _ _ _) | (((apply runk0 rfl rfl (opok_indexPR rfl ?_ ?_ ?_ ?_ ?_ ?_) ?_; rotate_left 6; (· (conv => (lhs; whnf))); (· (conv => (lhs; whnf))); (· (conv => (lhs; whnf; arg 1; whnf))); (· (unfold sizeIs; conv => (lhs; whnf; arg 1; whnf))); (· omega); (· omega)))) | (((apply runk0 rfl rfl (opok_loadR rfl ?_ ?_ ?_) ?_; rotate_left 2; (· (conv => (lhs; whnf))); (· rfl); (· (simp only [Int.toNat_natCast, Nat.mul_one, List.drop_drop]; assumption))))) | ((refine runk_ung rfl rfl rfl rfl ?_)) | (apply runk0 rfl rfl (opok_move rfl ?_) ?_; rotate_left 1; (· (conv => (lhs; whnf)))) | (apply runk0 rfl rfl (opok_assign rfl ?_) ?_; rotate_left 1; (· (conv => (lhs; whnf)))) | (apply runk0 rfl rfl (opok_bin rfl ?_ ?_ ?_) ?_; rotate_left 3; (· (conv => (lhs; whnf))); (· (conv => (lhs; whnf))); (· (intro w; go_simp; rfl))) | (apply runk0 rfl rfl (opok_pick rfl ?_ ?_) ?_; rotate_left 2; (· (conv => (lhs; whnf))); (· (exact pick_and))) | refine runk_end (by kernel_rfl) ?_))
              exact ⟨m - 1, by omega, j, by omega, by rw [hl]; (refine leB_of ?_ ?_; (· (repeat (first | exact EnvIs.nil | (refine EnvIs.cons ?_ ?_; (· rfl))))); (· (repeat ((exact ObjsAre.nil)))))⟩
            | false =>
              have d4 : decide ((n : Int) > ((lrs xs i).2 : Int)) = false := by rw [fin hz]; exact d3
              have hl : lrs xs j = lrs xs i := by subst hj; rw [lrs, hz, Nat.add_zero, if_neg (by simpa using d3)]
              generalize lrs xs i = P at *
              (repeat (first | refine awp_reg_seq rfl fun k => ?_ | refine awp_reg rfl fun k => ?_ | refine awp_seq ?_ | refine awp_false rfl ?_ | refine awp_skip (?_ : Awp _ _ _ _ _ _) | refine awp_exit (?_ : Awp _ _ _ _ _ _) | (((apply runk0 rfl rfl (opok_indexPR rfl ?_ ?_ ?_ ?_ ?_ ?_) ?_; rotate_left 6; (· (conv => (lhs; whnf))); (· (conv => (lhs; whnf))); (· (conv => (lhs; whnf; arg 1; whnf))); (· (unfold sizeIs; conv => (lhs; whnf; arg 1; whnf))); (· omega); (· omega)))) | (((apply runk0 rfl rfl (opok_loadR rfl ?_ ?_ ?_) ?_; rotate_left 2; (· (conv => (lhs; whnf))); (· rfl); (· (simp only [Int.toNat_natCast, Nat.mul_one, List.drop_drop]; assumption))))) | ((refine runk_ung rfl rfl rfl rfl ?_)) | (apply runk0 rfl rfl (opok_move rfl ?_) ?_; rotate_left 1; (· (conv => (lhs; whnf)))) | (apply runk0 rfl rfl (opok_bin rfl ?_ ?_ ?_) ?_; rotate_left 3; (· (conv => (lhs; whnf))); (· (conv => (lhs; whnf))); (· (intro w; go_simp; rfl))) | (apply runk0 rfl rfl (opok_pick rfl ?_ ?_) ?_; rotate_left 2; (· (conv => (lhs; whnf))); (· (exact pick_and))) | refine runk_end (by kernel_rfl) ?_))
              exact ⟨m - 1, by omega, j, by omega, by rw [hl]; (refine leB_of ?_ ?_; (· (repeat (first | exact EnvIs.nil | (refine EnvIs.cons ?_ ?_; (· rfl))))); (· (repeat ((exact ObjsAre.nil)))))⟩
        · have d1 : decide ((s : Int) < 8) = false := by simp; omega
          have hz0 : zr (xs.drop s) = 0 := by rw [List.drop_eq_nil_of_le (by omega)]; rfl
          rw [hz0, Nat.add_zero] at hz
          cases d3 : decide (n > (lrs xs i).2) with
          | true =>
            have d4 : decide ((n : Int) > ((lrs xs i).2 : Int)) = true := by rw [fin hz]; exact d3
            have hl : lrs xs j = (i, n) := by subst hj; rw [lrs, hz, if_pos (by simpa using d3)]
            generalize lrs xs i = P at *
            (repeat (first | refine awp_reg_seq rfl fun k => ?_ | refine awp_reg rfl fun k => ?_ | refine awp_seq ?_ | refine awp_true rfl ?_ | refine awp_false rfl ?_ | refine awp_exit (?_ : Awp _ _ _ _ _ _) | ((refine runk_off rfl rfl rfl rfl rfl ?_)) | (apply runk0 rfl rfl (opok_move rfl ?_) ?_; rotate_left 1; (· (conv => (lhs; whnf)))) | (apply runk0 rfl rfl (opok_assign rfl ?_) ?_; rotate_left 1; (· (conv => (lhs; whnf)))) | (apply runk0 rfl rfl (opok_bin rfl ?_ ?_ ?_) ?_; rotate_left 3; (· (conv => (lhs; whnf))); (· (conv => (lhs; whnf))); (· (intro w; go_simp; rfl))) | (apply runk0 rfl rfl (opok_pick rfl ?_ ?_) ?_; rotate_left 2; (· (conv => (lhs; whnf))); (· ((conv => (lhs; whnf))))) | refine runk_end (by kernel_rfl) ?_))
            exact ⟨m - 1, by omega, j, by omega, by rw [hl]; (refine leB_of ?_ ?_; (· (repeat (first | exact EnvIs.nil | (refine EnvIs.cons ?_ ?_; (· rfl))))); (· (repeat ((exact ObjsAre.nil)))))⟩
          | false =>
            have d4 : decide ((n : Int) > ((lrs xs i).2 : Int)) = false := by rw [fin hz]; exact d3
            have hl : lrs xs j = lrs xs i := by subst hj; rw [lrs, hz, if_neg (by simpa using d3)]
            generalize lrs xs i = P at *
            (repeat (first | refine awp_reg_seq rfl fun k => ?_ | refine awp_reg rfl fun k => ?_ | refine awp_seq ?_ | refine awp_false rfl ?_ | refine awp_skip (?_ : Awp _ _ _ _ _ _) | refine awp_exit (?_ : Awp _ _ _ _ _ _) | ((refine runk_off rfl rfl rfl rfl rfl ?_)) | (apply runk0 rfl rfl (opok_move rfl ?_) ?_; rotate_left 1; (· (conv => (lhs; whnf)))) | (apply runk0 rfl rfl (opok_bin rfl ?_ ?_ ?_) ?_; rotate_left 3; (· (conv => (lhs; whnf))); (· (conv => (lhs; whnf))); (· (intro w; go_simp; rfl))) | (apply runk0 rfl rfl (opok_pick rfl ?_ ?_) ?_; rotate_left 2; (· (conv => (lhs; whnf))); (· ((conv => (lhs; whnf))))) | refine runk_end (by kernel_rfl) ?_))
            exact ⟨m - 1, by omega, j, by omega, by rw [hl]; (refine leB_of ?_ ?_; (· (repeat (first | exact EnvIs.nil | (refine EnvIs.cons ?_ ?_; (· rfl))))); (· (repeat ((exact ObjsAre.nil)))))⟩
    · have hi : i = 8 := by simp at hc; omega
      subst hi
      (repeat (first | refine awp_reg_seq rfl fun k => ?_ | refine awp_exit (?_ : Awp _ _ _ _ _ _) | (refine awp_ret ?_; (apply ends_pure ?_ ?_ ?_ ?_ ?_ (.inl rfl); rotate_left 1; (· (exact res_two rfl rfl rfl)); (· rfl); (· rfl); (· rfl); (· rfl))) | (apply runk0 rfl rfl (opok_move rfl ?_) ?_; rotate_left 1; (· (conv => (lhs; whnf)))) | (apply runk0 rfl rfl (opok_assign rfl ?_) ?_; rotate_left 1; (· (conv => (lhs; whnf)))) | refine runk_end (by kernel_rfl) ?_))
end Go.Proofs.YtboddbheljenhaaGreatDoor
namespace Go.Proofs.YtboddbheljenhaaGreatDoor
open Go.RowKit
section
variable {P : Program} {k : Nat} {st : St} {o : Oper}
theorem opok_arrRoE {t e : TypeId} {n : Nat} {x y : Operand} {kd : IntKind} {lo : Nat} {cs : List AVal} (ho : o.op = .slice t x (some y) none none) (hx : st.aop x = .rref cs) (hy : st.aop y = .val (.int kd lo)) (hu : P.underlying t = some (.array n e)) (hs : sizeIs P e 1) (hn : cs.length = n) (hf : (cs.drop lo).flatMap AVal.flat = cs.drop lo) (hh : lo ≤ n) : OpOk P k st o ⟨.ro (cs.drop lo), [], [], []⟩ := by
  by_cases hlt : lo < n
  · exact opok_arrRoF ho hx hy hu hs hn hf hlt
  · obtain rfl : lo = n := by omega
    rw [List.drop_eq_nil_of_le (by omega)]
    exact opok_quiet fun ψ prot obj w ρ _ hr _ => by
      have e1 := hx ▸ hr x (by simp [ho, Op.operands])
      have e2 := (hy ▸ hr y (by simp [ho, Op.operands]) : VRel ψ prot w (.val (.int kd lo)) (ρ y)).val_eq
      obtain ⟨vs, b, off, hpv, hpr, ⟨hl, hv⟩, hcc⟩ := e1.rref_inv
      refine ⟨.slice (some ⟨b, off, none⟩) 0 0, ?_, .roNil _ _ (fun h => by cases h)⟩
      simp [execOp, ho, hpv, e2, Instr.sliceAt, Instr.sliceBounds, Instr.sureAddr, run_underlying hu, run_sizeIs hs, go_sem, asIntOf]
theorem opok_arrRoEI {t e : TypeId} {n : Nat} {x y : Operand} {kd ke : IntKind} {lo : Nat} {zs : List Int} (ho : o.op = .slice t x (some y) none none) (hx : st.aop x = .rref (ints ke zs)) (hy : st.aop y = .val (.int kd lo)) (hu : P.underlying t = some (.array n e)) (hs : sizeIs P e 1) (hn : zs.length = n) (hh : lo ≤ n) : OpOk P k st o ⟨.ro (ints ke (zs.drop lo)), [], [], []⟩ := by
  have h := opok_arrRoE (k := k) ho hx hy hu hs (by rw [length_ints, hn]) (by rw [drop_ints, flat_ints]) hh
  rw [drop_ints] at h
  exact h
theorem opok_arrRoNI {t e : TypeId} {n : Nat} {x y : Operand} {kd ke : IntKind} {hi : Nat} {zs : List Int} (ho : o.op = .slice t x none (some y) none) (hx : st.aop x = .rref (ints ke zs)) (hy : st.aop y = .val (.int kd hi)) (hu : P.underlying t = some (.array n e)) (hs : sizeIs P e 1) (hn : zs.length = n) (hh : hi ≤ n) : OpOk P k st o ⟨.ro (ints ke (zs.take hi)), [], [], []⟩ := by
  have et : (ints ke zs).take hi = ints ke (zs.take hi) := by simp [ints, List.map_take]
  have h := opok_arrRoN (k := k) ho hx hy hu hs (by rw [length_ints, hn]) (by rw [et, flat_ints]) hh
  rw [et] at h
  exact h
end
theorem nats_take (xs : List Nat) (n : Nat) : (nats xs).take n = nats (xs.take n) := by simp [nats, List.map_take]
theorem nats_drop (xs : List Nat) (n : Nat) : (nats xs).drop n = nats (xs.drop n) := by simp [nats, List.map_drop]
def hexJ (xs : List Nat) : List UInt8 := Lib.join (xs.map hexL) [58]
theorem hexJ_len : ∀ xs : List Nat, (∀ x ∈ xs, x < 65536) → (hexJ xs).length ≤ 5 * xs.length
  | [], _ => by simp [hexJ, Lib.join_nil]
  | [x], h => by
    have := hexL_len 3 x (h x (by simp))
    simp [hexJ, Lib.join_one]; omega
  | x :: y :: r, h => by
    have h1 := hexL_len 3 x (h x (by simp))
    have h2 := hexJ_len (y :: r) (fun z hz => h z (List.mem_cons_of_mem _ hz))
    have e : hexJ (x :: y :: r) = hexL x ++ ([58] ++ hexJ (y :: r)) := by
      unfold hexJ
      rw [List.map_cons, Lib.join_cons, List.map_cons, Lib.join_cons]
      simp [Lib.joinTail]
    rw [e]
    simp at h2 ⊢
    omega
def p6 (xs : List Nat) : List UInt8 := if (lrs xs 8).2 < 2 then hexJ xs else hexJ (xs.take (lrs xs 8).1) ++ [58, 58] ++ hexJ (xs.drop ((lrs xs 8).1 + (lrs xs 8).2))
theorem pg_any (xs : List Nat) (hb : ∀ x ∈ xs, x < 65536) (hl : xs.length ≤ 8) : Spec Tryz.prog 91 [.ro (ints .u16 (nats xs))] [] (.val (bstr (hexJ xs))) [] :=
  pgrp_spec xs hb hl (by have := hexJ_len xs hb; unfold hexJ at this; omega)
set_option maxHeartbeats 16000000 in
set_option maxRecDepth 100000 in
theorem print6_spec (xs : List Nat) (h8 : xs.length = 8) (hb : ∀ x ∈ xs, x < 65536) : Spec Tryz.prog 70 [.agg (ints .u16 (nats xs))] [] (.val (bstr (p6 xs))) [] := by
  have l := longest_spec xs h8
  have hbd := lrs_bd xs h8 8 (Nat.le_refl _)
  have p0 := pg_any xs hb (by omega)
  have p1 := pg_any (xs.take (lrs xs 8).1) (fun x hx => hb x (List.mem_of_mem_take hx)) (by rw [List.length_take]; omega)
  have p2 := pg_any (xs.drop ((lrs xs 8).1 + (lrs xs 8).2)) (fun x hx => hb x (List.mem_of_mem_drop hx)) (by rw [List.length_drop]; omega)
  rw [← nats_take] at p1
  rw [← nats_drop] at p2
  have hJ1 := hexJ_len (xs.take (lrs xs 8).1) (fun x hx => hb x (List.mem_of_mem_take hx))
  have hJ2 := hexJ_len (xs.drop ((lrs xs 8).1 + (lrs xs 8).2)) (fun x hx => hb x (List.mem_of_mem_drop hx))
  rw [List.length_take] at hJ1
  rw [List.length_drop] at hJ2
  replace hJ1 : (hexJ (xs.take (lrs xs 8).1)).length ≤ 40 := by omega
  replace hJ2 : (hexJ (xs.drop ((lrs xs 8).1 + (lrs xs 8).2))).length ≤ 40 := by omega
  unfold p6
  generalize hexJ xs = J0 at *
  generalize hexJ (xs.take (lrs xs 8).1) = J1 at *
  generalize hexJ (xs.drop ((lrs xs 8).1 + (lrs xs 8).2)) = J2 at *
  generalize hF : (lrs xs 8).1 = F at *
  generalize hZ : (lrs xs 8).2 = Z at *
  generalize hT : F + Z = T at *
  have wT : IntKind.i64.wrap ((F : Int) + (Z : Int)) = (T : Int) := by rw [IntKind.wrap_i64]; omega
  have hT8 : T ≤ 8 := by omega
  have hF8 : F ≤ 8 := by omega
  obtain ⟨a0, a1, a2, a3, a4, a5, a6, a7, rfl⟩ : ∃ a0 a1 a2 a3 a4 a5 a6 a7, xs = [a0, a1, a2, a3, a4, a5, a6, a7] := by
    match xs, h8 with
    | [a0, a1, a2, a3, a4, a5, a6, a7], _ => exact ⟨a0, a1, a2, a3, a4, a5, a6, a7, rfl⟩
  clear hF hZ h8 hb
  refine spec_of_awp Tryz.func70 rfl (Nat.le_of_ble_eq_true rfl) fun ini => ?_
  simp only [Tryz.ntmps70]
  by_cases hz : Z < 2
  · have d1 : decide ((Z : Int) < 2) = true := by simp; omega
    rw [if_pos hz]
    (repeat (first | refine awp_reg_seq rfl fun k => ?_ | refine awp_seq ?_ | refine awp_true rfl ?_ | (refine awp_ret ?_; (apply ends_pure ?_ ?_ ?_ ?_ ?_ (.inl rfl); rotate_left 1; (· (exact res_one rfl rfl)); (· rfl); (· rfl); (· rfl); (· rfl))) | (apply runk_pure rfl rfl rfl ?_ ?_ ?_ ?_ ?_ ?_ ?_ ?_; rotate_left 6; (· (conv => (lhs; whnf))); (· exact Tryz.func90); (· rfl); (· rfl); (· exact (l)); (· (repeat (first | exact Rens.nil | (refine Rens.cons ?_ ?_; (· ((refine Ren.pureR ?_ rfl; (rfl)))))))); (· rfl)) | (apply runk_pure rfl rfl rfl ?_ ?_ ?_ ?_ ?_ ?_ ?_ ?_; rotate_left 6; (· (conv => (lhs; whnf))); (· exact Tryz.func91); (· rfl); (· rfl); (· exact (p0)); (· (repeat (first | exact Rens.nil | (refine Rens.cons ?_ ?_; (· ((refine Ren.pureR ?_ rfl; (rfl)))))))); (· rfl)) | (apply runk0 rfl rfl (opok_box_ro rfl ?_ ?_ ?_) ?_; rotate_left 2; (· (conv => (lhs; whnf))); (· rfl); (· (conv => (lhs; whnf)))) | (apply runk0 rfl rfl (opok_move rfl ?_) ?_; rotate_left 1; (· (conv => (lhs; whnf)))) | (apply runk0 rfl rfl (opok_assign rfl ?_) ?_; rotate_left 1; (· (conv => (lhs; whnf)))) | (apply runk0 rfl rfl (opok_bin rfl ?_ ?_ ?_) ?_; rotate_left 3; (· (conv => (lhs; whnf))); (· (conv => (lhs; whnf))); (· (intro w; go_simp; rfl))) | (apply runk0 rfl rfl (opok_extract rfl ?_ ?_) ?_; rotate_left 2; (· (conv => (lhs; whnf))); (· (conv => (lhs; whnf; arg 1; whnf)))) | refine runk_end (by kernel_rfl) ?_ | (apply runk0 rfl rfl (opok_loadRA2 rfl ?_ ?_ ?_ ?_) ?_; rotate_left 2; (· (conv => (lhs; whnf))); (· rfl); (· (unfold sizeIs; conv => (lhs; whnf; arg 1; whnf))); (· rfl)) | (apply runk0 rfl rfl (opok_arrRo rfl ?_ ?_ ?_ ?_ ?_) ?_; rotate_left 3; (· (conv => (lhs; whnf))); (· (conv => (lhs; whnf; arg 1; whnf))); (· (unfold sizeIs; conv => (lhs; whnf; arg 1; whnf))); (· rfl); (· rfl))))
  · have d1 : decide ((Z : Int) < 2) = false := by simp; omega
    rw [if_neg hz]
    (repeat (first | refine awp_reg_seq rfl fun k => ?_ | refine awp_seq ?_ | refine awp_false rfl ?_ | refine awp_skip (?_ : Awp _ _ _ _ _ _) | (refine awp_ret ?_; (apply ends_pure ?_ ?_ ?_ ?_ ?_ (.inl rfl); rotate_left 1; (· (exact res_one rfl rfl)); (· rfl); (· rfl); (· rfl); (· rfl))) | (apply runk_pure rfl rfl rfl ?_ ?_ ?_ ?_ ?_ ?_ ?_ ?_; rotate_left 6; (· (conv => (lhs; whnf))); (· exact Tryz.func90); (· rfl); (· rfl); (· exact (l)); (· (repeat (first | exact Rens.nil | (refine Rens.cons ?_ ?_; (· ((refine Ren.pureR ?_ rfl; (rfl)))))))); (· rfl)) | (apply runk_pure rfl rfl rfl ?_ ?_ ?_ ?_ ?_ ?_ ?_ ?_; rotate_left 6; (· (conv => (lhs; whnf))); (· exact Tryz.func91); (· rfl); (· rfl); (· exact (p1)); (· (repeat (first | exact Rens.nil | (refine Rens.cons ?_ ?_; (· ((refine Ren.pureR ?_ rfl; (((simp [AVal.pure, AVal.pures, AObj.pure]; done)))))))))); (· rfl)) | (apply runk_pure rfl rfl rfl ?_ ?_ ?_ ?_ ?_ ?_ ?_ ?_; rotate_left 6; (· (conv => (lhs; whnf))); (· exact Tryz.func91); (· rfl); (· rfl); (· exact (p2)); (· (repeat (first | exact Rens.nil | (refine Rens.cons ?_ ?_; (· ((refine Ren.pureR ?_ rfl; (((simp [AVal.pure, AVal.pures, AObj.pure]; done)))))))))); (· rfl)) | (((apply runk0 rfl rfl (opok_arrRoEI (ke := .u16) (lo := T) (zs := nats [a0, a1, a2, a3, a4, a5, a6, a7]) rfl ?_ ?_ ?_ ?_ ?_ ?_) ?_; rotate_left 3; (· rfl); (· rfl); (· (conv => (lhs; whnf; arg 1; whnf))); (· (unfold sizeIs; conv => (lhs; whnf; arg 1; whnf))); (· rfl); (· assumption)))) | (((apply runk0 rfl rfl (opok_arrRoNI (ke := .u16) (hi := F) (zs := nats [a0, a1, a2, a3, a4, a5, a6, a7]) rfl ?_ ?_ ?_ ?_ ?_ ?_) ?_; rotate_left 3; (· rfl); (· rfl); (· (conv => (lhs; whnf; arg 1; whnf))); (· (unfold sizeIs; conv => (lhs; whnf; arg 1; whnf))); (· rfl); (· assumption)))) | (((((apply runk0 rfl rfl (opok_scat rfl ?_ ?_ ?_) ?_; rotate_left 2; (· ((conv => (lhs; whnf)); try exact rfl)); (· ((conv => (lhs; whnf)); try exact rfl)); (· ((simp; omega)))))))) | (apply runk0 rfl rfl (opok_box_ro rfl ?_ ?_ ?_) ?_; rotate_left 2; (· (conv => (lhs; whnf))); (· rfl); (· (conv => (lhs; whnf)))) | (apply runk0 rfl rfl (opok_move rfl ?_) ?_; rotate_left 1; (· (conv => (lhs; whnf)))) | (apply runk0 rfl rfl (opok_assign rfl ?_) ?_; rotate_left 1; (· (conv => (lhs; whnf)))) | (apply runk0 rfl rfl (opok_bin rfl ?_ ?_ ?_) ?_; rotate_left 3; (· (conv => (lhs; whnf))); (· (conv => (lhs; whnf))); (· (intro w; go_simp; rfl))) | (apply runk0 rfl rfl (opok_extract rfl ?_ ?_) ?_; rotate_left 2; (· (conv => (lhs; whnf))); (· (conv => (lhs; whnf; arg 1; whnf)))) | refine runk_end (by kernel_rfl) ?_ | (apply runk0 rfl rfl (opok_loadRA2 rfl ?_ ?_ ?_ ?_) ?_; rotate_left 2; (· (conv => (lhs; whnf))); (· rfl); (· (unfold sizeIs; conv => (lhs; whnf; arg 1; whnf))); (· rfl))))
def prA (v : Bool) (hi lo : Int) : List UInt8 := if v = true then p6 (grps hi.toNat lo.toNat) else quad lo.toNat
theorem grps_len (hi lo : Nat) : (grps hi lo).length = 8 := rfl
theorem grps_lt (hi lo : Nat) : ∀ x ∈ grps hi lo, x < 65536 := fun x hx => by
  simp only [grps, List.mem_cons, List.not_mem_nil, or_false] at hx
  omega
set_option maxHeartbeats 16000000 in
set_option maxRecDepth 100000 in
theorem print_spec {v : Bool} {hi lo : Int} (h : AOk v hi lo) : Spec Tryz.prog 54 [.agg [.val (.bool v), .val (.int .u64 hi), .val (.int .u64 lo)]] [] (.val (bstr (prA v hi lo))) [] := by
  obtain ⟨h0, h1, h2, h3, h4⟩ := h
  unfold prA
  cases v with
  | true =>
    rw [if_pos rfl]
    obtain ⟨H, rfl⟩ := Int.eq_ofNat_of_zero_le h0
    obtain ⟨L, rfl⟩ := Int.eq_ofNat_of_zero_le h2
    have va := valid_v6 (H : Int) (L : Int)
    have s := split_addr true H L
    have p := print6_spec (grps H L) (grps_len H L) (grps_lt H L)
    rw [Int.toNat_natCast, Int.toNat_natCast]
    generalize p6 (grps H L) = T at *
    generalize nats (grps H L) = G at *
    refine spec_of_awp Tryz.func54 rfl (Nat.le_of_ble_eq_true rfl) fun ini => ?_
    simp only [Tryz.ntmps54]
    (repeat (first | refine awp_reg_seq rfl fun k => ?_ | refine awp_seq ?_ | refine awp_false rfl ?_ | refine awp_skip (?_ : Awp _ _ _ _ _ _) | (refine awp_ret ?_; (apply ends_pure ?_ ?_ ?_ ?_ ?_ (.inl rfl); rotate_left 1; (· (exact res_one rfl rfl)); (· rfl); (· rfl); (· rfl); (· rfl))) | (apply runk_pure rfl rfl rfl ?_ ?_ ?_ ?_ ?_ ?_ ?_ ?_; rotate_left 6; (· (conv => (lhs; whnf))); (· exact Tryz.func41); (· rfl); (· rfl); (· exact (va)); (· (repeat (first | exact Rens.nil | (refine Rens.cons ?_ ?_; (· ((refine Ren.pureR ?_ rfl; (rfl)))))))); (· rfl)) | (apply runk_pure rfl rfl rfl ?_ ?_ ?_ ?_ ?_ ?_ ?_ ?_; rotate_left 6; (· (conv => (lhs; whnf))); (· exact Tryz.func71); (· rfl); (· rfl); (· exact (s)); (· (repeat (first | exact Rens.nil | (refine Rens.cons ?_ ?_; (· ((refine Ren.pureR ?_ rfl; (rfl)))))))); (· (simp [AVal.pure, AVal.pures, AObj.pure]))) | (apply runk_pure rfl rfl rfl ?_ ?_ ?_ ?_ ?_ ?_ ?_ ?_; rotate_left 6; (· (conv => (lhs; whnf))); (· exact Tryz.func70); (· rfl); (· rfl); (· exact (p)); (· (repeat (first | exact Rens.nil | (refine Rens.cons ?_ ?_; (· ((refine Ren.pureR ?_ rfl; (((simp [AVal.pure, AVal.pures, AObj.pure]; done)))))))))); (· rfl)) | (apply runk0 rfl rfl (opok_assign rfl ?_) ?_; rotate_left 1; (· (conv => (lhs; whnf)))) | (apply runk_fa rfl rfl rfl ?_ rfl rfl ?_ ?_ ?_ ?_; rotate_left 5; (· (conv => (lhs; whnf))); (· (unfold sizeIs; conv => (lhs; whnf; arg 1; whnf))); (· rfl); (· (conv => (lhs; whnf)))) | (((apply runk0 rfl rfl (opok_load rfl ?_ ?_ ?_ ?_) ?_; rotate_left 5; (· (conv => (lhs; whnf))); (· (conv => (lhs; whnf; arg 1; whnf; arg 2; whnf))); (· rfl); (· (conv => (lhs; whnf; arg 1; whnf)))))) | (apply runk0 rfl rfl (opok_loadA rfl ?_ ?_ ?_ ?_ ?_ ?_) ?_; rotate_left 6; (· (conv => (lhs; whnf))); (· (conv => (lhs; whnf; arg 1; whnf; arg 2; whnf))); (· rfl); (· (unfold sizeIs; conv => (lhs; whnf; arg 1; whnf))); (· (conv => (lhs; repeat (whnf; arg 2)))); (· rfl)) | (apply runk0 rfl rfl (opok_un rfl ?_ ?_) ?_; rotate_left 2; (· (conv => (lhs; whnf))); (· (intro w; go_simp; rfl))) | (apply runk_box rfl rfl rfl ?_ ?_ ?_ ?_; rotate_left 2; (· (conv => (lhs; whnf))); (· rfl); (· (conv => (lhs; whnf)))) | refine runk_end (by kernel_rfl) ?_))
  | false =>
    rw [if_neg (by decide)]
    obtain ⟨rfl, hl⟩ := h4 rfl
    obtain ⟨L, rfl⟩ := Int.eq_ofNat_of_zero_le h2
    have va := valid_v4 0 (L : Int)
    rw [show (decide ((0 : Int) = 0) && decide ((L : Int) ≤ 4294967295)) = true by simp; omega] at va
    have p := print4_spec L (by omega)
    rw [Int.toNat_natCast]
    generalize quad L = T at *
    refine spec_of_awp Tryz.func54 rfl (Nat.le_of_ble_eq_true rfl) fun ini => ?_
    simp only [Tryz.ntmps54]
    (repeat (first | refine awp_reg_seq rfl fun k => ?_ | refine awp_seq ?_ | refine awp_true rfl ?_ | refine awp_false rfl ?_ | refine awp_skip (?_ : Awp _ _ _ _ _ _) | (refine awp_ret ?_; (apply ends_pure ?_ ?_ ?_ ?_ ?_ (.inl rfl); rotate_left 1; (· (exact res_one rfl rfl)); (· rfl); (· rfl); (· rfl); (· rfl))) | (apply runk_pure rfl rfl rfl ?_ ?_ ?_ ?_ ?_ ?_ ?_ ?_; rotate_left 6; (· (conv => (lhs; whnf))); (· exact Tryz.func41); (· rfl); (· rfl); (· exact (va)); (· (repeat (first | exact Rens.nil | (refine Rens.cons ?_ ?_; (· ((refine Ren.pureR ?_ rfl; (rfl)))))))); (· rfl)) | (apply runk_pure rfl rfl rfl ?_ ?_ ?_ ?_ ?_ ?_ ?_ ?_; rotate_left 6; (· (conv => (lhs; whnf))); (· exact Tryz.func69); (· rfl); (· rfl); (· exact (p)); (· (repeat (first | exact Rens.nil | (refine Rens.cons ?_ ?_; (· ((refine Ren.pureR ?_ rfl; (rfl)))))))); (· rfl)) | (apply runk0 rfl rfl (opok_assign rfl ?_) ?_; rotate_left 1; (· (conv => (lhs; whnf)))) | (apply runk_fa rfl rfl rfl ?_ rfl rfl ?_ ?_ ?_ ?_; rotate_left 5; (· (conv => (lhs; whnf))); (· (unfold sizeIs; conv => (lhs; whnf; arg 1; whnf))); (· rfl); (· (conv => (lhs; whnf)))) | (((apply runk0 rfl rfl (opok_load rfl ?_ ?_ ?_ ?_) ?_; rotate_left 5; (· (conv => (lhs; whnf))); (· (conv => (lhs; whnf; arg 1; whnf; arg 2; whnf))); (· rfl); (· (conv => (lhs; whnf; arg 1; whnf)))))) | (apply runk0 rfl rfl (opok_loadA rfl ?_ ?_ ?_ ?_ ?_ ?_) ?_; rotate_left 6; (· (conv => (lhs; whnf))); (· (conv => (lhs; whnf; arg 1; whnf; arg 2; whnf))); (· rfl); (· (unfold sizeIs; conv => (lhs; whnf; arg 1; whnf))); (· (conv => (lhs; repeat (whnf; arg 2)))); (· rfl)) | (apply runk0 rfl rfl (opok_un rfl ?_ ?_) ?_; rotate_left 2; (· (conv => (lhs; whnf))); (· (intro w; go_simp; rfl))) | (apply runk_box rfl rfl rfl ?_ ?_ ?_ ?_; rotate_left 2; (· (conv => (lhs; whnf))); (· rfl); (· (conv => (lhs; whnf)))) | refine runk_end (by kernel_rfl) ?_))
end Go.Proofs.YtboddbheljenhaaGreatDoor
