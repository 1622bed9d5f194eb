/-
  Layer 2: the longest prefix that covers two. No walk.
-/
import Derived.Test.YtboddbheljenhaaGreatDoorG14
import Derived.Test.YtboddbheljenhaaGreatDoorG11
import Derived.Test.YtboddbheljenhaaGreatDoorG13
namespace Go.Proofs.YtboddbheljenhaaGreatDoor
open Go.RowKit
def comN (v : Bool) (hi lo : Int) (N : Nat) (hi' lo' : Int) (N' : Nat) : Nat := min (min N N') (agN v hi lo hi' lo')
section
variable {v : Bool} {hi lo hi' lo' : Int} {N N' n : Nat}
theorem com_ok (p : POk v hi lo N) (hn : n ≤ N) : POk v (fstH v hi n) (fstL v lo n) n :=
  ⟨aok_first _ p.a, Nat.le_trans hn p.n, fstH_idem _ _ _, fstL_idem _ _ _⟩
theorem com_in (p : POk v hi lo N) (hn : n ≤ N) : inQ v (fstH v hi n) (fstL v lo n) n v hi lo = true :=
  (inQ_iff (com_ok p hn) _ _ _).2 ⟨rfl, rfl, rfl⟩
theorem com_in' (p : POk v hi lo N) (q : POk v hi' lo' N') (hn : n ≤ N) (ha : n ≤ agN v hi lo hi' lo') : inQ v (fstH v hi n) (fstL v lo n) n v hi' lo' = true := by
  obtain ⟨e1, e2⟩ := (ag_iff p.a q.a (Nat.le_trans hn p.n)).1 ha
  exact (inQ_iff (com_ok p hn) _ _ _).2 ⟨rfl, e1.symm, e2.symm⟩
/-- No longer prefix covers both. -/
theorem com_most (p : POk v hi lo N) (q : POk v hi' lo' N') (hn : n = comN v hi lo N hi' lo' N') {y1 y2 : Int} (y : POk v y1 y2 (n + 1)) (h1 : (decide (n + 1 ≤ N) && inQ v y1 y2 ((n + 1 : Nat) : Int) v hi lo) = true) (h2 : (decide (n + 1 ≤ N') && inQ v y1 y2 ((n + 1 : Nat) : Int) v hi' lo') = true) : False := by
  rw [Bool.and_eq_true, decide_eq_true_iff, inQ_iff y] at h1 h2
  obtain ⟨a1, -, a2, a3⟩ := h1
  obtain ⟨b1, -, b2, b3⟩ := h2
  have := (ag_iff p.a q.a y.n).2 ⟨by rw [a2, b2], by rw [a3, b3]⟩
  unfold comN at hn
  omega
theorem com_eq (p : POk v hi lo N) (q : POk v hi' lo' N') (hn : n = comN v hi lo N hi' lo' N') : eqP v (fstH v hi n) (fstL v lo n) n v hi lo N = (decide (N ≤ N') && inQ v hi lo N v hi' lo') := by
  have i := inQ_iff p v hi' lo'
  have g := ag_iff p.a q.a p.n
  rw [p.h, p.l] at g
  unfold comN at hn
  rw [Bool.eq_iff_iff, Bool.and_eq_true, decide_eq_true_iff, i]
  unfold eqP eqQ
  simp only [beq_self_eq_true, Bool.true_and, Bool.and_eq_true, beq_iff_eq, true_and]
  constructor
  · rintro ⟨-, h⟩
    have : n = N := by omega
    obtain ⟨e1, e2⟩ := g.1 (by omega)
    exact ⟨by omega, e1.symm, e2.symm⟩
  · rintro ⟨h1, h2, h3⟩
    have : N ≤ agN v hi lo hi' lo' := g.2 ⟨h2.symm, h3.symm⟩
    have e : n = N := by omega
    rw [e]
    exact ⟨⟨p.h, p.l⟩, rfl⟩
theorem com_eq' (p : POk v hi lo N) (q : POk v hi' lo' N') (hn : n = comN v hi lo N hi' lo' N') : eqP v (fstH v hi n) (fstL v lo n) n v hi' lo' N' = (decide (N' ≤ N) && inQ v hi' lo' N' v hi lo) := by
  have i := inQ_iff q v hi lo
  have g := ag_iff p.a q.a q.n
  rw [q.h, q.l] at g
  unfold comN at hn
  rw [Bool.eq_iff_iff, Bool.and_eq_true, decide_eq_true_iff, i]
  unfold eqP eqQ
  simp only [beq_self_eq_true, Bool.true_and, Bool.and_eq_true, beq_iff_eq, true_and]
  constructor
  · rintro ⟨-, h⟩
    have : n = N' := by omega
    obtain ⟨e1, e2⟩ := g.1 (by omega)
    exact ⟨by omega, e1, e2⟩
  · rintro ⟨h1, h2, h3⟩
    have : N' ≤ agN v hi lo hi' lo' := g.2 ⟨h2, h3⟩
    have e : n = N' := by omega
    rw [e]
    exact ⟨⟨h2, h3⟩, rfl⟩
/-- The order of the common prefix and one of the two. -/
theorem com_cmp (p : POk v hi lo N) (hn : n ≤ N) (he : eqP v (fstH v hi n) (fstL v lo n) n v hi lo N = false) : orZ (cmpA v (fstH v hi n) (fstL v lo n) v hi lo) (cmpZ (n : Int) (N : Int)) = -1 := by
  have c := com_ok p hn
  have f := fst_nA p.a (Nat.le_trans hn p.n)
  have hp := two_pos (wiN v - n)
  have hm := Int.emod_nonneg (nA hi lo) (show (2 : Int) ^ (wiN v - n) ≠ 0 by omega)
  rcases cmpA_key c.a p.a with ⟨e, o⟩ | ⟨e, o⟩ | ⟨e, o⟩
  · rw [e]; rfl
  · rw [e]
    obtain ⟨e1, e2⟩ := nA_eq c.a p.a ((nA_key _ _ _ _ _).2.1 o)
    have hlt : n < N := by
      rcases Nat.lt_or_ge n N with h | h
      · exact h
      · exfalso
        have e3 : n = N := by omega
        rw [e1, e2, e3] at he
        simp [eqP, eqQ] at he
    have : cmpZ (n : Int) (N : Int) = -1 := by
      unfold cmpZ
      rw [decide_eq_true (by omega)]
      rfl
    rw [this]
    rfl
  · exfalso
    have := (nA_key v hi lo (fstH v hi n) (fstL v lo n)).1.1 o
    omega
end
end Go.Proofs.YtboddbheljenhaaGreatDoor
namespace Go.Proofs.YtboddbheljenhaaGreatDoor
open Go.RowKit
theorem rvalid_ok {v : Bool} {hi lo : Int} (ao : AOk v hi lo) : Spec Tryz.prog 44 [.agg [.val (.bool v), .val (.int .u64 hi), .val (.int .u64 lo)]] [] (.val (.bool true)) [] := by
  cases v with
  | true => exact rvalid_v6 hi lo
  | false =>
    have r := rvalid_v4 hi lo
    have e := okA_of ao
    unfold okA' at e
    rw [Bool.false_or] at e
    rw [e] at r
    exact r
set_option maxHeartbeats 4000000 in
set_option maxRecDepth 100000 in
theorem rwidth_spec (v : Bool) (hi lo : Int) : Spec Tryz.prog 45 [.agg [.val (.bool v), .val (.int .u64 hi), .val (.int .u64 lo)]] [] (.val (.int .i64 (wiN v : Int))) [] := by
  cases v <;>
  · refine spec_of_awp Tryz.func45 rfl (Nat.le_of_ble_eq_true rfl) fun ini => ?_
    simp only [Tryz.ntmps45]
    (repeat (first | refine awp_reg_seq rfl fun k => ?_ | refine awp_seq ?_ | refine awp_true rfl ?_ | refine awp_false rfl ?_ | refine awp_isF rfl (by assumption) ?_ | refine awp_skip (?_ : Awp _ _ _ _ _ _) | (refine awp_ret ?_; (apply ends_pure ?_ ?_ ?_ ?_ ?_ (.inl rfl); rotate_left 1; (· first | exact res_one rfl rfl | exact res_two rfl rfl rfl | exact res_none rfl | exact res_three rfl rfl rfl rfl | exact res_cell rfl rfl rfl rfl rfl | exact res_cell2 rfl rfl rfl rfl rfl rfl | exact res3 rfl (rv_cell rfl rfl rfl rfl) (rv_tmp rfl) (rv_tmp rfl) | exact res3 rfl (rv_cell rfl rfl rfl rfl) (rv_cell rfl rfl rfl rfl) (rv_cell rfl rfl rfl rfl)); (· first | rfl | ((conv => (lhs; whnf)); first | rfl | (simp; done))); (· first | rfl | (simp; done) | (simp [AVal.pure, AVal.pures, AObj.pure]; done)); (· rfl); (· rfl))) | (apply runk0 rfl rfl (opok_assign rfl ?_) ?_; rotate_left 1; (· (conv => (lhs; whnf)))) | (apply runk_fa rfl rfl rfl ?_ rfl rfl ?_ ?_ ?_ ?_; rotate_left 5; (· (conv => (lhs; whnf))); (· (unfold sizeIs; conv => (lhs; whnf; arg 1; whnf))); (· rfl); (· (conv => (lhs; whnf)))) | (first | (apply runk0 rfl rfl (opok_load rfl ?_ ?_ ?_ ?_) ?_; rotate_left 5; (· (conv => (lhs; whnf))); (· (conv => (lhs; whnf; arg 1; whnf; arg 2; whnf))); (· rfl); (· (conv => (lhs; whnf; arg 1; whnf)))) | (apply runk0 rfl rfl (opok_loadR rfl ?_ ?_ ?_) ?_; rotate_left 2; (· (conv => (lhs; whnf))); (· rfl); (· (conv => (lhs; whnf; arg 1; whnf))))) | (apply runk_box rfl rfl rfl ?_ ?_ ?_ ?_; rotate_left 2; (· (conv => (lhs; whnf))); (· rfl); (· (conv => (lhs; whnf)))) | refine runk_end (by kernel_rfl) ?_))
theorem nA_nat {v : Bool} {hi lo : Int} (ao : AOk v hi lo) : ∃ Y : Nat, (Y : Int) = nA hi lo := by
  obtain ⟨h0, h1, g0, g1, h4⟩ := ao
  unfold nA
  exact ⟨(hi * 18446744073709551616 + lo).toNat, by omega⟩
theorem from_lend {m : Nat} {Y : Nat} {v : Bool} {hi lo : Int} (h : fromZ (beB m Y) = (v, hi, lo)) (he : fromE (beB m Y) = 0) : Spec Tryz.prog 47 [.own 0 0 m] [(0, some (0, .row 5 1 (ints .u8 (beB m Y))))] (.tuple [.agg [.val (.bool v), .val (.int .u64 hi), .val (.int .u64 lo)], .val (.int .i64 0)]) [(0, some (0, .row 5 1 (ints .u8 (beB m Y))))] := by
  have rf := rfrom_spec (beB m Y) (bytes_beB _ _)
  rw [h, he] at rf
  dsimp only at rf
  have key : ∀ len, len = (ints .u8 (beB m Y)).length → Spec Tryz.prog 47 [.own 0 0 len] [(0, some (0, .row 5 1 (ints .u8 (beB m Y))))] (.tuple [.agg [.val (.bool v), .val (.int .u64 hi), .val (.int .u64 lo)], .val (.int .i64 0)]) [(0, some (0, .row 5 1 (ints .u8 (beB m Y))))] := by
    rintro len rfl
    refine spec_lendT (args := [.ro (ints .u8 (beB m Y))]) (timeless_tuple fun x hx => ?_) rfl (fun i y hi => ?_) rf
    · simp only [List.mem_cons, List.not_mem_nil, or_false] at hx
      rcases hx with rfl | rfl
      · exact timeless_agg fun y hy => by
          simp only [List.mem_cons, List.not_mem_nil, or_false] at hy
          rcases hy with rfl | rfl | rfl <;> exact timeless_val _
      · exact timeless_val _
    · match i, hi with
      | 0, hi => cases hi; exact ⟨_, rfl, .one (.own _ rfl)⟩
  exact key m (by rw [length_ints, beB_length])
/-- An address as bytes of one number, and back. -/
theorem addr_by {v : Bool} {hi lo : Int} (ao : AOk v hi lo) : ∃ m X : Nat, 0 < m ∧ m ≤ 16 ∧ wiN v = 8 * m ∧ X < 2 ^ (8 * m) ∧ (X : Int) = nA hi lo ∧
    Spec Tryz.prog 46 [.agg [.val (.bool v), .val (.int .u64 hi), .val (.int .u64 lo)]] [] (.own 1000 0 m) [(1000, some (0, .row 5 1 (ints .u8 (beB m X))))] ∧
    ∀ (Y : Nat) (h' l' : Int), AOk v h' l' → (Y : Int) = nA h' l' → Spec Tryz.prog 47 [.own 0 0 m] [(0, some (0, .row 5 1 (ints .u8 (beB m Y))))] (.tuple [.agg [.val (.bool v), .val (.int .u64 h'), .val (.int .u64 l')], .val (.int .i64 0)]) [(0, some (0, .row 5 1 (ints .u8 (beB m Y))))] := by
  obtain ⟨h0, h1, g0, g1, h4⟩ := ao
  obtain ⟨H, rfl⟩ := Int.eq_ofNat_of_zero_le h0
  obtain ⟨L, rfl⟩ := Int.eq_ofNat_of_zero_le g0
  have e16 : (2 : Nat) ^ (8 * 16) = 18446744073709551616 * 18446744073709551616 := by decide
  have e4 : (2 : Nat) ^ (8 * 4) = 4294967296 := by decide
  cases v with
  | true =>
    refine ⟨16, H * 18446744073709551616 + L, by decide, by decide, rfl, by omega, by unfold nA; omega, ?_, fun Y h' l' ao' hY => ?_⟩
    · have b := rbytes_v6 (H : Int) (L : Int)
      rw [a16_beB H L (by omega)] at b
      exact b
    · obtain ⟨a0, a1, a2, a3, -⟩ := ao'
      unfold nA at hY
      have f := from_beB16 Y (by omega)
      refine from_lend ?_ f.2
      rw [f.1]
      congr 2
      · omega
      · omega
  | false =>
    obtain ⟨hz, hl⟩ := h4 rfl
    obtain rfl : H = 0 := by omega
    refine ⟨4, L, by decide, by decide, rfl, by omega, by unfold nA; omega, ?_, fun Y h' l' ao' hY => ?_⟩
    · have b := rbytes_v4 (L : Int) (by omega)
      rw [by4_beB] at b
      exact b
    · obtain ⟨rfl, a5⟩ := ao'.four rfl
      have a2 := ao'.lo0
      unfold nA at hY
      have f := from_beB4 Y (by omega)
      refine from_lend ?_ f.2
      rw [f.1]
      congr 2
      omega
/-- A bit of an address, by its one number. -/
theorem bit_nA {v : Bool} {hi lo : Int} (ao : AOk v hi lo) {i : Nat} (h : i < wiN v) : bitA v hi lo i = nA hi lo / 2 ^ (wiN v - 1 - i) % 2 := by
  obtain ⟨h0, h1, g0, g1, h4⟩ := ao
  have e64 : (2 : Int) ^ 64 = 18446744073709551616 := by decide
  unfold bitA bitZ nA
  cases v with
  | true =>
    have h' : i < 128 := h
    rw [if_pos rfl, show wiN true - 1 - i = 127 - i from rfl]
    by_cases c : i < 64
    · rw [if_pos c, show 127 - i = 64 + (63 - i) by omega, Int.pow_add, e64]
      rw [← Int.ediv_ediv_of_nonneg (by decide)]
      congr 2
      omega
    · rw [if_neg c]
      have hp := two_pos (127 - i)
      have e : (18446744073709551616 : Int) = 2 ^ (127 - i) * (2 * 2 ^ (i - 64)) := by
        rw [← e64, ← Int.mul_assoc, Int.mul_comm _ 2, Int.mul_assoc, ← Int.pow_add, show (2 : Int) * 2 ^ (127 - i + (i - 64)) = 2 ^ (127 - i + (i - 64) + 1) by rw [Int.pow_succ, Int.mul_comm]]
        congr 1
        omega
      have e2 : hi * 18446744073709551616 + lo = lo + 2 ^ (127 - i) * (2 * 2 ^ (i - 64) * hi) := by
        rw [e]
        generalize (2 : Int) ^ (127 - i) = a
        generalize (2 : Int) * 2 ^ (i - 64) = b
        rw [Int.mul_comm hi, Int.mul_assoc, Int.add_comm]
      rw [e2, Int.add_mul_ediv_left _ _ (by omega), Int.mul_assoc, Int.add_mul_emod_self_left]
  | false =>
    obtain ⟨rfl, -⟩ := h4 rfl
    rw [if_neg (by decide), show wiN false - 1 - i = 31 - i from rfl]
    simp
end Go.Proofs.YtboddbheljenhaaGreatDoor
