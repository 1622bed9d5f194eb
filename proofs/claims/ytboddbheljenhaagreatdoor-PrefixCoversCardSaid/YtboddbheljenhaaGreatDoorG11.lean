/-
  Layer 2: the bytes of an address as one number, and back. No walk.
-/
import Derived.Test.YtboddbheljenhaaGreatDoorG10
import Derived.Test.YtboddbheljenhaaGreatDoorBz
import Derived.Test.YtboddbheljenhaaGreatDoorG08
import Derived.Test.YtboddbheljenhaaGreatDoorG07
namespace Go.Proofs.YtboddbheljenhaaGreatDoor
open Go.RowKit
theorem by4_beB (x : Nat) : by4 (x : Int) 0 = beB 4 x := by
  simp [by4, beB, List.range, List.range.loop]
theorem a16_beB (h l : Nat) (hl : l < 18446744073709551616) : a16 (h : Int) (l : Int) = beB 16 (h * 18446744073709551616 + l) := by
  simp [a16, by8, beB, List.range, List.range.loop]
  omega
theorem from_beB4 (y : Nat) (h : y < 4294967296) : fromZ (beB 4 y) = (false, 0, (y : Int)) ∧ fromE (beB 4 y) = 0 := by
  refine ⟨?_, by unfold fromE; rw [beB_length]; rfl⟩
  unfold fromZ
  rw [beB_length, if_pos rfl]
  congr 2
  simp [beB, numZ, List.range, List.range.loop]
  omega
theorem from_beB16 (y : Nat) (h : y < 340282366920938463463374607431768211456) : fromZ (beB 16 y) = (true, ((y / 18446744073709551616 : Nat) : Int), ((y % 18446744073709551616 : Nat) : Int)) ∧ fromE (beB 16 y) = 0 := by
  refine ⟨?_, by unfold fromE; rw [beB_length]; rfl⟩
  unfold fromZ
  rw [beB_length, if_neg (by decide), if_pos rfl]
  congr 1
  congr 1
  · simp [beB, numZ, List.range, List.range.loop]
    omega
  · simp [beB, numZ, List.range, List.range.loop]
    omega
theorem bytes_beB (m y : Nat) : Bytes (beB m y) := fun z hz => by
  obtain ⟨j, _, rfl⟩ := List.mem_map.1 hz
  omega
/-- The first address of a prefix, by its one number. -/
theorem cut_six (h l N : Nat) (hl : l < 18446744073709551616) (hN : N ≤ 128) : (((h * 18446744073709551616 + l - (h * 18446744073709551616 + l) % 2 ^ (128 - N)) / 18446744073709551616 : Nat) : Int) = cutZ (h : Int) (khN true N) ∧ (((h * 18446744073709551616 + l - (h * 18446744073709551616 + l) % 2 ^ (128 - N)) % 18446744073709551616 : Nat) : Int) = cutZ (l : Int) (klN true N) := by
  rw [cutZ_nat, cutZ_nat]
  unfold khN klN
  rw [if_pos rfl, if_pos rfl]
  have e64 : (2 : Nat) ^ 64 = 18446744073709551616 := by decide
  by_cases c : N < 64
  · rw [Nat.min_eq_left (by omega), e64]
    have hp : (2 : Nat) ^ (128 - N) = 18446744073709551616 * 2 ^ (64 - N) := by rw [← e64, ← Nat.pow_add]; congr 1; omega
    have hm : (h * 18446744073709551616 + l) % 2 ^ (128 - N) = 18446744073709551616 * (h % 2 ^ (64 - N)) + l := by
      rw [hp, Nat.mod_mul]
      have e1 : (h * 18446744073709551616 + l) % 18446744073709551616 = l := by omega
      have e2 : (h * 18446744073709551616 + l) / 18446744073709551616 = h := by omega
      rw [e1, e2]
      omega
    have hh := Nat.mod_le h (2 ^ (64 - N))
    rw [hm]
    generalize h % 2 ^ (64 - N) = r at *
    constructor
    · congr 1; omega
    · congr 1; omega
  · rw [show 64 - N = 0 by omega, Nat.min_eq_right (by omega), Nat.pow_zero, Nat.mod_one, Nat.sub_zero]
    have hd : (18446744073709551616 : Nat) = 2 ^ (128 - N) * 2 ^ (64 - (128 - N)) := by rw [← e64, ← Nat.pow_add]; congr 1; omega
    have hm : (h * 18446744073709551616 + l) % 2 ^ (128 - N) = l % 2 ^ (128 - N) := by
      rw [hd, show h * (2 ^ (128 - N) * 2 ^ (64 - (128 - N))) = 2 ^ (128 - N) * (h * 2 ^ (64 - (128 - N))) by rw [← Nat.mul_assoc, Nat.mul_comm h, Nat.mul_assoc], Nat.mul_add_mod]
    have hl2 := Nat.mod_le l (2 ^ (128 - N))
    rw [hm]
    generalize l % 2 ^ (128 - N) = r at *
    constructor
    · congr 1; omega
    · congr 1; omega
theorem clr_step {X k c y : Nat} (hc : c + 1 ≤ k) (e : y = clr X k (c + 1)) : ∀ t, (clr X k c).testBit t = (y.testBit t && !decide (t = c)) := fun t => by
  rw [e, clr_bit (by omega), clr_bit hc]
  by_cases h1 : t = c
  · subst h1
    simp [show t < k by omega]
  · have : decide (c ≤ t) = decide (c + 1 ≤ t) := by rw [decide_eq_decide]; omega
    simp [h1, this]
theorem mul_clr {X k c : Nat} (h : c ≤ k) (m : Nat) (hk : k ≤ m) (hX : X < 2 ^ m) : clr X k c < 2 ^ m := by
  apply Nat.lt_pow_two_of_testBit
  intro t ht
  rw [clr_bit h]
  have : X.testBit t = false := Nat.testBit_lt_two_pow (Nat.lt_of_lt_of_le hX (Nat.pow_le_pow_right (by decide) ht))
  rw [this]
  rfl
end Go.Proofs.YtboddbheljenhaaGreatDoor
namespace Go.Proofs.YtboddbheljenhaaGreatDoor
open Go.RowKit
def eqQ (v : Bool) (hi lo : Int) (v' : Bool) (hi' lo' : Int) : Bool := v == v' && (hi == hi' && lo == lo')
def eqP (v : Bool) (hi lo n : Int) (v' : Bool) (hi' lo' n' : Int) : Bool := eqQ v hi lo v' hi' lo' && n == n'
section
variable {k : Nat} {st : St} {o : Oper}
theorem opok_eqQd {yt : TypeId} {x y : Operand} {v1 v2 : Bool} {h1 l1 h2 l2 : Int} (ho : o.op = .binOp .eql 24 x y yt) (hx : st.aop x = .agg [.val (.bool v1), .val (.int .u64 h1), .val (.int .u64 l1)]) (hy : st.aop y = .agg [.val (.bool v2), .val (.int .u64 h2), .val (.int .u64 l2)]) :
    OpOk Tryz.prog k st o ⟨.val (.bool (eqQ v1 h1 l1 v2 h2 l2)), [], [], []⟩ :=
  opok_binA ho hx (.cons (.cons (.cons .nil))) hy (.cons (.cons (.cons .nil))) fun w => by
    unfold eqQ
    go_simp
    by_cases c1 : v1 = v2 <;> by_cases c2 : h1 = h2 <;> by_cases c3 : l1 = l2 <;> simp_all
theorem opok_neQd {yt : TypeId} {x y : Operand} {v1 v2 : Bool} {h1 l1 h2 l2 : Int} (ho : o.op = .binOp .neq 24 x y yt) (hx : st.aop x = .agg [.val (.bool v1), .val (.int .u64 h1), .val (.int .u64 l1)]) (hy : st.aop y = .agg [.val (.bool v2), .val (.int .u64 h2), .val (.int .u64 l2)]) :
    OpOk Tryz.prog k st o ⟨.val (.bool (!eqQ v1 h1 l1 v2 h2 l2)), [], [], []⟩ :=
  opok_binA ho hx (.cons (.cons (.cons .nil))) hy (.cons (.cons (.cons .nil))) fun w => by
    unfold eqQ
    go_simp
    by_cases c1 : v1 = v2 <;> by_cases c2 : h1 = h2 <;> by_cases c3 : l1 = l2 <;> simp_all
theorem opok_eqPd {yt : TypeId} {x y : Operand} {v1 v2 : Bool} {h1 l1 h2 l2 n1 n2 : Int} (ho : o.op = .binOp .eql 26 x y yt) (hx : st.aop x = .agg [.val (.bool v1), .val (.int .u64 h1), .val (.int .u64 l1), .val (.int .i64 n1)]) (hy : st.aop y = .agg [.val (.bool v2), .val (.int .u64 h2), .val (.int .u64 l2), .val (.int .i64 n2)]) :
    OpOk Tryz.prog k st o ⟨.val (.bool (eqP v1 h1 l1 n1 v2 h2 l2 n2)), [], [], []⟩ :=
  opok_binA ho hx (.cons (.cons (.cons (.cons .nil)))) hy (.cons (.cons (.cons (.cons .nil)))) fun w => by
    unfold eqP eqQ
    go_simp
    by_cases c1 : v1 = v2 <;> by_cases c2 : h1 = h2 <;> by_cases c3 : l1 = l2 <;> by_cases c4 : n1 = n2 <;> simp_all
theorem opok_nePd {yt : TypeId} {x y : Operand} {v1 v2 : Bool} {h1 l1 h2 l2 n1 n2 : Int} (ho : o.op = .binOp .neq 26 x y yt) (hx : st.aop x = .agg [.val (.bool v1), .val (.int .u64 h1), .val (.int .u64 l1), .val (.int .i64 n1)]) (hy : st.aop y = .agg [.val (.bool v2), .val (.int .u64 h2), .val (.int .u64 l2), .val (.int .i64 n2)]) :
    OpOk Tryz.prog k st o ⟨.val (.bool (!eqP v1 h1 l1 n1 v2 h2 l2 n2)), [], [], []⟩ :=
  opok_binA ho hx (.cons (.cons (.cons (.cons .nil)))) hy (.cons (.cons (.cons (.cons .nil)))) fun w => by
    unfold eqP eqQ
    go_simp
    by_cases c1 : v1 = v2 <;> by_cases c2 : h1 = h2 <;> by_cases c3 : l1 = l2 <;> by_cases c4 : n1 = n2 <;> simp_all
end
end Go.Proofs.YtboddbheljenhaaGreatDoor
namespace Go.Proofs.YtboddbheljenhaaGreatDoor
open Go.RowKit
def okA' (v : Bool) (hi lo : Int) : Bool := v || (decide (hi = 0) && decide (lo ≤ 4294967295))
set_option maxHeartbeats 1000000 in
theorem avalid4_any (hi lo : Int) (w : World) : Calls Tryz.prog 41 #[.agg #[.bool false, .int .u64 hi, .int .u64 lo]] w fun e w' => e = .returned (.bool (decide (hi = 0) && decide (lo ≤ 4294967295))) ∧ Below w.heap.size w w' := by
  have e3 : decide (lo < 4294967296) = decide (lo ≤ 4294967295) := by rw [decide_eq_decide]; omega
  by_cases h1 : hi = 0
  · have e1 : decide (hi = 0) = true := by simpa using h1
    have e2 : (hi == 0) = true := by simpa using h1
    rw [e1]
    go_enter Tryz.func41, Tryz.ntmps41
    go_wp2
    go_ret
    refine ⟨?_, (by repeat (with_reducible first | exact Below.refl _ _ | assumption | refine Below.drew ?_ | refine below_drewN ?_ _ | refine Below.alloc ?_ (by simp) _ | refine Below.setCell ?_ (by first | (simp; done) | omega | (simp; omega)) _ | refine Below.alloc ?_ (by simp; omega) _))⟩
    first | rfl | (rw [← e3]; rfl)
  · have e1 : decide (hi = 0) = false := by simpa using h1
    have e2 : (hi == 0) = false := by simpa using h1
    rw [e1]
    go_enter Tryz.func41, Tryz.ntmps41
    go_wp2
    go_ret
    refine ⟨?_, (by repeat (with_reducible first | exact Below.refl _ _ | assumption | refine Below.drew ?_ | refine below_drewN ?_ _ | refine Below.alloc ?_ (by simp) _ | refine Below.setCell ?_ (by first | (simp; done) | omega | (simp; omega)) _ | refine Below.alloc ?_ (by simp; omega) _))⟩
    first | rfl | (rw [← e3]; rfl)
theorem avalid_v4 (hi lo : Int) : Spec Tryz.prog 41 [.agg [.val (.bool false), .val (.int .u64 hi), .val (.int .u64 lo)]] [] (.val (.bool (decide (hi = 0) && decide (lo ≤ 4294967295)))) [] :=
  (spec_of_calls (vs := #[.agg #[.bool false, .int .u64 hi, .int .u64 lo]]) fun w => avalid4_any hi lo w).of (.agg (vs := [.bool false, .int .u64 hi, .int .u64 lo]) .nil)
set_option maxHeartbeats 1000000 in
theorem avalid6_any (hi lo : Int) (w : World) : Calls Tryz.prog 41 #[.agg #[.bool true, .int .u64 hi, .int .u64 lo]] w fun e w' => e = .returned (.bool true) ∧ Below w.heap.size w w' := by
  go_enter Tryz.func41, Tryz.ntmps41
  go_wp2
  go_ret
  exact ⟨rfl, (by repeat (with_reducible first | exact Below.refl _ _ | assumption | refine Below.drew ?_ | refine below_drewN ?_ _ | refine Below.alloc ?_ (by simp) _ | refine Below.setCell ?_ (by first | (simp; done) | omega | (simp; omega)) _ | refine Below.alloc ?_ (by simp; omega) _))⟩
theorem avalid_v6 (hi lo : Int) : Spec Tryz.prog 41 [.agg [.val (.bool true), .val (.int .u64 hi), .val (.int .u64 lo)]] [] (.val (.bool true)) [] :=
  (spec_of_calls (vs := #[.agg #[.bool true, .int .u64 hi, .int .u64 lo]]) fun w => avalid6_any hi lo w).of (.agg (vs := [.bool true, .int .u64 hi, .int .u64 lo]) .nil)
theorem avalid_spec (v : Bool) (hi lo : Int) : Spec Tryz.prog 41 [.agg [.val (.bool v), .val (.int .u64 hi), .val (.int .u64 lo)]] [] (.val (.bool (okA' v hi lo))) [] := by
  cases v with
  | true => exact avalid_v6 hi lo
  | false => exact avalid_v4 hi lo
end Go.Proofs.YtboddbheljenhaaGreatDoor
