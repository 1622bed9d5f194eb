/-
  What the deck of exchangepointmake makes: addresses, by states.
-/
import Derived.Test.YtmbmodeiikhnkaaGreatDoorMkValB
import Derived.Laws.BitsAllLaws
import Derived.WalkKit
namespace Go.Proofs.YtmbmodeiikhnkaaGreatDoor
open Go.RowKit
set_option maxHeartbeats 4000000 in
set_option maxRecDepth 100000 in
theorem addr_5 (zs : List Int) (p : Nat) (hz : zs.length ≤ 9223372036854775807) (hp : p ≤ zs.length) (hc : nextV zs p 6 = 5) : ∃ (v : Bool) (hi lo : Int) (q : Nat), AOk v hi lo ∧ q ≤ zs.length ∧
    Spec Tryz.prog 6 [.ptr 0 0 0] [(0, some (0, deckO zs p))] (.agg [.val (.bool v), .val (.int .u64 hi), .val (.int .u64 lo)]) [(0, some (0, deckO zs q))] := by
  have hp1 := nextPs_le zs 1 p hp
  have hp2 := nextPs_le zs 2 p hp
  refine ⟨false, 0, IntKind.u64.wrap (nextV zs (nextPs zs 1 p) 1073741824), nextPs zs 2 p, ?_, hp2, ?_⟩
  · have := nextV_range zs (nextPs zs 1 p) 1073741824 (by decide)
    exact aok4 (by simp only [IntKind.wrap_u64, IntKind.wrap_i64]; omega) (by simp only [IntKind.wrap_u64, IntKind.wrap_i64]; omega)
  · refine spec_of_awp Tryz.func6 rfl (Nat.le_of_ble_eq_true rfl) fun ini => ?_
    simp only [Tryz.ntmps6]
    refine awp_reg_seq rfl fun k1 => ?_
    (repeat (first | (apply runk_alloc rfl rfl rfl ?_ ?_ ?_; rotate_left 2; (· (conv => (lhs; whnf; arg 1; whnf))); (· (conv => (lhs; whnf)))) | refine runk_end (by kernel_rfl) ?_))
    refine awp_seq ?_
    refine awp_reg_seq rfl fun k2 => ?_
    (repeat (first | (apply runk0 rfl rfl (opok_move rfl ?_) ?_; rotate_left 1; (· (conv => (lhs; whnf))))))
    (apply runk_with rfl rfl rfl ?_ ?_ ?_ ?_ ?_ ?_ ?_ ?_ ?_ ?_ ?_; rotate_left 10; (· (conv => (lhs; whnf))); (· exact Tryz.func14); (· rfl); (· rfl); (· exact (next_spec zs p 6 (by decide) (by decide) hz hp)); (· (repeat (first | exact Rens.nil | (refine Rens.cons ?_ ?_; (· first | exact Ren.ptr _ _ _ _ _ List.mem_cons_self | (refine Ren.pureR ?_ rfl; (rfl))))))); (· rfl); (· rfl); (· ((simp; done))); (· ((simp; done))))
    rw [hc]
    (repeat (first | refine runk_end (by kernel_rfl) ?_))
    refine awp_block ?_
    refine awp_reg_seq rfl fun c0 => ?_
    (repeat (first | (apply runk0 rfl rfl (opok_assign rfl ?_) ?_; rotate_left 1; (· (conv => (lhs; whnf)))) | (apply runk0 rfl rfl (opok_bin rfl ?_ ?_ ?_) ?_; rotate_left 3; (· (conv => (lhs; whnf))); (· (conv => (lhs; whnf))); (· (intro w; go_simp; first | done | rfl))) | refine runk_end (by kernel_rfl) ?_))
    refine awp_false rfl ?_
    refine awp_reg_seq rfl fun c1 => ?_
    (repeat (first | (apply runk0 rfl rfl (opok_assign rfl ?_) ?_; rotate_left 1; (· (conv => (lhs; whnf)))) | (apply runk0 rfl rfl (opok_bin rfl ?_ ?_ ?_) ?_; rotate_left 3; (· (conv => (lhs; whnf))); (· (conv => (lhs; whnf))); (· (intro w; go_simp; first | done | rfl))) | refine runk_end (by kernel_rfl) ?_))
    refine awp_false rfl ?_
    refine awp_reg_seq rfl fun c2 => ?_
    (repeat (first | (apply runk0 rfl rfl (opok_assign rfl ?_) ?_; rotate_left 1; (· (conv => (lhs; whnf)))) | (apply runk0 rfl rfl (opok_bin rfl ?_ ?_ ?_) ?_; rotate_left 3; (· (conv => (lhs; whnf))); (· (conv => (lhs; whnf))); (· (intro w; go_simp; first | done | rfl))) | refine runk_end (by kernel_rfl) ?_))
    refine awp_false rfl ?_
    refine awp_reg_seq rfl fun c3 => ?_
    (repeat (first | (apply runk0 rfl rfl (opok_assign rfl ?_) ?_; rotate_left 1; (· (conv => (lhs; whnf)))) | (apply runk0 rfl rfl (opok_bin rfl ?_ ?_ ?_) ?_; rotate_left 3; (· (conv => (lhs; whnf))); (· (conv => (lhs; whnf))); (· (intro w; go_simp; first | done | rfl))) | refine runk_end (by kernel_rfl) ?_))
    refine awp_false rfl ?_
    refine awp_reg_seq rfl fun c4 => ?_
    (repeat (first | (apply runk0 rfl rfl (opok_assign rfl ?_) ?_; rotate_left 1; (· (conv => (lhs; whnf)))) | (apply runk0 rfl rfl (opok_bin rfl ?_ ?_ ?_) ?_; rotate_left 3; (· (conv => (lhs; whnf))); (· (conv => (lhs; whnf))); (· (intro w; go_simp; first | done | rfl))) | refine runk_end (by kernel_rfl) ?_))
    refine awp_false rfl ?_
    refine awp_skip (?_ : Awp _ _ _ _ _ _)
    refine awp_reg_seq rfl fun k4 => ?_
    (repeat (first | (apply runk0 rfl rfl (opok_move rfl ?_) ?_; rotate_left 1; (· (conv => (lhs; whnf))))))
    (apply runk_with rfl rfl rfl ?_ ?_ ?_ ?_ ?_ ?_ ?_ ?_ ?_ ?_ ?_; rotate_left 10; (· (conv => (lhs; whnf))); (· exact Tryz.func14); (· rfl); (· rfl); (· exact (next_spec zs (nextPs zs 1 p) 1073741824 (by decide) (by decide) hz hp1)); (· (repeat (first | exact Rens.nil | (refine Rens.cons ?_ ?_; (· first | exact Ren.ptr _ _ _ _ _ List.mem_cons_self | (refine Ren.pureR ?_ rfl; (rfl))))))); (· rfl); (· rfl); (· ((simp; done))); (· ((simp; done))))
    (repeat (first | (apply runk0 rfl rfl (opok_conv rfl ?_ ?_) ?_; rotate_left 2; (· (conv => (lhs; whnf))); (· (intro w; go_simp; rfl))) | (apply runk0 rfl rfl (opok_build rfl ?_ ?_ ?_ ?_ ?_) ?_; rotate_left 5; (· (conv => (lhs; whnf; arg 1; whnf))); (· (conv => (lhs; whnf; arg 1; repeat (whnf; arg 2)))); (· (conv => (lhs; whnf; arg 1; whnf))); (· (repeat (first | exact PartsOf.nil | (apply PartsOf.cons; (· (conv => (lhs; whnf))))))); (· (conv => (lhs; whnf; arg 1; repeat (whnf; arg 2))))) | (apply runk_store rfl rfl rfl ?_ ?_ ?_ ?_ ?_ ?_ ?_ ?_ ?_ ?_ ?_; rotate_left 9; (· (conv => (lhs; whnf))); (· (conv => (lhs; whnf))); (· (conv => (lhs; whnf; arg 1; whnf; arg 2; whnf))); (· rfl); (· (conv => (lhs; whnf))); (· rfl); (· (unfold sizeIs; conv => (lhs; whnf; arg 1; whnf))); (· rfl); (· rfl); (· (conv => (lhs; repeat (whnf; arg 2))))) | refine runk_end (by kernel_rfl) ?_))
    refine awp_ret ?_
    (apply ends_with ?_ ?_ ?_ ?_ ?_ ?_ ?_ ?_ (.inl rfl); rotate_left 3; (· (exact res_cell rfl rfl rfl rfl rfl)); (· rfl); (· rfl); (· (conv => (lhs; whnf; arg 1; whnf))); (· rfl); (· rfl); (· ((simp; done))); (· rfl))
theorem addr_ex (zs : List Int) (p : Nat) (hz : zs.length ≤ 9223372036854775807) (hp : p ≤ zs.length) : ∃ (v : Bool) (hi lo : Int) (q : Nat), AOk v hi lo ∧ q ≤ zs.length ∧
    Spec Tryz.prog 6 [.ptr 0 0 0] [(0, some (0, deckO zs p))] (.agg [.val (.bool v), .val (.int .u64 hi), .val (.int .u64 lo)]) [(0, some (0, deckO zs q))] := by
  obtain ⟨r0, r1⟩ := nextV_range zs p 6 (by decide)
  have hc : nextV zs p 6 = 0 ∨ nextV zs p 6 = 1 ∨ nextV zs p 6 = 2 ∨ nextV zs p 6 = 3 ∨ nextV zs p 6 = 4 ∨ nextV zs p 6 = 5 := by omega
  rcases hc with hc | hc | hc | hc | hc | hc
  · exact addr_0 zs p hz hp hc
  · exact addr_1 zs p hz hp hc
  · exact addr_2 zs p hz hp hc
  · exact addr_3 zs p hz hp hc
  · exact addr_4 zs p hz hp hc
  · exact addr_5 zs p hz hp hc
end Go.Proofs.YtmbmodeiikhnkaaGreatDoor
namespace Go.Proofs.YtmbmodeiikhnkaaGreatDoor
open Go.RowKit
theorem nat_hi (x k : Nat) (hk : k ≤ 64) (hx : x < 2 ^ 64) : x &&& (2 ^ 64 - 2 ^ k) = x - x % 2 ^ k := by
  have h1 : x - x % 2 ^ k = 2 ^ k * (x / 2 ^ k) + 0 := by have := Nat.div_add_mod x (2 ^ k); omega
  have h2 : 2 ^ 64 - 2 ^ k = 2 ^ k * (2 ^ (64 - k) - 1) + 0 := by rw [Nat.add_zero, Nat.mul_sub, ← Nat.pow_add, Nat.mul_one, show k + (64 - k) = 64 by omega]
  rw [h1, h2]
  apply Nat.eq_of_testBit_eq
  intro i
  rw [Nat.testBit_and, Nat.testBit_two_pow_mul_add _ (Nat.two_pow_pos k), Nat.testBit_two_pow_mul_add _ (Nat.two_pow_pos k)]
  by_cases h : i < k
  · simp [h]
  · rw [if_neg h, if_neg h, Nat.testBit_two_pow_sub_one, Nat.testBit_div_two_pow, show i - k + k = i by omega]
    by_cases h' : i < 64
    · rw [decide_eq_true (by omega), Bool.and_true]
    · have : x.testBit i = false := Nat.testBit_lt_two_pow (Nat.lt_of_lt_of_le hx (Nat.pow_le_pow_right (by decide) (by omega)))
      rw [this, Bool.false_and]
theorem nat_or (x k : Nat) : x ||| (2 ^ k - 1) = x - x % 2 ^ k + (2 ^ k - 1) := by
  have h1 : x - x % 2 ^ k = 2 ^ k * (x / 2 ^ k) := by have := Nat.div_add_mod x (2 ^ k); omega
  have hp := Nat.two_pow_pos k
  rw [h1]
  apply Nat.eq_of_testBit_eq
  intro i
  rw [Nat.testBit_or, Nat.testBit_two_pow_mul_add _ (by omega : 2 ^ k - 1 < 2 ^ k), Nat.testBit_two_pow_sub_one]
  by_cases h : i < k
  · simp [h]
  · rw [if_neg h, Nat.testBit_div_two_pow, show i - k + k = i by omega, decide_eq_false h, Bool.or_false]
/-- The bits from k on. -/
theorem andnot_low (x : Int) (k : Nat) (h0 : 0 ≤ x) (h1 : x < 18446744073709551616) (hk : k ≤ 64) : bits .andNot .u64 x (2 ^ k - 1) = x - x % 2 ^ k := by
  obtain ⟨X, rfl⟩ := Int.eq_ofNat_of_zero_le h0
  have hp : (2 : Nat) ^ k ≤ 2 ^ 64 := Nat.pow_le_pow_right (by decide) hk
  have h64 : (2 : Nat) ^ 64 = 18446744073709551616 := by decide
  have hp0 := Nat.two_pow_pos k
  have hc : ((2 ^ k : Nat) : Int) = (2 : Int) ^ k := Int.natCast_pow 2 k
  have e : ((2 : Int) ^ k - 1) = ((2 ^ k - 1 : Nat) : Int) := by rw [← hc]; omega
  rw [e, u64_andNot_nat X (2 ^ k - 1) (by omega) (by omega)]
  have e2 : 18446744073709551615 - (2 ^ k - 1) = 2 ^ 64 - 2 ^ k := by omega
  rw [e2, nat_hi X k hk (by omega)]
  have := Nat.mod_le X (2 ^ k)
  rw [Int.ofNat_sub this, Int.natCast_emod, hc]
theorem or_low (x : Int) (k : Nat) (h0 : 0 ≤ x) (h1 : x < 18446744073709551616) (hk : k ≤ 64) : bits .or .u64 x (2 ^ k - 1) = x - x % 2 ^ k + (2 ^ k - 1) := by
  obtain ⟨X, rfl⟩ := Int.eq_ofNat_of_zero_le h0
  have hp : (2 : Nat) ^ k ≤ 2 ^ 64 := Nat.pow_le_pow_right (by decide) hk
  have h64 : (2 : Nat) ^ 64 = 18446744073709551616 := by decide
  have hp0 := Nat.two_pow_pos k
  have hc : ((2 ^ k : Nat) : Int) = (2 : Int) ^ k := Int.natCast_pow 2 k
  have e : ((2 : Int) ^ k - 1) = ((2 ^ k - 1 : Nat) : Int) := by rw [← hc]; omega
  rw [e, bits_or_u64_nat X (2 ^ k - 1) (by omega) (by omega), nat_or]
  have := Nat.mod_le X (2 ^ k)
  rw [Int.natCast_add, Int.ofNat_sub this, Int.natCast_emod, hc, ← e]
end Go.Proofs.YtmbmodeiikhnkaaGreatDoor
namespace Go.Proofs.YtmbmodeiikhnkaaGreatDoor
open Go.RowKit
/-- A number without its bits from c to k - 1. -/
def clr (x k c : Nat) : Nat := 2 ^ k * (x / 2 ^ k) + x % 2 ^ c
theorem clr_bit {x k c : Nat} (h : c ≤ k) (t : Nat) : (clr x k c).testBit t = (x.testBit t && !(decide (c ≤ t) && decide (t < k))) := by
  unfold clr
  have hl : x % 2 ^ c < 2 ^ k := Nat.lt_of_lt_of_le (Nat.mod_lt _ (Nat.two_pow_pos c)) (Nat.pow_le_pow_right (by decide) h)
  rw [Nat.testBit_two_pow_mul_add _ hl, Nat.testBit_mod_two_pow, Nat.testBit_div_two_pow]
  by_cases h1 : t < k
  · rw [if_pos h1]
    by_cases h2 : t < c
    · first | (simp [h1, h2]; done) | (simp [h1, h2]; omega)
    · first | (simp [h1, h2]; done) | (simp [h1, h2]; omega)
  · rw [if_neg h1, show t - k + k = t by omega]
    simp [h1]
theorem clr_top {x k : Nat} : clr x k k = x := by unfold clr; exact Nat.div_add_mod x (2 ^ k)
theorem clr_zero {x k : Nat} : clr x k 0 = x - x % 2 ^ k := by unfold clr; have := Nat.div_add_mod x (2 ^ k); simp; omega
/-- A number with its bits from c to k - 1 set. -/
def sets (x k c : Nat) : Nat := 2 ^ k * (x / 2 ^ k) + (2 ^ k - 2 ^ c) + x % 2 ^ c
theorem sets_bit {x k c : Nat} (h : c ≤ k) (t : Nat) : (sets x k c).testBit t = (x.testBit t || (decide (c ≤ t) && decide (t < k))) := by
  have hp : 2 ^ c ≤ 2 ^ k := Nat.pow_le_pow_right (by decide) h
  have hm : x % 2 ^ c < 2 ^ c := Nat.mod_lt _ (Nat.two_pow_pos c)
  have e : sets x k c = 2 ^ k * (x / 2 ^ k) + (2 ^ c * (2 ^ (k - c) - 1) + x % 2 ^ c) := by
    unfold sets
    rw [Nat.mul_sub, ← Nat.pow_add, Nat.mul_one, show c + (k - c) = k by omega, Nat.add_assoc]
  have hl : 2 ^ c * (2 ^ (k - c) - 1) + x % 2 ^ c < 2 ^ k := by
    rw [Nat.mul_sub, ← Nat.pow_add, Nat.mul_one, show c + (k - c) = k by omega]
    omega
  rw [e, Nat.testBit_two_pow_mul_add _ hl, Nat.testBit_two_pow_mul_add _ hm, Nat.testBit_mod_two_pow, Nat.testBit_div_two_pow, Nat.testBit_two_pow_sub_one]
  by_cases h1 : t < k
  · rw [if_pos h1]
    by_cases h2 : t < c
    · simp [h2]; omega
    · rw [if_neg h2]
      simp [h1, show c ≤ t by omega]; omega
  · rw [if_neg h1, show t - k + k = t by omega]
    simp [h1]
theorem sets_top {x k : Nat} : sets x k k = x := by unfold sets; have := Nat.div_add_mod x (2 ^ k); omega
theorem sets_zero {x k : Nat} : sets x k 0 = x - x % 2 ^ k + (2 ^ k - 1) := by unfold sets; have := Nat.div_add_mod x (2 ^ k); simp; omega
/-- The bytes of a number, the most significant first. -/
def beB (m : Nat) (y : Nat) : List Int := (List.range m).map fun j => ((y / 256 ^ (m - 1 - j) % 256 : Nat) : Int)
theorem beB_length (m y : Nat) : (beB m y).length = m := by simp [beB]
theorem beB_get (m y j : Nat) (h : j < m) : (beB m y)[j]? = some ((y / 256 ^ (m - 1 - j) % 256 : Nat) : Int) := by
  unfold beB
  rw [List.getElem?_map, List.getElem?_range h]; rfl
theorem byte_bit (y e t : Nat) : (y / 256 ^ e % 256).testBit t = (decide (t < 8) && y.testBit (8 * e + t)) := by
  rw [show (256 : Nat) = 2 ^ 8 by decide, ← Nat.pow_mul, Nat.testBit_mod_two_pow, Nat.testBit_div_two_pow, Nat.add_comm t]
theorem pow_bit : ∀ r, r < 8 → ∀ t, t < 8 → (255 - 2 ^ r : Nat).testBit t = !decide (t = r) := by decide
theorem pow_bit' : ∀ r, r < 8 → ∀ t, t < 8 → (2 ^ r : Nat).testBit t = decide (t = r) := by decide
/-- One bit of one byte cleared: the bytes of the number without that bit. -/
theorem beB_clear (m y y' i : Nat) (hi : i < 8 * m) (h : ∀ t, y'.testBit t = (y.testBit t && !decide (t = 8 * m - 1 - i))) :
    (beB m y).set (i / 8) (((y / 256 ^ (m - 1 - i / 8) % 256 &&& (255 - 2 ^ (7 - i % 8)) : Nat)) : Int) = beB m y' := by
  apply List.ext_getElem?
  intro j
  by_cases hj : j < m
  · rw [beB_get m y' j hj, List.getElem?_set]
    by_cases hji : i / 8 = j
    · rw [if_pos hji, if_pos (by rw [beB_length]; omega)]
      subst hji
      congr 2
      apply Nat.eq_of_testBit_eq
      intro t
      rw [Nat.testBit_and, byte_bit, byte_bit, h]
      by_cases ht : t < 8
      · rw [pow_bit (7 - i % 8) (by omega) t ht, decide_eq_true ht, Bool.true_and, Bool.true_and]
        congr 2
        rw [decide_eq_decide]
        omega
      · simp [ht]
    · rw [if_neg hji, beB_get m y j hj]
      congr 2
      apply Nat.eq_of_testBit_eq
      intro t
      rw [byte_bit, byte_bit, h]
      by_cases ht : t < 8
      · rw [decide_eq_false (by omega : ¬ 8 * (m - 1 - j) + t = 8 * m - 1 - i)]
        simp
      · simp [ht]
  · rw [List.getElem?_eq_none (by rw [List.length_set, beB_length]; omega), List.getElem?_eq_none (by rw [beB_length]; omega)]
theorem beB_set (m y y' i : Nat) (hi : i < 8 * m) (h : ∀ t, y'.testBit t = (y.testBit t || decide (t = 8 * m - 1 - i))) :
    (beB m y).set (i / 8) (((y / 256 ^ (m - 1 - i / 8) % 256 ||| 2 ^ (7 - i % 8) : Nat)) : Int) = beB m y' := by
  apply List.ext_getElem?
  intro j
  by_cases hj : j < m
  · rw [beB_get m y' j hj, List.getElem?_set]
    by_cases hji : i / 8 = j
    · rw [if_pos hji, if_pos (by rw [beB_length]; omega)]
      subst hji
      congr 2
      apply Nat.eq_of_testBit_eq
      intro t
      rw [Nat.testBit_or, byte_bit, byte_bit, h]
      by_cases ht : t < 8
      · rw [pow_bit' (7 - i % 8) (by omega) t ht, decide_eq_true ht, Bool.true_and, Bool.true_and]
        congr 1
        rw [decide_eq_decide]
        omega
      · have : (2 ^ (7 - i % 8) : Nat).testBit t = false := Nat.testBit_lt_two_pow (Nat.pow_lt_pow_right (by decide) (by omega))
        simp [ht, this]
    · rw [if_neg hji, beB_get m y j hj]
      congr 2
      apply Nat.eq_of_testBit_eq
      intro t
      rw [byte_bit, byte_bit, h]
      by_cases ht : t < 8
      · rw [decide_eq_false (by omega : ¬ 8 * (m - 1 - j) + t = 8 * m - 1 - i)]
        simp
      · simp [ht]
  · rw [List.getElem?_eq_none (by rw [List.length_set, beB_length]; omega), List.getElem?_eq_none (by rw [beB_length]; omega)]
end Go.Proofs.YtmbmodeiikhnkaaGreatDoor
namespace Go.Proofs.YtmbmodeiikhnkaaGreatDoor
open Go.RowKit
def khN (v : Bool) (n : Nat) : Nat := if v = true then 64 - n else 0
def klN (v : Bool) (n : Nat) : Nat := if v = true then min 64 (128 - n) else 32 - n
def wiN (v : Bool) : Nat := if v = true then 128 else 32
/-- A number without its last k bits, and with all of them. -/
def cutZ (x : Int) (k : Nat) : Int := x - x % 2 ^ k
def filZ (x : Int) (k : Nat) : Int := x - x % 2 ^ k + (2 ^ k - 1)
theorem two_pos (k : Nat) : (0 : Int) < 2 ^ k := Int.pow_pos (by decide)
theorem cast_pow (k : Nat) : ((2 ^ k : Nat) : Int) = (2 : Int) ^ k := Int.natCast_pow 2 k
theorem cutZ_nat (x k : Nat) : cutZ (x : Int) k = ((x - x % 2 ^ k : Nat) : Int) := by
  unfold cutZ
  rw [Int.ofNat_sub (Nat.mod_le _ _), Int.natCast_emod, cast_pow]
theorem filZ_nat (x k : Nat) : filZ (x : Int) k = ((x - x % 2 ^ k + (2 ^ k - 1) : Nat) : Int) := by
  have h := cutZ_nat x k
  have hp := Nat.two_pow_pos k
  unfold cutZ at h
  unfold filZ
  rw [h, Int.natCast_add, Int.ofNat_sub hp, cast_pow]
  rfl
theorem cutZ_zero (x : Int) : cutZ x 0 = x := by unfold cutZ; simp
theorem filZ_zero (x : Int) : filZ x 0 = x := by unfold filZ; simp
theorem cutZ_bd {x : Int} (k : Nat) (h : 0 ≤ x) : 0 ≤ cutZ x k ∧ cutZ x k ≤ x := by
  obtain ⟨X, rfl⟩ := Int.eq_ofNat_of_zero_le h
  rw [cutZ_nat]
  omega
theorem cutZ_mod (x : Int) (k : Nat) : cutZ x k % 2 ^ k = 0 := by
  unfold cutZ
  have e : x - x % 2 ^ k = 2 ^ k * (x / 2 ^ k) := by rw [Int.emod_def]; omega
  rw [e, Int.mul_emod_right]
theorem cutZ_idem (x : Int) (k : Nat) : cutZ (cutZ x k) k = cutZ x k := by
  rw [cutZ, cutZ_mod, Int.sub_zero]
/-- Of a number below 2 ^ m with k at most m: stays below. -/
theorem filZ_bd {x : Int} (k m : Nat) (h : 0 ≤ x) (hx : x < 2 ^ m) (hk : k ≤ m) : x ≤ filZ x k ∧ filZ x k < 2 ^ m := by
  obtain ⟨X, rfl⟩ := Int.eq_ofNat_of_zero_le h
  have hX : X < 2 ^ m := by have := cast_pow m; omega
  have hp := Nat.two_pow_pos k
  have hm : X % 2 ^ k < 2 ^ k := Nat.mod_lt _ hp
  rw [filZ_nat, ← cast_pow]
  have h1 : X - X % 2 ^ k + (2 ^ k - 1) < 2 ^ m := by
    rw [← nat_or X k]
    exact Nat.or_lt_two_pow hX (Nat.lt_of_lt_of_le (by omega) (Nat.pow_le_pow_right (by decide) hk))
  omega
def bitZ (x : Int) (b : Nat) : Int := x / 2 ^ b % 2
theorem bitZ_nat (x b : Nat) : bitZ (x : Int) b = ((x / 2 ^ b % 2 : Nat) : Int) := by
  unfold bitZ
  rw [Int.natCast_emod, Int.natCast_ediv, cast_pow]
  rfl
theorem bit_of (x b : Nat) : x / 2 ^ b % 2 = (x.testBit b).toNat := by
  rw [Nat.testBit_eq_decide_div_mod_eq]
  have : x / 2 ^ b % 2 < 2 := Nat.mod_lt _ (by decide)
  by_cases h : x / 2 ^ b % 2 = 1
  · rw [decide_eq_true h]; exact h
  · rw [decide_eq_false h]; simp; omega
theorem bitZ_cut (x : Int) (k b : Nat) (h : 0 ≤ x) : bitZ (cutZ x k) b = if b < k then 0 else bitZ x b := by
  obtain ⟨X, rfl⟩ := Int.eq_ofNat_of_zero_le h
  rw [cutZ_nat, bitZ_nat, bitZ_nat, bit_of, bit_of, ← clr_zero, clr_bit (Nat.zero_le _)]
  by_cases hb : b < k
  · simp [hb]
  · simp [hb]
theorem bitZ_fil (x : Int) (k b : Nat) (h : 0 ≤ x) : bitZ (filZ x k) b = if b < k then 1 else bitZ x b := by
  obtain ⟨X, rfl⟩ := Int.eq_ofNat_of_zero_le h
  rw [filZ_nat, bitZ_nat, bitZ_nat, bit_of, bit_of, ← sets_zero, sets_bit (Nat.zero_le _)]
  by_cases hb : b < k
  · simp [hb]
  · simp [hb]
end Go.Proofs.YtmbmodeiikhnkaaGreatDoor
namespace Go.Proofs.YtmbmodeiikhnkaaGreatDoor

/-- The sum of the 16-bit words of bytes; a last single byte is the upper half of a word. -/
def words : List Int → Int
  | [] => 0
  | [a] => a * 256
  | a :: b :: r => a * 256 + b + words r
/-- What folding makes of a sum. -/
def fold (t : Int) : Int := if t = 0 then 0 else (t - 1) % 65535 + 1
def sumOf (zs : List Int) : Int := 65535 - fold (words zs)

def Bytes (zs : List Int) : Prop := ∀ z ∈ zs, 0 ≤ z ∧ z < 256

theorem words_app : ∀ (n : Nat) (xs ys : List Int), xs.length = 2 * n → words (xs ++ ys) = words xs + words ys
  | 0, xs, ys, h => by
    have : xs = [] := List.length_eq_zero_iff.1 (by omega)
    subst this; simp [words]
  | n + 1, a :: b :: r, ys, h => by
    have := words_app n r ys (by simp at h; omega)
    simp only [List.cons_append, words, this]; omega
  | n + 1, [], ys, h => by simp at h
  | n + 1, [a], ys, h => by simp at h; omega
theorem words_two (zs : List Int) (j : Nat) (h : 2 * j + 1 < zs.length) : words (zs.take (2 * j + 2)) = words (zs.take (2 * j)) + (zs.getD (2 * j) 0 * 256 + zs.getD (2 * j + 1) 0) := by
  have one : ∀ k, k < zs.length → zs.take (k + 1) = zs.take k ++ [zs.getD k 0] := fun k hk => by
    rw [List.take_add_one, List.getElem?_eq_getElem hk, List.getD_eq_getElem?_getD, List.getElem?_eq_getElem hk]; rfl
  have e : zs.take (2 * j + 2) = zs.take (2 * j) ++ [zs.getD (2 * j) 0, zs.getD (2 * j + 1) 0] := by
    rw [one (2 * j + 1) h, one (2 * j) (by omega), List.append_assoc]; rfl
  rw [e, words_app j _ _ (by simp; omega)]
  simp [words]
theorem words_one (zs : List Int) (j : Nat) (h : 2 * j + 1 = zs.length) : words zs = words (zs.take (2 * j)) + zs.getD (2 * j) 0 * 256 := by
  have e : zs = zs.take (2 * j) ++ [zs.getD (2 * j) 0] := by
    rw [List.getD_eq_getElem?_getD, List.getElem?_eq_getElem (by omega : 2 * j < zs.length)]
    have := List.take_append_drop (2 * j) zs
    rw [List.drop_eq_getElem_cons (by omega), List.drop_of_length_le (by omega)] at this
    exact this.symm
  have h2 := words_app j (zs.take (2 * j)) [zs.getD (2 * j) 0] (by simp; omega)
  rw [← e] at h2
  rw [h2]; simp [words]
theorem words_bd : ∀ (zs : List Int), Bytes zs → 0 ≤ words zs ∧ words zs ≤ 65535 * zs.length
  | [], _ => by simp [words]
  | [a], h => by
    have := h a (by simp)
    simp [words]; omega
  | a :: b :: r, h => by
    have h1 := h a (by simp)
    have h2 := h b (by simp)
    have h3 := words_bd r (fun z hz => h z (by simp [hz]))
    simp only [words, List.length_cons]
    omega
theorem bytes_take {zs : List Int} (h : Bytes zs) (k : Nat) : Bytes (zs.take k) := fun z hz => h z (List.mem_of_mem_take hz)
theorem bytes_at {zs : List Int} (h : Bytes zs) (k : Nat) : 0 ≤ zs.getD k 0 ∧ zs.getD k 0 < 256 := by
  rw [List.getD_eq_getElem?_getD]
  rcases Nat.lt_or_ge k zs.length with hk | hk
  · rw [List.getElem?_eq_getElem hk]; exact h _ (List.getElem_mem hk)
  · rw [List.getElem?_eq_none hk]; exact ⟨Int.le_refl _, by decide⟩

theorem fold_step (t : Int) (h : 65535 < t) : fold (t / 65536 + t % 65536) = fold t := by
  unfold fold
  rw [if_neg (by omega), if_neg (by omega)]
  omega
theorem fold_done (t : Int) (h0 : 0 ≤ t) (h : t ≤ 65535) : fold t = t := by
  unfold fold
  by_cases e : t = 0
  · rw [if_pos e, e]
  · rw [if_neg e, Int.emod_eq_of_lt (by omega) (by omega)]; omega
theorem fold_bd (t : Int) : 0 ≤ fold t ∧ fold t ≤ 65535 := by
  unfold fold
  by_cases e : t = 0
  · rw [if_pos e]; omega
  · rw [if_neg e]; omega

/-- The words with their own sum behind them fold to 65535. -/
theorem self (t : Int) (h0 : 0 ≤ t) : 65535 - fold (t + (65535 - fold t)) = 0 := by
  unfold fold
  by_cases e : t = 0
  · rw [if_pos e, e]; decide
  · rw [if_neg e]
    rw [if_neg (by omega)]
    omega
theorem self_sum (zs : List Int) (n : Nat) (h : Bytes zs) (hn : zs.length = 2 * n) : sumOf (zs ++ [sumOf zs / 256 % 256, sumOf zs % 256]) = 0 := by
  have hb := words_bd zs h
  have hf := fold_bd (words zs)
  have e : words [sumOf zs / 256 % 256, sumOf zs % 256] = 65535 - fold (words zs) := by
    simp only [words, sumOf]; omega
  show 65535 - fold (words (zs ++ _)) = 0
  rw [words_app n zs _ hn, e]
  exact self _ hb.1

/-- Two bytes put in. -/
def put2 (zs : List Int) (i : Nat) (a b : Int) : List Int := (zs.set i a).set (i + 1) b
theorem words_put2 : ∀ (j : Nat) (zs : List Int) (a b : Int), 2 * j + 1 < zs.length → words (put2 zs (2 * j) a b) = words zs - (zs.getD (2 * j) 0 * 256 + zs.getD (2 * j + 1) 0) + (a * 256 + b)
  | 0, x :: y :: r, a, b, _ => by simp [put2, words]; omega
  | 0, [], a, b, h => by simp at h
  | 0, [x], a, b, h => by simp at h
  | j + 1, [], a, b, h => by simp at h
  | j + 1, [x], a, b, h => by simp at h
  | j + 1, x :: y :: r, a, b, h => by
    have ih := words_put2 j r a b (by simp at h; omega)
    have e : put2 (x :: y :: r) (2 * (j + 1)) a b = x :: y :: put2 r (2 * j) a b := by
      unfold put2
      rw [show 2 * (j + 1) = 2 * j + 1 + 1 by omega]; rfl
    rw [e]
    simp only [words]
    rw [ih, show 2 * (j + 1) = 2 * j + 1 + 1 by omega]
    simp only [List.getD_cons_succ]
    omega
/-- Exchanging two words leaves the sum. -/
theorem words_swap (zs : List Int) (i k : Nat) (hi : 2 * i + 1 < zs.length) (hk : 2 * k + 1 < zs.length) :
    words (put2 (put2 zs (2 * i) (zs.getD (2 * k) 0) (zs.getD (2 * k + 1) 0)) (2 * k) (zs.getD (2 * i) 0) (zs.getD (2 * i + 1) 0)) = words zs := by
  have hl : (put2 zs (2 * i) (zs.getD (2 * k) 0) (zs.getD (2 * k + 1) 0)).length = zs.length := by simp [put2]
  rw [words_put2 k _ _ _ (by omega), words_put2 i _ _ _ hi]
  by_cases e : i = k
  · subst e
    have h1 : (put2 zs (2 * i) (zs.getD (2 * i) 0) (zs.getD (2 * i + 1) 0)).getD (2 * i) 0 = zs.getD (2 * i) 0 := by
      unfold put2
      simp [List.getD_eq_getElem?_getD, show 2 * i < zs.length by omega]
    have h2 : (put2 zs (2 * i) (zs.getD (2 * i) 0) (zs.getD (2 * i + 1) 0)).getD (2 * i + 1) 0 = zs.getD (2 * i + 1) 0 := by
      unfold put2
      simp [List.getD_eq_getElem?_getD, hi]
    rw [h1, h2]; omega
  · have h1 : (put2 zs (2 * i) (zs.getD (2 * k) 0) (zs.getD (2 * k + 1) 0)).getD (2 * k) 0 = zs.getD (2 * k) 0 := by
      unfold put2
      rw [List.getD_eq_getElem?_getD, List.getElem?_set_ne (by omega), List.getElem?_set_ne (by omega), List.getD_eq_getElem?_getD]
    have h2 : (put2 zs (2 * i) (zs.getD (2 * k) 0) (zs.getD (2 * k + 1) 0)).getD (2 * k + 1) 0 = zs.getD (2 * k + 1) 0 := by
      unfold put2
      rw [List.getD_eq_getElem?_getD, List.getElem?_set_ne (by omega), List.getElem?_set_ne (by omega), List.getD_eq_getElem?_getD]
    rw [h1, h2]; omega
end Go.Proofs.YtmbmodeiikhnkaaGreatDoor
