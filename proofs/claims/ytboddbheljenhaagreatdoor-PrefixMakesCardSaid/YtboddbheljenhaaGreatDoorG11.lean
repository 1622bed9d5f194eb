/-
  Layer 2: the first and the last address of a prefix, by one number. No walk.
-/
import Derived.Test.YtboddbheljenhaaGreatDoorAdz
import Derived.Test.YtboddbheljenhaaGreatDoorRmk
namespace Go.Proofs.YtboddbheljenhaaGreatDoor
open Go.RowKit
/-- An address of a family as one number. -/
def nA (hi lo : Int) : Int := hi * 18446744073709551616 + lo
theorem nA_key (v : Bool) (hi lo hi' lo' : Int) : (keyA v hi lo < keyA v hi' lo' ↔ nA hi lo < nA hi' lo') ∧ (keyA v hi lo = keyA v hi' lo' ↔ nA hi lo = nA hi' lo') := by
  unfold keyA nA
  constructor <;> constructor <;> intro h <;> omega
theorem fst_nA {v : Bool} {hi lo : Int} {N : Nat} (ao : AOk v hi lo) (hN : N ≤ wiN v) : nA (fstH v hi N) (fstL v lo N) = nA hi lo - nA hi lo % 2 ^ (wiN v - N) := by
  obtain ⟨h0, h1, g0, g1, h4⟩ := ao
  obtain ⟨H, rfl⟩ := Int.eq_ofNat_of_zero_le h0
  obtain ⟨L, rfl⟩ := Int.eq_ofNat_of_zero_le g0
  unfold fstH fstL nA
  rw [cl_of hN]
  cases v with
  | true =>
    have hN' : N ≤ 128 := hN
    obtain ⟨e1, e2⟩ := cut_six H L N (by omega) hN'
    rw [← e1, ← e2]
    have hm := Nat.mod_le (H * 18446744073709551616 + L) (2 ^ (128 - N))
    have e : wiN true - N = 128 - N := rfl
    rw [e, ← cast_pow]
    have e3 : (H : Int) * 18446744073709551616 + (L : Int) = ((H * 18446744073709551616 + L : Nat) : Int) := by omega
    rw [e3, ← Int.natCast_emod, ← Int.ofNat_sub hm]
    generalize H * 18446744073709551616 + L - (H * 18446744073709551616 + L) % 2 ^ (128 - N) = y
    omega
  | false =>
    obtain ⟨hz, -⟩ := h4 rfl
    obtain rfl : H = 0 := by omega
    have e : wiN false - N = 32 - N := rfl
    rw [e]
    unfold cutZ klN
    simp
theorem two_split (N : Nat) (h : N < 64) : ((2 : Int) ^ (64 - N) - 1) * 18446744073709551616 + (2 ^ 64 - 1) = 2 ^ (128 - N) - 1 := by
  have e : (2 : Int) ^ (128 - N) = 2 ^ (64 - N) * 2 ^ 64 := by rw [← Int.pow_add]; congr 1; omega
  have e64 : (2 : Int) ^ 64 = 18446744073709551616 := by decide
  rw [e, e64, Int.sub_mul]
  omega
theorem lst_nA {v : Bool} {hi lo : Int} {N : Nat} (ao : AOk v hi lo) (hN : N ≤ wiN v) : nA (lstH v hi N) (lstL v lo N) = nA (fstH v hi N) (fstL v lo N) + (2 ^ (wiN v - N) - 1) := by
  unfold lstH lstL fstH fstL nA filZ cutZ
  rw [cl_of hN]
  cases v with
  | true =>
    have e : wiN true - N = 128 - N := rfl
    have hN' : N ≤ 128 := hN
    rw [e]
    unfold khN klN
    rw [if_pos rfl, if_pos rfl]
    by_cases c : N < 64
    · rw [Nat.min_eq_left (by omega), ← two_split N c]
      omega
    · rw [show 64 - N = 0 by omega, Nat.min_eq_right (by omega)]
      simp
      omega
  | false =>
    have e : wiN false - N = 32 - N := rfl
    rw [e]
    unfold khN klN
    simp
    omega
/-- The last address of a valid prefix is valid. -/
theorem aok_last {v : Bool} {hi lo : Int} {N : Nat} (ao : AOk v hi lo) (hN : N ≤ wiN v) : AOk v (lstH v hi N) (lstL v lo N) := by
  obtain ⟨h0, h1, h2, h3, h4⟩ := ao
  have a := lstH_rng (v := v) (N : Int) h0 h1
  have b := lstL_rng (v := v) (N : Int) h2 h3
  refine ⟨a.1, a.2, b.1, b.2, fun hv => ?_⟩
  obtain ⟨rfl, h5⟩ := h4 hv
  subst hv
  have hN' : N ≤ 32 := hN
  unfold lstH lstL
  rw [cl_of hN]
  refine ⟨by unfold filZ khN; simp, ?_⟩
  have := (filZ_bd (x := lo) (klN false N) 32 h2 (by omega) (by unfold klN; simp)).2
  omega
/-- An address is in a prefix exactly if it stands between its first and its last one. -/
theorem in_nA {v : Bool} {hi lo hx lx : Int} {N : Nat} (ap : AOk v hi lo) (hN : N ≤ wiN v) (eh : fstH v hi N = hi) (el : fstL v lo N = lo) (ax : AOk v hx lx) :
    nA (fstH v hx N) (fstL v lx N) = nA hi lo ↔ nA hi lo ≤ nA hx lx ∧ nA hx lx ≤ nA (lstH v hi N) (lstL v lo N) := by
  have f := fst_nA ap hN
  have g := fst_nA ax hN
  have l := lst_nA ap hN
  rw [eh, el] at f l
  rw [l, g]
  have hp := two_pos (wiN v - N)
  generalize (2 : Int) ^ (wiN v - N) = p at *
  generalize nA hi lo = A at *
  generalize nA hx lx = X at *
  have a0 : A % p = 0 := by omega
  have x0 := Int.emod_nonneg X (show p ≠ 0 by omega)
  have x1 := Int.emod_lt_of_pos X hp
  constructor
  · intro h; omega
  · rintro ⟨h1, h2⟩
    obtain ⟨d, hd⟩ : ∃ d, X - A = d := ⟨_, rfl⟩
    have e : X % p = d := by
      have : X = A + d := by omega
      rw [this, Int.add_emod, a0, Int.zero_add, Int.emod_emod_of_dvd _ (Int.dvd_refl p)]
      exact Int.emod_eq_of_lt (by omega) (by omega)
    omega
end Go.Proofs.YtboddbheljenhaaGreatDoor
namespace Go.Proofs.YtboddbheljenhaaGreatDoor
open Go.RowKit
theorem rvalid_ok {v : Bool} {hi lo : Int} (ao : AOk v hi lo) : Spec Tryz.prog 44 [.agg [.val (.bool v), .val (.int .u64 hi), .val (.int .u64 lo)]] [] (.val (.bool true)) [] := by
  cases v with
  | true => exact rvalid_v6 hi lo
  | false =>
    have r := rvalid_v4 hi lo
    have e := okA_of ao
    unfold okA' at e
    rw [Bool.false_or] at e
    rw [e] at r
    exact r
set_option maxHeartbeats 4000000 in
set_option maxRecDepth 100000 in
theorem rwidth_spec (v : Bool) (hi lo : Int) : Spec Tryz.prog 45 [.agg [.val (.bool v), .val (.int .u64 hi), .val (.int .u64 lo)]] [] (.val (.int .i64 (wiN v : Int))) [] := by
  cases v <;>
  · refine spec_of_awp Tryz.func45 rfl (Nat.le_of_ble_eq_true rfl) fun ini => ?_
    simp only [Tryz.ntmps45]
    (repeat (first | refine awp_reg_seq rfl fun k => ?_ | refine awp_seq ?_ | refine awp_true rfl ?_ | refine awp_false rfl ?_ | refine awp_isF rfl (by assumption) ?_ | refine awp_skip (?_ : Awp _ _ _ _ _ _) | (refine awp_ret ?_; (apply ends_pure ?_ ?_ ?_ ?_ ?_ (.inl rfl); rotate_left 1; (· first | exact res_one rfl rfl | exact res_two rfl rfl rfl | exact res_none rfl | exact res_three rfl rfl rfl rfl | exact res_cell rfl rfl rfl rfl rfl | exact res_cell2 rfl rfl rfl rfl rfl rfl | exact res3 rfl (rv_cell rfl rfl rfl rfl) (rv_tmp rfl) (rv_tmp rfl) | exact res3 rfl (rv_cell rfl rfl rfl rfl) (rv_cell rfl rfl rfl rfl) (rv_cell rfl rfl rfl rfl)); (· first | rfl | ((conv => (lhs; whnf)); first | rfl | (simp; done))); (· first | rfl | (simp; done) | (simp [AVal.pure, AVal.pures, AObj.pure]; done)); (· rfl); (· rfl))) | (apply runk0 rfl rfl (opok_assign rfl ?_) ?_; rotate_left 1; (· (conv => (lhs; whnf)))) | (apply runk_fa rfl rfl rfl ?_ rfl rfl ?_ ?_ ?_ ?_; rotate_left 5; (· (conv => (lhs; whnf))); (· (unfold sizeIs; conv => (lhs; whnf; arg 1; whnf))); (· rfl); (· (conv => (lhs; whnf)))) | (first | (apply runk0 rfl rfl (opok_load rfl ?_ ?_ ?_ ?_) ?_; rotate_left 5; (· (conv => (lhs; whnf))); (· (conv => (lhs; whnf; arg 1; whnf; arg 2; whnf))); (· rfl); (· (conv => (lhs; whnf; arg 1; whnf)))) | (apply runk0 rfl rfl (opok_loadR rfl ?_ ?_ ?_) ?_; rotate_left 2; (· (conv => (lhs; whnf))); (· rfl); (· (conv => (lhs; whnf; arg 1; whnf))))) | (apply runk_box rfl rfl rfl ?_ ?_ ?_ ?_; rotate_left 2; (· (conv => (lhs; whnf))); (· rfl); (· (conv => (lhs; whnf)))) | refine runk_end (by kernel_rfl) ?_))
theorem nA_nat {v : Bool} {hi lo : Int} (ao : AOk v hi lo) : ∃ Y : Nat, (Y : Int) = nA hi lo := by
  obtain ⟨h0, h1, g0, g1, h4⟩ := ao
  unfold nA
  exact ⟨(hi * 18446744073709551616 + lo).toNat, by omega⟩
theorem from_lend {m : Nat} {Y : Nat} {v : Bool} {hi lo : Int} (h : fromZ (beB m Y) = (v, hi, lo)) (he : fromE (beB m Y) = 0) : Spec Tryz.prog 47 [.own 0 0 m] [(0, some (0, .row 5 1 (ints .u8 (beB m Y))))] (.tuple [.agg [.val (.bool v), .val (.int .u64 hi), .val (.int .u64 lo)], .val (.int .i64 0)]) [(0, some (0, .row 5 1 (ints .u8 (beB m Y))))] := by
  have rf := rfrom_spec (beB m Y) (bytes_beB _ _)
  rw [h, he] at rf
  dsimp only at rf
  have key : ∀ len, len = (ints .u8 (beB m Y)).length → Spec Tryz.prog 47 [.own 0 0 len] [(0, some (0, .row 5 1 (ints .u8 (beB m Y))))] (.tuple [.agg [.val (.bool v), .val (.int .u64 hi), .val (.int .u64 lo)], .val (.int .i64 0)]) [(0, some (0, .row 5 1 (ints .u8 (beB m Y))))] := by
    rintro len rfl
    refine spec_lendT (args := [.ro (ints .u8 (beB m Y))]) (timeless_tuple fun x hx => ?_) rfl (fun i y hi => ?_) rf
    · simp only [List.mem_cons, List.not_mem_nil, or_false] at hx
      rcases hx with rfl | rfl
      · exact timeless_agg fun y hy => by
          simp only [List.mem_cons, List.not_mem_nil, or_false] at hy
          rcases hy with rfl | rfl | rfl <;> exact timeless_val _
      · exact timeless_val _
    · match i, hi with
      | 0, hi => cases hi; exact ⟨_, rfl, .one (.own _ rfl)⟩
  exact key m (by rw [length_ints, beB_length])
/-- An address as bytes of one number, and back. -/
theorem addr_by {v : Bool} {hi lo : Int} (ao : AOk v hi lo) : ∃ m X : Nat, 0 < m ∧ m ≤ 16 ∧ wiN v = 8 * m ∧ X < 2 ^ (8 * m) ∧ (X : Int) = nA hi lo ∧
    Spec Tryz.prog 46 [.agg [.val (.bool v), .val (.int .u64 hi), .val (.int .u64 lo)]] [] (.own 1000 0 m) [(1000, some (0, .row 5 1 (ints .u8 (beB m X))))] ∧
    ∀ (Y : Nat) (h' l' : Int), AOk v h' l' → (Y : Int) = nA h' l' → Spec Tryz.prog 47 [.own 0 0 m] [(0, some (0, .row 5 1 (ints .u8 (beB m Y))))] (.tuple [.agg [.val (.bool v), .val (.int .u64 h'), .val (.int .u64 l')], .val (.int .i64 0)]) [(0, some (0, .row 5 1 (ints .u8 (beB m Y))))] := by
  obtain ⟨h0, h1, g0, g1, h4⟩ := ao
  obtain ⟨H, rfl⟩ := Int.eq_ofNat_of_zero_le h0
  obtain ⟨L, rfl⟩ := Int.eq_ofNat_of_zero_le g0
  have e16 : (2 : Nat) ^ (8 * 16) = 18446744073709551616 * 18446744073709551616 := by decide
  have e4 : (2 : Nat) ^ (8 * 4) = 4294967296 := by decide
  cases v with
  | true =>
    refine ⟨16, H * 18446744073709551616 + L, by decide, by decide, rfl, by omega, by unfold nA; omega, ?_, fun Y h' l' ao' hY => ?_⟩
    · have b := rbytes_v6 (H : Int) (L : Int)
      rw [a16_beB H L (by omega)] at b
      exact b
    · obtain ⟨a0, a1, a2, a3, -⟩ := ao'
      unfold nA at hY
      have f := from_beB16 Y (by omega)
      refine from_lend ?_ f.2
      rw [f.1]
      congr 2
      · omega
      · omega
  | false =>
    obtain ⟨hz, hl⟩ := h4 rfl
    obtain rfl : H = 0 := by omega
    refine ⟨4, L, by decide, by decide, rfl, by omega, by unfold nA; omega, ?_, fun Y h' l' ao' hY => ?_⟩
    · have b := rbytes_v4 (L : Int) (by omega)
      rw [by4_beB] at b
      exact b
    · obtain ⟨rfl, a5⟩ := ao'.four rfl
      have a2 := ao'.lo0
      unfold nA at hY
      have f := from_beB4 Y (by omega)
      refine from_lend ?_ f.2
      rw [f.1]
      congr 2
      omega
/-- A bit of an address, by its one number. -/
theorem bit_nA {v : Bool} {hi lo : Int} (ao : AOk v hi lo) {i : Nat} (h : i < wiN v) : bitA v hi lo i = nA hi lo / 2 ^ (wiN v - 1 - i) % 2 := by
  obtain ⟨h0, h1, g0, g1, h4⟩ := ao
  have e64 : (2 : Int) ^ 64 = 18446744073709551616 := by decide
  unfold bitA bitZ nA
  cases v with
  | true =>
    have h' : i < 128 := h
    rw [if_pos rfl, show wiN true - 1 - i = 127 - i from rfl]
    by_cases c : i < 64
    · rw [if_pos c, show 127 - i = 64 + (63 - i) by omega, Int.pow_add, e64]
      rw [← Int.ediv_ediv_of_nonneg (by decide)]
      congr 2
      omega
    · rw [if_neg c]
      have hp := two_pos (127 - i)
      have e : (18446744073709551616 : Int) = 2 ^ (127 - i) * (2 * 2 ^ (i - 64)) := by
        rw [← e64, ← Int.mul_assoc, Int.mul_comm _ 2, Int.mul_assoc, ← Int.pow_add, show (2 : Int) * 2 ^ (127 - i + (i - 64)) = 2 ^ (127 - i + (i - 64) + 1) by rw [Int.pow_succ, Int.mul_comm]]
        congr 1
        omega
      have e2 : hi * 18446744073709551616 + lo = lo + 2 ^ (127 - i) * (2 * 2 ^ (i - 64) * hi) := by
        rw [e]
        generalize (2 : Int) ^ (127 - i) = a
        generalize (2 : Int) * 2 ^ (i - 64) = b
        rw [Int.mul_comm hi, Int.mul_assoc, Int.add_comm]
      rw [e2, Int.add_mul_ediv_left _ _ (by omega), Int.mul_assoc, Int.add_mul_emod_self_left]
  | false =>
    obtain ⟨rfl, -⟩ := h4 rfl
    rw [if_neg (by decide), show wiN false - 1 - i = 31 - i from rfl]
    simp
end Go.Proofs.YtboddbheljenhaaGreatDoor
