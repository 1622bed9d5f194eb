/-
  Layer 2: the bytes of an address as one number, and back. No walk.
-/
import Derived.Test.YtboddbheljenhaaGreatDoorG11
import Derived.Test.YtboddbheljenhaaGreatDoorBz
import Derived.Test.YtboddbheljenhaaGreatDoorG17
import Derived.Test.YtboddbheljenhaaGreatDoorG05
namespace Go.Proofs.YtboddbheljenhaaGreatDoor
open Go.RowKit
theorem by4_beB (x : Nat) : by4 (x : Int) 0 = beB 4 x := by
  simp [by4, beB, List.range, List.range.loop]
theorem a16_beB (h l : Nat) (hl : l < 18446744073709551616) : a16 (h : Int) (l : Int) = beB 16 (h * 18446744073709551616 + l) := by
  simp [a16, by8, beB, List.range, List.range.loop]
  omega
theorem from_beB4 (y : Nat) (h : y < 4294967296) : fromZ (beB 4 y) = (false, 0, (y : Int)) ∧ fromE (beB 4 y) = 0 := by
  refine ⟨?_, by unfold fromE; rw [beB_length]; rfl⟩
  unfold fromZ
  rw [beB_length, if_pos rfl]
  congr 2
  simp [beB, numZ, List.range, List.range.loop]
  omega
theorem from_beB16 (y : Nat) (h : y < 340282366920938463463374607431768211456) : fromZ (beB 16 y) = (true, ((y / 18446744073709551616 : Nat) : Int), ((y % 18446744073709551616 : Nat) : Int)) ∧ fromE (beB 16 y) = 0 := by
  refine ⟨?_, by unfold fromE; rw [beB_length]; rfl⟩
  unfold fromZ
  rw [beB_length, if_neg (by decide), if_pos rfl]
  congr 1
  congr 1
  · simp [beB, numZ, List.range, List.range.loop]
    omega
  · simp [beB, numZ, List.range, List.range.loop]
    omega
theorem bytes_beB (m y : Nat) : Bytes (beB m y) := fun z hz => by
  obtain ⟨j, _, rfl⟩ := List.mem_map.1 hz
  omega
theorem cut_six (h l N : Nat) (hl : l < 18446744073709551616) (hN : N ≤ 128) : (((h * 18446744073709551616 + l - (h * 18446744073709551616 + l) % 2 ^ (128 - N)) / 18446744073709551616 : Nat) : Int) = cutZ (h : Int) (khN true N) ∧ (((h * 18446744073709551616 + l - (h * 18446744073709551616 + l) % 2 ^ (128 - N)) % 18446744073709551616 : Nat) : Int) = cutZ (l : Int) (klN true N) := by
  rw [cutZ_nat, cutZ_nat]
  unfold khN klN
  rw [if_pos rfl, if_pos rfl]
  have e64 : (2 : Nat) ^ 64 = 18446744073709551616 := by decide
  by_cases c : N < 64
  · rw [Nat.min_eq_left (by omega), e64]
    have hp : (2 : Nat) ^ (128 - N) = 18446744073709551616 * 2 ^ (64 - N) := by rw [← e64, ← Nat.pow_add]; congr 1; omega
    have hm : (h * 18446744073709551616 + l) % 2 ^ (128 - N) = 18446744073709551616 * (h % 2 ^ (64 - N)) + l := by
      rw [hp, Nat.mod_mul]
      have e1 : (h * 18446744073709551616 + l) % 18446744073709551616 = l := by omega
      have e2 : (h * 18446744073709551616 + l) / 18446744073709551616 = h := by omega
      rw [e1, e2]
      omega
    have hh := Nat.mod_le h (2 ^ (64 - N))
    rw [hm]
    generalize h % 2 ^ (64 - N) = r at *
    constructor
    · congr 1; omega
    · congr 1; omega
  · rw [show 64 - N = 0 by omega, Nat.min_eq_right (by omega), Nat.pow_zero, Nat.mod_one, Nat.sub_zero]
    have hd : (18446744073709551616 : Nat) = 2 ^ (128 - N) * 2 ^ (64 - (128 - N)) := by rw [← e64, ← Nat.pow_add]; congr 1; omega
    have hm : (h * 18446744073709551616 + l) % 2 ^ (128 - N) = l % 2 ^ (128 - N) := by
      rw [hd, show h * (2 ^ (128 - N) * 2 ^ (64 - (128 - N))) = 2 ^ (128 - N) * (h * 2 ^ (64 - (128 - N))) by rw [← Nat.mul_assoc, Nat.mul_comm h, Nat.mul_assoc], Nat.mul_add_mod]
    have hl2 := Nat.mod_le l (2 ^ (128 - N))
    rw [hm]
    generalize l % 2 ^ (128 - N) = r at *
    constructor
    · congr 1; omega
    · congr 1; omega
theorem clr_step {X k c y : Nat} (hc : c + 1 ≤ k) (e : y = clr X k (c + 1)) : ∀ t, (clr X k c).testBit t = (y.testBit t && !decide (t = c)) := fun t => by
  rw [e, clr_bit (by omega), clr_bit hc]
  by_cases h1 : t = c
  · subst h1
    simp [show t < k by omega]
  · have : decide (c ≤ t) = decide (c + 1 ≤ t) := by rw [decide_eq_decide]; omega
    simp [h1, this]
theorem mul_clr {X k c : Nat} (h : c ≤ k) (m : Nat) (hk : k ≤ m) (hX : X < 2 ^ m) : clr X k c < 2 ^ m := by
  apply Nat.lt_pow_two_of_testBit
  intro t ht
  rw [clr_bit h]
  have : X.testBit t = false := Nat.testBit_lt_two_pow (Nat.lt_of_lt_of_le hX (Nat.pow_le_pow_right (by decide) ht))
  rw [this]
  rfl
end Go.Proofs.YtboddbheljenhaaGreatDoor
namespace Go.Proofs.YtboddbheljenhaaGreatDoor
open Go.RowKit
theorem addr_num {v : Bool} {hi lo : Int} (ao : AOk v hi lo) : ∃ m X : Nat, 0 < m ∧ m ≤ 16 ∧ wiN v = 8 * m ∧ X < 2 ^ (8 * m) ∧
    Spec Tryz.prog 46 [.agg [.val (.bool v), .val (.int .u64 hi), .val (.int .u64 lo)]] [] (.own 1000 0 m) [(1000, some (0, .row 5 1 (ints .u8 (beB m X))))] ∧
    ∀ N, N ≤ wiN v → fromZ (beB m (clr X (8 * m - N) 0)) = (v, fstH v hi N, fstL v lo N) ∧ fromE (beB m (clr X (8 * m - N) 0)) = 0 := by
  obtain ⟨h0, h1, g0, g1, h4⟩ := ao
  obtain ⟨H, rfl⟩ := Int.eq_ofNat_of_zero_le h0
  obtain ⟨L, rfl⟩ := Int.eq_ofNat_of_zero_le g0
  cases v with
  | true =>
    have hX : H * 18446744073709551616 + L < 2 ^ (8 * 16) := by
      have : (2 : Nat) ^ (8 * 16) = 18446744073709551616 * 18446744073709551616 := by decide
      omega
    refine ⟨16, H * 18446744073709551616 + L, by decide, by decide, rfl, hX, ?_, fun N hN => ?_⟩
    · have b := rbytes_v6 (H : Int) (L : Int)
      rw [a16_beB H L (by omega)] at b
      exact b
    · have hN' : N ≤ 128 := hN
      have f := from_beB16 (clr (H * 18446744073709551616 + L) (8 * 16 - N) 0) (by
        have := mul_clr (X := H * 18446744073709551616 + L) (c := 0) (k := 8 * 16 - N) (Nat.zero_le _) (8 * 16) (by omega) hX
        have e : (2 : Nat) ^ (8 * 16) = 340282366920938463463374607431768211456 := by decide
        omega)
      refine ⟨?_, f.2⟩
      rw [f.1, clr_zero]
      obtain ⟨e1, e2⟩ := cut_six H L N (by omega) hN'
      unfold fstH fstL
      rw [cl_of hN, ← e1, ← e2]
  | false =>
    obtain ⟨hz, hl⟩ := h4 rfl
    obtain rfl : H = 0 := by omega
    have hX : L < 2 ^ (8 * 4) := by
      have : (2 : Nat) ^ (8 * 4) = 4294967296 := by decide
      omega
    refine ⟨4, L, by decide, by decide, rfl, hX, ?_, fun N hN => ?_⟩
    · have b := rbytes_v4 (L : Int) (by omega)
      rw [by4_beB] at b
      exact b
    · have hN' : N ≤ 32 := hN
      have f := from_beB4 (clr L (8 * 4 - N) 0) (by
        have := mul_clr (X := L) (c := 0) (k := 8 * 4 - N) (Nat.zero_le _) (8 * 4) (by omega) hX
        have e : (2 : Nat) ^ (8 * 4) = 4294967296 := by decide
        omega)
      refine ⟨?_, f.2⟩
      rw [f.1, clr_zero]
      unfold fstH fstL
      have e1 : cutZ ((0 : Nat) : Int) (khN false N) = 0 := by unfold cutZ; simp
      rw [cl_of hN, e1, cutZ_nat]
      rfl
theorem shr128 : ∀ R, R < 8 → (128 : Int) / 2 ^ R = ((2 ^ (7 - R) : Nat) : Int) := by decide
set_option maxHeartbeats 16000000 in
set_option maxRecDepth 100000 in
theorem rmake_ok {v : Bool} {hi lo : Int} (N : Nat) (ao : AOk v hi lo) (hN : N ≤ wiN v) : Spec Tryz.prog 16 [.agg [.val (.bool v), .val (.int .u64 hi), .val (.int .u64 lo)], .val (.int .i64 (N : Int))] [] (.tuple [.agg [.val (.bool v), .val (.int .u64 (fstH v hi N)), .val (.int .u64 (fstL v lo N)), .val (.int .i64 (N : Int))], .val (.int .i64 0)]) [] := by
  have va : Spec Tryz.prog 44 [.agg [.val (.bool v), .val (.int .u64 hi), .val (.int .u64 lo)]] [] (.val (.bool true)) [] := by
    cases v with
    | true => exact rvalid_v6 hi lo
    | false =>
      have r := rvalid_v4 hi lo
      have e := okA_of ao
      unfold okA' at e
      rw [Bool.false_or] at e
      rw [e] at r
      exact r
  have w : Spec Tryz.prog 45 [.agg [.val (.bool v), .val (.int .u64 hi), .val (.int .u64 lo)]] [] (.val (.int .i64 (wiN v : Int))) [] := by
    cases v <;>
    · refine spec_of_awp Tryz.func45 rfl (Nat.le_of_ble_eq_true rfl) fun ini => ?_
      simp only [Tryz.ntmps45]
      (repeat (first | refine awp_reg_seq rfl fun k => ?_ | refine awp_seq ?_ | refine awp_true rfl ?_ | refine awp_false rfl ?_ | refine awp_skip (?_ : Awp _ _ _ _ _ _) | (refine awp_ret ?_; (apply ends_pure ?_ ?_ ?_ ?_ ?_ (.inl rfl); rotate_left 1; (· (exact res_one rfl rfl)); (· rfl); (· rfl); (· rfl); (· rfl))) | (apply runk0 rfl rfl (opok_assign rfl ?_) ?_; rotate_left 1; (· (conv => (lhs; whnf)))) | (apply runk_fa rfl rfl rfl ?_ rfl rfl ?_ ?_ ?_ ?_; rotate_left 5; (· (conv => (lhs; whnf))); (· (unfold sizeIs; conv => (lhs; whnf; arg 1; whnf))); (· rfl); (· (conv => (lhs; whnf)))) | (((apply runk0 rfl rfl (opok_load rfl ?_ ?_ ?_ ?_) ?_; rotate_left 5; (· (conv => (lhs; whnf))); (· (conv => (lhs; whnf; arg 1; whnf; arg 2; whnf))); (· rfl); (· (conv => (lhs; whnf; arg 1; whnf)))))) | (apply runk_box rfl rfl rfl ?_ ?_ ?_ ?_; rotate_left 2; (· (conv => (lhs; whnf))); (· rfl); (· (conv => (lhs; whnf)))) | refine runk_end (by kernel_rfl) ?_))
  obtain ⟨m, X, hm0, hm16, hwm, hX, rb, hfin⟩ := addr_num ao
  obtain ⟨f1, f2⟩ := hfin N hN
  have rf := rfrom_spec (beB m (clr X (8 * m - N) 0)) (bytes_beB _ _)
  rw [f1, f2] at rf
  dsimp only at rf
  have fl : Spec Tryz.prog 47 [.own 0 0 m] [(0, some (0, .row 5 1 (ints .u8 (beB m (clr X (8 * m - N) 0)))))] (.tuple [.agg [.val (.bool v), .val (.int .u64 (fstH v hi N)), .val (.int .u64 (fstL v lo N))], .val (.int .i64 0)]) [(0, some (0, .row 5 1 (ints .u8 (beB m (clr X (8 * m - N) 0)))))] := by
    have key : ∀ len, len = (ints .u8 (beB m (clr X (8 * m - N) 0))).length → Spec Tryz.prog 47 [.own 0 0 len] [(0, some (0, .row 5 1 (ints .u8 (beB m (clr X (8 * m - N) 0)))))] (.tuple [.agg [.val (.bool v), .val (.int .u64 (fstH v hi N)), .val (.int .u64 (fstL v lo N))], .val (.int .i64 0)]) [(0, some (0, .row 5 1 (ints .u8 (beB m (clr X (8 * m - N) 0)))))] := by
      rintro len rfl
      refine spec_lendT (args := [.ro (ints .u8 (beB m (clr X (8 * m - N) 0)))]) (timeless_tuple fun x hx => ?_) rfl (fun i y hi => ?_) rf
      · simp only [List.mem_cons, List.not_mem_nil, or_false] at hx
        rcases hx with rfl | rfl
        · exact timeless_agg fun y hy => by
            simp only [List.mem_cons, List.not_mem_nil, or_false] at hy
            rcases hy with rfl | rfl | rfl <;> exact timeless_val _
        · exact timeless_val _
      · match i, hi with
        | 0, hi => cases hi; exact ⟨_, rfl, .one (.own _ rfl)⟩
    exact key m (by rw [length_ints, beB_length])
  generalize fstH v hi N = FH at *
  generalize fstL v lo N = FL at *
  have d1 : decide ((N : Int) < 0) = false := decide_eq_false (by omega)
  have d2 : decide ((N : Int) > (wiN v : Int)) = false := decide_eq_false (by omega)
  have d3 : decide (8 * (m : Int) < (N : Int)) = false := decide_eq_false (by omega)
  refine spec_of_awp Tryz.func16 rfl (Nat.le_of_ble_eq_true rfl) fun ini => ?_
  simp only [Tryz.ntmps16]
  (repeat (first | refine awp_reg_seq rfl fun k => ?_ | refine awp_seq ?_ | refine awp_false rfl ?_ | refine awp_skip (?_ : Awp _ _ _ _ _ _) | refine awp_block ?_ | (apply runk_pure rfl rfl rfl ?_ ?_ ?_ ?_ ?_ ?_ ?_ ?_; rotate_left 6; (· (conv => (lhs; whnf))); (· exact Tryz.func44); (· rfl); (· rfl); (· exact (va)); (· (repeat (first | exact Rens.nil | (refine Rens.cons ?_ ?_; (· ((refine Ren.pureR ?_ rfl; (rfl)))))))); (· rfl)) | (apply runk_guard rfl rfl ?_ rfl ?_ ?_; rotate_left 3; (· (conv => (lhs; whnf))); (· (intro hb; (try rw [hb]); apply opok_pure rfl ?_ ?_ ?_ ?_ ?_ ?_ ?_; rotate_left 6; (· (conv => (lhs; whnf))); (· exact Tryz.func45); (· rfl); (· rfl); (· exact (w)); (· (repeat (first | exact Rens.nil | (refine Rens.cons ?_ ?_; (· ((refine Ren.pureR ?_ rfl; (rfl)))))))); (· rfl)))) | (apply runk_made rfl rfl rfl ?_ ?_ ?_ ?_ ?_ ?_ ?_ ?_ ?_; rotate_left 8; (· (conv => (lhs; whnf))); (· exact Tryz.func46); (· rfl); (· rfl); (· exact (rb)); (· (repeat (first | exact Rens.nil | (refine Rens.cons ?_ ?_; (· ((refine Ren.pureR ?_ rfl; (rfl)))))))); (· (exact .one (.own _ _ _ _ _ _ rfl List.mem_cons_self))); (· (simp [AVal.pure, AVal.pures, AObj.pure]))) | ((refine runk_ung rfl rfl rfl rfl ?_)) | (apply runk0 rfl rfl (opok_move rfl ?_) ?_; rotate_left 1; (· (conv => (lhs; whnf)))) | (apply runk_assignOwn rfl rfl rfl ?_ ?_ ?_; rotate_left 4; (· (conv => (lhs; whnf))); (· (conv => (lhs; whnf; arg 1; whnf)))) | (apply runk0 rfl rfl (opok_assign rfl ?_) ?_; rotate_left 1; (· (conv => (lhs; whnf)))) | (apply runk0 rfl rfl (opok_loadA rfl ?_ ?_ ?_ ?_ ?_ ?_) ?_; rotate_left 6; (· (conv => (lhs; whnf))); (· (conv => (lhs; whnf; arg 1; whnf; arg 2; whnf))); (· rfl); (· (unfold sizeIs; conv => (lhs; whnf; arg 1; whnf))); (· (conv => (lhs; repeat (whnf; arg 2)))); (· rfl)) | (apply runk0 rfl rfl (opok_bin rfl ?_ ?_ ?_) ?_; rotate_left 3; (· (conv => (lhs; whnf))); (· (conv => (lhs; whnf))); (· (intro w; go_simp; rfl))) | (apply runk0 rfl rfl (opok_un rfl ?_ ?_) ?_; rotate_left 2; (· (conv => (lhs; whnf))); (· (intro w; go_simp; rfl))) | (apply runk0 rfl rfl (opok_pick rfl ?_ ?_) ?_; rotate_left 2; (· (conv => (lhs; whnf))); (· (exact pick_or))) | (apply runk_box rfl rfl rfl ?_ ?_ ?_ ?_; rotate_left 2; (· (conv => (lhs; whnf))); (· rfl); (· (conv => (lhs; whnf)))) | (apply runk_alloc rfl rfl rfl ?_ ?_ ?_; rotate_left 2; (· (conv => (lhs; whnf; arg 1; whnf))); (· (conv => (lhs; whnf)))) | refine runk_end (by kernel_rfl) ?_))
  clear va w rb rf f1 f2 hfin d1 d2
  rename_i k4 kb kc k6
  refine awp_loop (fun mm st => ∃ (i : Nat) (kr : Nat), i + mm = 8 * m ∧ N ≤ i ∧ st.leB ⟨[(1, .val (.int .i64 (N : Int))), (4, .ptr 4 k4 0), (6, .own 6 kr m), (7, .val (.int .i64 (i : Int)))], [(4, some (k4, .box 26 [.val (.bool false), .val (.int .u64 0), .val (.int .u64 0), .val (.int .i64 0)])), (6, some (kr, .row 5 1 (ints .u8 (beB m (clr X (8 * m - N) (8 * m - i))))))]⟩) (8 * m - N) ⟨N, k6, by omega, Nat.le_refl _, ?_⟩ ?_
  · rw [clr_top]
    (refine leB_of ?_ ?_; (· (repeat (first | exact EnvIs.nil | (refine EnvIs.cons ?_ ?_; (· rfl))))); (· (repeat (first | exact ObjsAre.nil | (refine ObjsAre.cons ?_ ?_; (· rfl))))))
  · rintro mm st ⟨i, kr, him, hNi, hle⟩
    refine awp_less hle ?_
    clear hle st
    have wi : IntKind.i64.wrap ((i : Int) + 1) = ((i + 1 : Nat) : Int) := by rw [IntKind.wrap_i64]; omega
    have w8 : IntKind.i64.wrap (8 * (m : Int)) = ((8 * m : Nat) : Int) := by rw [IntKind.wrap_i64]; omega
    (repeat (first | refine awp_reg_seq rfl fun k => ?_ | refine awp_seq ?_ | (apply runk0 rfl rfl (opok_move rfl ?_) ?_; rotate_left 1; (· (conv => (lhs; whnf)))) | (apply runk0 rfl rfl (opok_bin rfl ?_ ?_ ?_) ?_; rotate_left 3; (· (conv => (lhs; whnf))); (· (conv => (lhs; whnf))); (· (intro w; go_simp; rfl))) | (((apply runk0 rfl rfl (opok_lenO rfl ?_ ?_ ?_) ?_; rotate_left 5; (· (conv => (lhs; whnf))); (· (conv => (lhs; whnf; arg 1; whnf))); (· rfl)))) | refine runk_end (by kernel_rfl) ?_))
    refine awp_if rfl (fun hc => ?_) (fun hc => ?_)
    · have hlt : i < 8 * m := by simp at hc; omega
      clear hc
      obtain ⟨Q, hQ⟩ : ∃ Q, i / 8 = Q := ⟨_, rfl⟩
      obtain ⟨R, hR⟩ : ∃ R, i % 8 = R := ⟨_, rfl⟩
      have hQm : Q < m := by omega
      have hR8 : R < 8 := by omega
      have q1 : (i : Int).tdiv 8 = (Q : Int) := by rw [Int.tdiv_eq_ediv_of_nonneg (by omega)]; omega
      have r1 : (i : Int).tmod 8 = (R : Int) := by rw [Int.tmod_eq_emod_of_nonneg (by omega)]; omega
      have wQ : IntKind.i64.wrap (Q : Int) = (Q : Int) := by rw [IntKind.wrap_i64]; omega
      have wR : IntKind.i64.wrap (R : Int) = (R : Int) := by rw [IntKind.wrap_i64]; omega
      have uR : IntKind.u64.wrap (R : Int) = (R : Int) := by rw [IntKind.wrap_u64]; omega
      have sh := shr128 R hR8
      have hst := beB_clear m (clr X (8 * m - N) (8 * m - i)) (clr X (8 * m - N) (8 * m - (i + 1))) i hlt (by
        have := clr_step (X := X) (k := 8 * m - N) (c := 8 * m - (i + 1)) (y := clr X (8 * m - N) (8 * m - i)) (by omega) (by rw [show 8 * m - (i + 1) + 1 = 8 * m - i by omega])
        rw [show 8 * m - 1 - i = 8 * m - (i + 1) by omega]
        exact this)
      have hg := beB_get m (clr X (8 * m - N) (8 * m - i)) Q hQm
      rw [hQ, hR] at hst
      obtain ⟨b, hb⟩ : ∃ b : Nat, clr X (8 * m - N) (8 * m - i) / 256 ^ (m - 1 - Q) % 256 = b := ⟨_, rfl⟩
      have hb256 : b < 256 := by omega
      rw [hb] at hst hg
      have hx : (ints .u8 (beB m (clr X (8 * m - N) (8 * m - i))))[Q]? = some (.val (.int .u8 (b : Int))) := by rw [ints_get, hg]; rfl
      have hp7 : 2 ^ (7 - R) < 256 := by
        have : (2 : Nat) ^ (7 - R) ≤ 2 ^ 7 := Nat.pow_le_pow_right (by decide) (by omega)
        have e : (2 : Nat) ^ 7 = 128 := by decide
        omega
      have an := u8_andNot_nat b (2 ^ (7 - R)) hb256 hp7
      have hln : (beB m (clr X (8 * m - N) (8 * m - i))).length = m := beB_length _ _
      obtain ⟨c, hc⟩ : ∃ c : Nat, b &&& (255 - 2 ^ (7 - R)) = c := ⟨_, rfl⟩
      rw [hc] at hst an
      generalize 2 ^ (7 - R) = pw at *
      generalize beB m (clr X (8 * m - N) (8 * m - i)) = B0 at *
      obtain ⟨j, hj⟩ : ∃ j, i + 1 = j := ⟨_, rfl⟩
      rw [hj] at wi hst
      clear hb hg hQ hR
      (repeat (first | refine awp_reg rfl fun k => ?_ | refine awp_seq ?_ | refine awp_skip (?_ : Awp _ _ _ _ _ _) | refine awp_block ?_ | (apply runk0 rfl rfl (opok_move rfl ?_) ?_; rotate_left 1; (· (conv => (lhs; whnf)))) | (apply runk0 rfl rfl (opok_assign rfl ?_) ?_; rotate_left 1; (· (conv => (lhs; whnf)))) | (apply runk0 rfl rfl (opok_bin rfl ?_ ?_ ?_) ?_; rotate_left 3; (· (conv => (lhs; whnf))); (· (conv => (lhs; whnf))); (· (intro w; go_simp; rfl))) | (apply runk0 rfl rfl (opok_conv rfl ?_ ?_) ?_; rotate_left 2; (· (conv => (lhs; whnf))); (· (intro w; go_simp; rfl))) | (apply runk0 rfl rfl (opok_index_own rfl ?_ ?_ ?_ ?_ ?_ ?_ ?_ ?_) ?_; rotate_left 10; (· (conv => (lhs; whnf))); (· (conv => (lhs; whnf; arg 1; whnf; arg 2; whnf))); (· (conv => (lhs; whnf))); (· (conv => (lhs; whnf; arg 1; whnf))); (· (unfold sizeIs; conv => (lhs; whnf; arg 1; whnf))); (· omega); (· omega); (· ((simp; omega)))) | refine runk_end (by kernel_rfl) ?_ | (apply runk0 rfl rfl (opok_elem _ rfl ?_ ?_ ?_ ?_ ?_ ?_ ?_ ?_) ?_; rotate_left 8; (· (conv => (lhs; whnf))); (· (conv => (lhs; whnf; arg 1; whnf; arg 2; whnf))); (· rfl); (· rfl); (· (exact widths_ints _ _)); (· rfl); (· assumption); (· rfl)) | (apply runk_setN rfl rfl rfl ?_ ?_ ?_ ?_ ?_ ?_ ?_; rotate_left 8; (· (conv => (lhs; whnf))); (· (conv => (lhs; whnf))); (· rfl); (· (unfold sizeIs; conv => (lhs; whnf; arg 1; whnf))); (· ((simp only [Int.toNat_natCast, Nat.mul_one, Int.reduceToNat]; rfl))); (· omega))))
      exact ⟨mm - 1, by omega, j, kr, by omega, by omega, by rw [← hst]; (refine leB_of ?_ ?_; (· (repeat (first | exact EnvIs.nil | (refine EnvIs.cons ?_ ?_; (· rfl))))); (· (repeat (first | exact ObjsAre.nil | (refine ObjsAre.cons ?_ ?_; (· rfl))))))⟩
    · have hie : i = 8 * m := by simp at hc; omega
      subst hie
      rw [show 8 * m - 8 * m = 0 by omega]
      (repeat (first | refine awp_reg_seq rfl fun k => ?_ | refine awp_exit (?_ : Awp _ _ _ _ _ _) | (refine awp_ret ?_; (apply ends_pure ?_ ?_ ?_ ?_ ?_ (.inl rfl); rotate_left 1; (· (exact res_cell2 rfl rfl rfl rfl rfl rfl)); (· rfl); (· rfl); (· rfl); (· rfl))) | (apply runk_with rfl rfl rfl ?_ ?_ ?_ ?_ ?_ ?_ ?_ ?_ ?_ ?_ ?_; rotate_left 10; (· (conv => (lhs; whnf))); (· exact Tryz.func47); (· rfl); (· rfl); (· exact (fl)); (· (repeat (first | exact Rens.nil | (refine Rens.cons ?_ ?_; (· (exact Ren.own _ _ _ _ _ _ rfl List.mem_cons_self)))))); (· rfl); (· rfl); (· (simp [AVal.pure, AVal.pures, AObj.pure])); (· (simp [AVal.pure, AVal.pures, AObj.pure]))) | (apply runk0 rfl rfl (opok_move rfl ?_) ?_; rotate_left 1; (· (conv => (lhs; whnf)))) | (apply runk0 rfl rfl (opok_assign rfl ?_) ?_; rotate_left 1; (· (conv => (lhs; whnf)))) | (apply runk0 rfl rfl (opok_loadA rfl ?_ ?_ ?_ ?_ ?_ ?_) ?_; rotate_left 6; (· (conv => (lhs; whnf))); (· (conv => (lhs; whnf; arg 1; whnf; arg 2; whnf))); (· rfl); (· (unfold sizeIs; conv => (lhs; whnf; arg 1; whnf))); (· (conv => (lhs; repeat (whnf; arg 2)))); (· rfl)) | (apply runk0 rfl rfl (opok_extract rfl ?_ ?_) ?_; rotate_left 2; (· (conv => (lhs; whnf))); (· (conv => (lhs; whnf; arg 1; whnf)))) | (apply runk0 rfl rfl (opok_build rfl ?_ ?_ ?_ ?_ ?_) ?_; rotate_left 5; (· (conv => (lhs; whnf; arg 1; whnf))); (· (conv => (lhs; whnf; arg 1; repeat (whnf; arg 2)))); (· (conv => (lhs; whnf; arg 1; whnf))); (· (repeat (first | exact PartsOf.nil | (apply PartsOf.cons; (· (conv => (lhs; whnf))))))); (· (conv => (lhs; whnf; arg 1; repeat (whnf; arg 2))))) | (apply runk_alloc rfl rfl rfl ?_ ?_ ?_; rotate_left 2; (· (conv => (lhs; whnf; arg 1; whnf))); (· (conv => (lhs; whnf)))) | (apply runk_store rfl rfl rfl ?_ ?_ ?_ ?_ ?_ ?_ ?_ ?_ ?_ ?_ ?_; rotate_left 9; (· (conv => (lhs; whnf))); (· (conv => (lhs; whnf))); (· (conv => (lhs; whnf; arg 1; whnf; arg 2; whnf))); (· rfl); (· (conv => (lhs; whnf))); (· rfl); (· (unfold sizeIs; conv => (lhs; whnf; arg 1; whnf))); (· rfl); (· rfl); (· (conv => (lhs; repeat (whnf; arg 2))))) | refine runk_end (by kernel_rfl) ?_))
end Go.Proofs.YtboddbheljenhaaGreatDoor
namespace Go.Proofs.YtboddbheljenhaaGreatDoor
open Go.RowKit
def nA (hi lo : Int) : Int := hi * 18446744073709551616 + lo
end Go.Proofs.YtboddbheljenhaaGreatDoor
namespace Go.Proofs.YtboddbheljenhaaGreatDoor
open Go.RowKit
set_option maxHeartbeats 4000000 in
set_option maxRecDepth 100000 in
theorem rwidth_spec (v : Bool) (hi lo : Int) : Spec Tryz.prog 45 [.agg [.val (.bool v), .val (.int .u64 hi), .val (.int .u64 lo)]] [] (.val (.int .i64 (wiN v : Int))) [] := by
  cases v <;>
  · refine spec_of_awp Tryz.func45 rfl (Nat.le_of_ble_eq_true rfl) fun ini => ?_
    simp only [Tryz.ntmps45]
    (repeat (first | refine awp_reg_seq rfl fun k => ?_ | refine awp_seq ?_ | refine awp_true rfl ?_ | refine awp_false rfl ?_ | refine awp_skip (?_ : Awp _ _ _ _ _ _) | (refine awp_ret ?_; (apply ends_pure ?_ ?_ ?_ ?_ ?_ (.inl rfl); rotate_left 1; (· (exact res_one rfl rfl)); (· rfl); (· rfl); (· rfl); (· rfl))) | (apply runk0 rfl rfl (opok_assign rfl ?_) ?_; rotate_left 1; (· (conv => (lhs; whnf)))) | (apply runk_fa rfl rfl rfl ?_ rfl rfl ?_ ?_ ?_ ?_; rotate_left 5; (· (conv => (lhs; whnf))); (· (unfold sizeIs; conv => (lhs; whnf; arg 1; whnf))); (· rfl); (· (conv => (lhs; whnf)))) | (((apply runk0 rfl rfl (opok_load rfl ?_ ?_ ?_ ?_) ?_; rotate_left 5; (· (conv => (lhs; whnf))); (· (conv => (lhs; whnf; arg 1; whnf; arg 2; whnf))); (· rfl); (· (conv => (lhs; whnf; arg 1; whnf)))))) | (apply runk_box rfl rfl rfl ?_ ?_ ?_ ?_; rotate_left 2; (· (conv => (lhs; whnf))); (· rfl); (· (conv => (lhs; whnf)))) | refine runk_end (by kernel_rfl) ?_))
end Go.Proofs.YtboddbheljenhaaGreatDoor
