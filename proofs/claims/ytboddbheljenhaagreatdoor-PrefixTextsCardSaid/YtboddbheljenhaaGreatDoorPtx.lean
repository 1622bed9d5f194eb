/-
  Layer 2: PrefixTexts.
-/
import Derived.Test.YtboddbheljenhaaGreatDoorPdq
import Derived.Test.YtboddbheljenhaaGreatDoorG21
import Derived.Test.YtboddbheljenhaaGreatDoorDkP
import Derived.Test.YtboddbheljenhaaGreatDoorSpoilt
import Derived.Test.YtboddbheljenhaaGreatDoorG07
import Derived.Test.YtboddbheljenhaaGreatDoorG08
namespace Go.Proofs.YtboddbheljenhaaGreatDoor
open Go.RowKit
attribute [local irreducible] eqQ eqP
set_option maxHeartbeats 8000000 in
set_option maxRecDepth 100000 in
theorem rpprint_of {v : Bool} {hi lo : Int} {N : Nat} (ap : AOk v hi lo) (hN : N ≤ wiN v) (va : Spec Tryz.prog 14 [.agg [.val (.bool v), .val (.int .u64 hi), .val (.int .u64 lo), .val (.int .i64 (N : Int))]] [] (.val (.bool true)) []) : Spec Tryz.prog 33 [.agg [.val (.bool v), .val (.int .u64 hi), .val (.int .u64 lo), .val (.int .i64 (N : Int))]] [] (.val (bstr (prP v hi lo N))) [] := by
  have p := rprint_spec ap
  have hw := wiN_le v
  have it := itoa_spec (N : Int) (by omega) (by omega)
  rw [Lib.itoa_nonneg] at it
  have e : prP v hi lo N = prA v hi lo ++ [47] ++ Lib.decDigits N := by unfold prP; simp
  rw [e]
  have hA := prA_len ap
  have hD : (Lib.decDigits N).length ≤ 3 := by
    have : ∀ k : Fin 129, (Lib.decDigits k.val).length ≤ 3 := by decide +kernel
    exact this ⟨N, by omega⟩
  clear e ap hN hw
  generalize prA v hi lo = A at *
  generalize Lib.decDigits N = D at *
  refine spec_of_awp Tryz.func33 rfl (Nat.le_of_ble_eq_true rfl) fun ini => ?_
  simp only [Tryz.ntmps33]
  (repeat (first | refine awp_reg_seq rfl fun k => ?_ | refine awp_seq ?_ | refine awp_false rfl ?_ | refine awp_skip (?_ : Awp _ _ _ _ _ _) | (refine awp_ret ?_; (apply ends_pure ?_ ?_ ?_ ?_ ?_ (.inl rfl); rotate_left 1; (· (exact res_one rfl rfl)); (· rfl); (· rfl); (· rfl); (· rfl))) | (apply runk_pure rfl rfl rfl ?_ ?_ ?_ ?_ ?_ ?_ ?_ ?_; rotate_left 6; (· (conv => (lhs; whnf))); (· exact Tryz.func14); (· rfl); (· rfl); (· exact (va)); (· (repeat (first | exact Rens.nil | (refine Rens.cons ?_ ?_; (· ((refine Ren.pureR ?_ rfl; (rfl)))))))); (· rfl)) | (apply runk_pure rfl rfl rfl ?_ ?_ ?_ ?_ ?_ ?_ ?_ ?_; rotate_left 6; (· (conv => (lhs; whnf))); (· exact Tryz.func36); (· rfl); (· rfl); (· exact (p)); (· (repeat (first | exact Rens.nil | (refine Rens.cons ?_ ?_; (· ((refine Ren.pureR ?_ rfl; (rfl)))))))); (· rfl)) | (apply runk_pure rfl rfl rfl ?_ ?_ ?_ ?_ ?_ ?_ ?_ ?_; rotate_left 6; (· (conv => (lhs; whnf))); (· exact Tryz.func53); (· rfl); (· rfl); (· exact (it)); (· (repeat (first | exact Rens.nil | (refine Rens.cons ?_ ?_; (· ((refine Ren.pureR ?_ rfl; (rfl)))))))); (· rfl)) | (((((apply runk0 rfl rfl (opok_scat rfl ?_ ?_ ?_) ?_; rotate_left 2; (· ((conv => (lhs; whnf)); try exact rfl)); (· ((conv => (lhs; whnf)); try exact rfl)); (· ((simp; omega)))))))) | (apply runk0 rfl rfl (opok_assign rfl ?_) ?_; rotate_left 1; (· (conv => (lhs; whnf)))) | (apply runk_fa rfl rfl rfl ?_ rfl rfl ?_ ?_ ?_ ?_; rotate_left 5; (· (conv => (lhs; whnf))); (· (unfold sizeIs; conv => (lhs; whnf; arg 1; whnf))); (· rfl); (· (conv => (lhs; whnf)))) | (((apply runk0 rfl rfl (opok_load rfl ?_ ?_ ?_ ?_) ?_; rotate_left 5; (· (conv => (lhs; whnf))); (· (conv => (lhs; whnf; arg 1; whnf; arg 2; whnf))); (· rfl); (· (conv => (lhs; whnf; arg 1; whnf)))))) | (apply runk0 rfl rfl (opok_loadA rfl ?_ ?_ ?_ ?_ ?_ ?_) ?_; rotate_left 6; (· (conv => (lhs; whnf))); (· (conv => (lhs; whnf; arg 1; whnf; arg 2; whnf))); (· rfl); (· (unfold sizeIs; conv => (lhs; whnf; arg 1; whnf))); (· (conv => (lhs; repeat (whnf; arg 2)))); (· rfl)) | (apply runk0 rfl rfl (opok_un rfl ?_ ?_) ?_; rotate_left 2; (· (conv => (lhs; whnf))); (· (intro w; go_simp; rfl))) | (apply runk_box rfl rfl rfl ?_ ?_ ?_ ?_; rotate_left 2; (· (conv => (lhs; whnf))); (· rfl); (· (conv => (lhs; whnf)))) | refine runk_end (by kernel_rfl) ?_))
set_option maxHeartbeats 8000000 in
set_option maxRecDepth 100000 in
theorem pprint_raw (v : Bool) (hi lo n : Int) (h0 : 0 ≤ hi) (h1 : hi < 18446744073709551616) (g0 : 0 ≤ lo) (g1 : lo < 18446744073709551616) : ∃ T : List UInt8,
    Spec Tryz.prog 34 [.agg [.val (.bool v), .val (.int .u64 hi), .val (.int .u64 lo), .val (.int .i64 n)]] [] (.val (bstr T)) [] ∧ Spec Tryz.prog 33 [.agg [.val (.bool v), .val (.int .u64 hi), .val (.int .u64 lo), .val (.int .i64 n)]] [] (.val (bstr T)) [] := by
  obtain ⟨b, v1, v2, hb⟩ := valid_all v hi lo n h0 h1 g0 g1
  cases b with
  | true =>
    obtain ⟨N, rfl, ao, hN, eh, el⟩ := hb rfl
    exact ⟨_, pprint_spec ao hN eh el, rpprint_of ao hN v2⟩
  | false =>
    refine ⟨[], ?_, ?_⟩
    · refine spec_of_awp Tryz.func34 rfl (Nat.le_of_ble_eq_true rfl) fun ini => ?_
      simp only [Tryz.ntmps34]
      (repeat (first | refine awp_reg_seq rfl fun k => ?_ | refine awp_seq ?_ | refine awp_true rfl ?_ | (refine awp_ret ?_; (apply ends_pure ?_ ?_ ?_ ?_ ?_ (.inl rfl); rotate_left 1; (· (exact res_one rfl rfl)); (· rfl); (· rfl); (· rfl); (· rfl))) | (apply runk_pure rfl rfl rfl ?_ ?_ ?_ ?_ ?_ ?_ ?_ ?_; rotate_left 6; (· (conv => (lhs; whnf))); (· exact Tryz.func13); (· rfl); (· rfl); (· exact (v1)); (· (repeat (first | exact Rens.nil | (refine Rens.cons ?_ ?_; (· ((refine Ren.pureR ?_ rfl; (rfl)))))))); (· rfl)) | (apply runk0 rfl rfl (opok_assign rfl ?_) ?_; rotate_left 1; (· (conv => (lhs; whnf)))) | (apply runk0 rfl rfl (opok_loadA rfl ?_ ?_ ?_ ?_ ?_ ?_) ?_; rotate_left 6; (· (conv => (lhs; whnf))); (· (conv => (lhs; whnf; arg 1; whnf; arg 2; whnf))); (· rfl); (· (unfold sizeIs; conv => (lhs; whnf; arg 1; whnf))); (· (conv => (lhs; repeat (whnf; arg 2)))); (· rfl)) | (apply runk0 rfl rfl (opok_un rfl ?_ ?_) ?_; rotate_left 2; (· (conv => (lhs; whnf))); (· (intro w; go_simp; rfl))) | (apply runk_box rfl rfl rfl ?_ ?_ ?_ ?_; rotate_left 2; (· (conv => (lhs; whnf))); (· rfl); (· (conv => (lhs; whnf)))) | refine runk_end (by kernel_rfl) ?_))
    · refine spec_of_awp Tryz.func33 rfl (Nat.le_of_ble_eq_true rfl) fun ini => ?_
      simp only [Tryz.ntmps33]
      (repeat (first | refine awp_reg_seq rfl fun k => ?_ | refine awp_seq ?_ | refine awp_true rfl ?_ | (refine awp_ret ?_; (apply ends_pure ?_ ?_ ?_ ?_ ?_ (.inl rfl); rotate_left 1; (· (exact res_one rfl rfl)); (· rfl); (· rfl); (· rfl); (· rfl))) | (apply runk_pure rfl rfl rfl ?_ ?_ ?_ ?_ ?_ ?_ ?_ ?_; rotate_left 6; (· (conv => (lhs; whnf))); (· exact Tryz.func14); (· rfl); (· rfl); (· exact (v2)); (· (repeat (first | exact Rens.nil | (refine Rens.cons ?_ ?_; (· ((refine Ren.pureR ?_ rfl; (rfl)))))))); (· rfl)) | (apply runk0 rfl rfl (opok_assign rfl ?_) ?_; rotate_left 1; (· (conv => (lhs; whnf)))) | (apply runk0 rfl rfl (opok_loadA rfl ?_ ?_ ?_ ?_ ?_ ?_) ?_; rotate_left 6; (· (conv => (lhs; whnf))); (· (conv => (lhs; whnf; arg 1; whnf; arg 2; whnf))); (· rfl); (· (unfold sizeIs; conv => (lhs; whnf; arg 1; whnf))); (· (conv => (lhs; repeat (whnf; arg 2)))); (· rfl)) | (apply runk0 rfl rfl (opok_un rfl ?_ ?_) ?_; rotate_left 2; (· (conv => (lhs; whnf))); (· (intro w; go_simp; rfl))) | (apply runk_box rfl rfl rfl ?_ ?_ ?_ ?_; rotate_left 2; (· (conv => (lhs; whnf))); (· rfl); (· (conv => (lhs; whnf)))) | refine runk_end (by kernel_rfl) ?_))
theorem bints_bytes (l : List UInt8) : Bytes (bints l) := by
  intro z hz
  unfold bints at hz
  obtain ⟨x, -, rfl⟩ := List.mem_map.1 hz
  have := x.toNat_lt
  exact ⟨by omega, by omega⟩
def spL (l : List UInt8) (a b : Int) : List UInt8 := (spoilt (bints l) a b).map fun n => UInt8.ofNat n.toNat
theorem spL_len (l : List UInt8) (a b : Int) : (spL l a b).length ≤ l.length + 1 := by
  unfold spL
  rw [List.length_map]
  have := spoilt_length (bints l) a b
  rw [bints_len] at this
  exact this
def lit9 : List (List UInt8) := [[48], [56], [48, 56], [51, 50], [51, 51], [49, 50, 56], [49, 50, 57], [], [57, 57, 57, 57, 57, 57, 57, 57, 57, 57, 57, 57, 57, 57, 57, 57, 57, 57, 57, 57]]
theorem lit9_get {K : Nat} (h : K < 9) : ∃ W : List UInt8, W.length ≤ 20 ∧ (strL lit9)[K]? = some (.val (bstr W)) := by
  have : K = 0 ∨ K = 1 ∨ K = 2 ∨ K = 3 ∨ K = 4 ∨ K = 5 ∨ K = 6 ∨ K = 7 ∨ K = 8 := by omega
  rcases this with rfl | rfl | rfl | rfl | rfl | rfl | rfl | rfl | rfl <;> exact ⟨_, by decide, rfl⟩
theorem pfA_shape (l : List UInt8) : ∃ (v : Bool) (hi lo n e : Int), pfA l = .tuple [.agg [.val (.bool v), .val (.int .u64 hi), .val (.int .u64 lo), .val (.int .i64 n)], .val (.int .i64 e)] := by
  unfold pfA pfV errP
  cases prsA (Lib.cut l [47]).1 with
  | none => exact ⟨_, _, _, _, _, rfl⟩
  | some a =>
    obtain ⟨v, hi, lo⟩ := a
    dsimp only
    split
    · split
      · split
        · exact ⟨_, _, _, _, _, rfl⟩
        · exact ⟨_, _, _, _, _, rfl⟩
      · exact ⟨_, _, _, _, _, rfl⟩
    · exact ⟨_, _, _, _, _, rfl⟩
set_option maxHeartbeats 16000000 in
set_option maxRecDepth 100000 in
theorem prefixTexts_of (ps : ∀ l : List UInt8, l.length ≤ 100000 → Spec Tryz.prog 37 [.val (bstr l)] [] (pfA l) []) (aw : Spec Tryz.prog 21 [] [] (.val (.bool true)) []) (s : List UInt8) (v : Bool) (hi lo n : Int) (h0 : 0 ≤ hi) (h1 : hi < 18446744073709551616) (g0 : 0 ≤ lo) (g1 : lo < 18446744073709551616) (zs : List Int) (hz : zs.length ≤ 9223372036854775807) (at1 by1 : Int) : Spec Tryz.prog 5 [.val (bstr s), .agg [.val (.bool v), .val (.int .u64 hi), .val (.int .u64 lo), .val (.int .i64 n)], .ro (ints .i64 zs), .val (.int .i64 at1), .val (.int .i64 by1)] [] (.val (.bool true)) [] := by
  by_cases c : 600 < s.length
  · have d1 : decide ((s.length : Int) > 600) = true := decide_eq_true (by omega)
    have d2 : decide (600 < (s.length : Int)) = true := decide_eq_true (by omega)
    have d3 : decide (600 < s.length) = true := decide_eq_true (by omega)
    refine spec_of_awp Tryz.func5 rfl (Nat.le_of_ble_eq_true rfl) fun ini => ?_
    simp only [Tryz.ntmps5]
    (repeat (first | refine awp_reg_seq rfl fun k => ?_ | refine awp_seq ?_ | refine awp_true rfl ?_ | (refine awp_ret ?_; (apply ends_pure ?_ ?_ ?_ ?_ ?_ (.inl rfl); rotate_left 1; (· (exact res_one rfl rfl)); (· rfl); (· rfl); (· rfl); (· rfl))) | (apply runk_pure rfl rfl rfl ?_ ?_ ?_ ?_ ?_ ?_ ?_ ?_; rotate_left 6; (· (conv => (lhs; whnf))); (· exact Tryz.func21); (· rfl); (· rfl); (· exact (aw)); (· (repeat ((exact Rens.nil)))); (· rfl)) | (((((apply runk0 rfl rfl (opok_slen rfl ?_ rfl) ?_; rotate_left 1; (· ((conv => (lhs; whnf)); try exact rfl))))))) | (apply runk0 rfl rfl (opok_move rfl ?_) ?_; rotate_left 1; (· (conv => (lhs; whnf)))) | (apply runk0 rfl rfl (opok_assign rfl ?_) ?_; rotate_left 1; (· (conv => (lhs; whnf)))) | (apply runk0 rfl rfl (opok_bin rfl ?_ ?_ ?_) ?_; rotate_left 3; (· (conv => (lhs; whnf))); (· (conv => (lhs; whnf))); (· (intro w; go_simp; rfl))) | (apply runk_box rfl rfl rfl ?_ ?_ ?_ ?_; rotate_left 2; (· (conv => (lhs; whnf))); (· rfl); (· (conv => (lhs; whnf)))) | refine runk_end (by kernel_rfl) ?_))
  · have d1 : decide ((s.length : Int) > 600) = false := decide_eq_false (by omega)
    have d2 : decide (600 < (s.length : Int)) = false := decide_eq_false (by omega)
    have d3 : decide (600 < s.length) = false := decide_eq_false (by omega)
    obtain ⟨v', hi', lo', N, q1, ao, hN, eh, el, hq1, sp⟩ := prefix_ex zs 0 hz (Nat.zero_le _)
    have v2 := rvalid_of v' hi' lo' (N : Int) _ _ _ _ _ true (by rw [decide_eq_true rfl, Bool.true_and, eh, el]; exact eqP_self _ _ _ _) (rmake_ok N ao hN)
    obtain ⟨R, r1, r2⟩ := pprint_raw v hi lo n h0 h1 g0 g1
    have nw := new_spec zs
    have p1 := pprint_spec ao hN eh el
    have p2 := rpprint_of ao hN v2
    have pa := rprint_spec ao
    have hAl := prA_len ao
    have hTl := prP_len ao (N := N) (by have := wiN_le v'; omega)
    have so := spoilt_spec (bints (prP v' hi' lo' N)) (by rw [bints_len]; omega) at1 by1
    have hsl := spL_len (prP v' hi' lo' N) at1 by1
    have hsp : Value.string (strOfNums (spoilt (bints (prP v' hi' lo' N)) at1 by1)) = bstr (spL (prP v' hi' lo' N) at1 by1) := rfl
    have hspb := spoilt_bytes (bints_bytes (prP v' hi' lo' N)) at1 by1
    have md := mod_spec at1 9 (by decide) (by decide)
    have m0 : 0 ≤ at1 % 9 := Int.emod_nonneg _ (by decide)
    have m1 : at1 % 9 < 9 := Int.emod_lt_of_pos _ (by decide)
    obtain ⟨K, hK⟩ := Int.eq_ofNat_of_zero_le m0
    rw [hK] at md m1
    obtain ⟨W, hWl, hW⟩ := lit9_get (K := K) (by omega)
    have hK9 : K < 9 := by omega
    clear hK m0 m1 v2
    generalize spL (prP v' hi' lo' N) at1 by1 = SPL at *
    generalize spoilt (bints (prP v' hi' lo' N)) at1 by1 = SP at *
    generalize prP v' hi' lo' N = T at *
    generalize prA v' hi' lo' = A at *
    clear ao eh el hN
    refine spec_of_awp Tryz.func5 rfl (Nat.le_of_ble_eq_true rfl) fun ini => ?_
    simp only [Tryz.ntmps5]
    (repeat (first | refine awp_reg_seq rfl fun k => ?_ | refine awp_seq ?_ | refine awp_false rfl ?_ | refine awp_skip (?_ : Awp _ _ _ _ _ _) | (apply runk_made rfl rfl rfl ?_ ?_ ?_ ?_ ?_ ?_ ?_ ?_ ?_; rotate_left 8; (· (conv => (lhs; whnf))); (· exact Tryz.func9); (· rfl); (· rfl); (· exact (nw)); (· (repeat (first | exact Rens.nil | (refine Rens.cons ?_ ?_; (· ((refine Ren.pureR ?_ rfl; (((simp [AVal.pure, AVal.pures, AObj.pure]; done)))))))))); (· (exact .one (.ptr _ _ _ _ _ List.mem_cons_self))); (· ((simp; done)))) | (apply runk_with rfl rfl rfl ?_ ?_ ?_ ?_ ?_ ?_ ?_ ?_ ?_ ?_ ?_; rotate_left 10; (· (conv => (lhs; whnf))); (· exact Tryz.func10); (· rfl); (· rfl); (· exact (sp)); (· (repeat (first | exact Rens.nil | (refine Rens.cons ?_ ?_; (· (exact Ren.ptr _ _ _ _ _ List.mem_cons_self)))))); (· rfl); (· rfl); (· ((simp; done))); (· ((simp; done)))) | (apply runk_pure rfl rfl rfl ?_ ?_ ?_ ?_ ?_ ?_ ?_ ?_; rotate_left 6; (· (conv => (lhs; whnf))); (· exact Tryz.func34); (· rfl); (· rfl); (· exact (r1)); (· (repeat (first | exact Rens.nil | (refine Rens.cons ?_ ?_; (· ((refine Ren.pureR ?_ rfl; (rfl)))))))); (· rfl)) | (apply runk_guard rfl rfl ?_ rfl ?_ ?_; rotate_left 3; (· (conv => (lhs; whnf))); (· (intro hb; (try rw [hb]); apply opok_pure rfl ?_ ?_ ?_ ?_ ?_ ?_ ?_; rotate_left 6; (· (conv => (lhs; whnf))); (· exact Tryz.func34); (· rfl); (· rfl); (· exact (p1)); (· (repeat (first | exact Rens.nil | (refine Rens.cons ?_ ?_; (· ((refine Ren.pureR ?_ rfl; (rfl)))))))); (· rfl)))) | (apply runk_pure rfl rfl rfl ?_ ?_ ?_ ?_ ?_ ?_ ?_ ?_; rotate_left 6; (· (conv => (lhs; whnf))); (· exact Tryz.func33); (· rfl); (· rfl); (· exact (r2)); (· (repeat (first | exact Rens.nil | (refine Rens.cons ?_ ?_; (· ((refine Ren.pureR ?_ rfl; (rfl)))))))); (· rfl)) | (apply runk_pure rfl rfl rfl ?_ ?_ ?_ ?_ ?_ ?_ ?_ ?_; rotate_left 6; (· (conv => (lhs; whnf))); (· exact Tryz.func33); (· rfl); (· rfl); (· exact (p2)); (· (repeat (first | exact Rens.nil | (refine Rens.cons ?_ ?_; (· ((refine Ren.pureR ?_ rfl; (rfl)))))))); (· rfl)) | (((first | (apply runk0 rfl rfl (opok_sneq rfl ?_ ?_) ?_; rotate_left 2; (· ((conv => (lhs; whnf)); try exact rfl)); (· ((conv => (lhs; whnf)); try exact rfl))) | (apply runk0 rfl rfl (opok_slen rfl ?_ rfl) ?_; rotate_left 1; (· ((conv => (lhs; whnf)); try exact rfl)))))) | (((((apply runk_guard rfl rfl ?_ rfl ?_ ?_; rotate_left 3; (· (conv => (lhs; whnf))); (· (intro hb; (try rw [hb]); apply opok_sneq rfl ?_ ?_; rotate_left 2; (· ((conv => (lhs; whnf)); try exact rfl)); (· ((conv => (lhs; whnf)); try exact rfl))))))))) | (apply runk0 rfl rfl (opok_move rfl ?_) ?_; rotate_left 1; (· (conv => (lhs; whnf)))) | (apply runk0 rfl rfl (opok_assign rfl ?_) ?_; rotate_left 1; (· (conv => (lhs; whnf)))) | (apply runk0 rfl rfl (opok_loadA rfl ?_ ?_ ?_ ?_ ?_ ?_) ?_; rotate_left 6; (· (conv => (lhs; whnf))); (· (conv => (lhs; whnf; arg 1; whnf; arg 2; whnf))); (· rfl); (· (unfold sizeIs; conv => (lhs; whnf; arg 1; whnf))); (· (conv => (lhs; repeat (whnf; arg 2)))); (· rfl)) | (apply runk0 rfl rfl (opok_bin rfl ?_ ?_ ?_) ?_; rotate_left 3; (· (conv => (lhs; whnf))); (· (conv => (lhs; whnf))); (· (intro w; go_simp; rfl))) | (apply runk_guard rfl rfl ?_ rfl ?_ ?_; rotate_left 3; (· (conv => (lhs; whnf))); (· (intro hb; (try rw [hb]); apply opok_move rfl ?_; rotate_left 1; (· (conv => (lhs; whnf)))))) | (apply runk_guard rfl rfl ?_ rfl ?_ ?_; rotate_left 3; (· (conv => (lhs; whnf))); (· (intro hb; (try rw [hb]); apply opok_loadA rfl ?_ ?_ ?_ ?_ ?_ ?_; rotate_left 6; (· (conv => (lhs; whnf))); (· (conv => (lhs; whnf; arg 1; whnf; arg 2; whnf))); (· rfl); (· (unfold sizeIs; conv => (lhs; whnf; arg 1; whnf))); (· (conv => (lhs; repeat (whnf; arg 2)))); (· rfl)))) | (apply runk0 rfl rfl (opok_pick rfl ?_ ?_) ?_; rotate_left 2; (· (conv => (lhs; whnf))); (· (exact pick_or))) | (apply runk_box rfl rfl rfl ?_ ?_ ?_ ?_; rotate_left 2; (· (conv => (lhs; whnf))); (· rfl); (· (conv => (lhs; whnf)))) | (apply runk_alloc rfl rfl rfl ?_ ?_ ?_; rotate_left 2; (· (conv => (lhs; whnf; arg 1; whnf))); (· (conv => (lhs; whnf)))) | (apply runk_store rfl rfl rfl ?_ ?_ ?_ ?_ ?_ ?_ ?_ ?_ ?_ ?_ ?_; rotate_left 9; (· (conv => (lhs; whnf))); (· (conv => (lhs; whnf))); (· (conv => (lhs; whnf; arg 1; whnf; arg 2; whnf))); (· rfl); (· (conv => (lhs; whnf))); (· rfl); (· (unfold sizeIs; conv => (lhs; whnf; arg 1; whnf))); (· rfl); (· rfl); (· (conv => (lhs; repeat (whnf; arg 2))))) | refine runk_end (by kernel_rfl) ?_))
    have nn : (!R == R || !T == T) = false := by simp
    rw [nn]
    (repeat (first | refine awp_reg_seq rfl fun k => ?_ | refine awp_seq ?_ | refine awp_false rfl ?_ | refine awp_skip (?_ : Awp _ _ _ _ _ _) | refine awp_block ?_ | (apply runk_pure rfl rfl rfl ?_ ?_ ?_ ?_ ?_ ?_ ?_ ?_; rotate_left 6; (· (conv => (lhs; whnf))); (· exact Tryz.func36); (· rfl); (· rfl); (· exact (pa)); (· (repeat (first | exact Rens.nil | (refine Rens.cons ?_ ?_; (· ((refine Ren.pureR ?_ rfl; (rfl)))))))); (· rfl)) | (apply runk_pure rfl rfl rfl ?_ ?_ ?_ ?_ ?_ ?_ ?_ ?_; rotate_left 6; (· (conv => (lhs; whnf))); (· exact Tryz.func35); (· rfl); (· rfl); (· exact (so)); (· (repeat (first | exact Rens.nil | (refine Rens.cons ?_ ?_; (· ((refine Ren.pureR ?_ rfl; (first | rfl | (simp [AVal.pure, AVal.pures, AObj.pure]; done))))))))); (· (simp [AVal.pure, AVal.pures, AObj.pure]))) | (apply runk_pure rfl rfl rfl ?_ ?_ ?_ ?_ ?_ ?_ ?_ ?_; rotate_left 6; (· (conv => (lhs; whnf))); (· exact Tryz.func12); (· rfl); (· rfl); (· exact (md)); (· (repeat (first | exact Rens.nil | (refine Rens.cons ?_ ?_; (· ((refine Ren.pureR ?_ rfl; (rfl)))))))); (· rfl)) | (((apply runk0 rfl rfl (opok_convL rfl ?_ rfl rfl rfl) ?_; rotate_left 1; (· ((conv => (lhs; whnf)); try exact rfl))))) | (((((apply runk0 rfl rfl (opok_scat rfl ?_ ?_ ?_) ?_; rotate_left 2; (· ((conv => (lhs; whnf)); try exact rfl)); (· ((conv => (lhs; whnf)); try exact rfl)); (· ((simp; omega)))))))) | (apply runk0 rfl rfl (opok_move rfl ?_) ?_; rotate_left 1; (· (conv => (lhs; whnf)))) | (apply runk_fa rfl rfl rfl ?_ rfl rfl ?_ ?_ ?_ ?_; rotate_left 5; (· (conv => (lhs; whnf))); (· (unfold sizeIs; conv => (lhs; whnf; arg 1; whnf))); (· rfl); (· (conv => (lhs; whnf)))) | (apply runk0 rfl rfl (opok_loadA rfl ?_ ?_ ?_ ?_ ?_ ?_) ?_; rotate_left 6; (· (conv => (lhs; whnf))); (· (conv => (lhs; whnf; arg 1; whnf; arg 2; whnf))); (· rfl); (· (unfold sizeIs; conv => (lhs; whnf; arg 1; whnf))); (· (conv => (lhs; repeat (whnf; arg 2)))); (· rfl)) | (((apply runk0 rfl rfl (opok_lenO rfl ?_ ?_ ?_) ?_; rotate_left 5; (· (conv => (lhs; whnf))); (· (conv => (lhs; whnf; arg 1; whnf))); (· rfl)))) | (apply runk0 rfl rfl (opok_index_own rfl ?_ ?_ ?_ ?_ ?_ ?_ ?_ ?_) ?_; rotate_left 10; (· (conv => (lhs; whnf))); (· (conv => (lhs; whnf; arg 1; whnf; arg 2; whnf))); (· (conv => (lhs; whnf))); (· (conv => (lhs; whnf; arg 1; whnf))); (· (unfold sizeIs; conv => (lhs; whnf; arg 1; whnf))); (· omega); (· omega); (· rfl)) | (apply runk0 rfl rfl (opok_text rfl ?_ ?_ ?_ ?_ ?_) ?_; rotate_left 4; (· (conv => (lhs; whnf))); (· (conv => (lhs; whnf; arg 1; whnf))); (· (conv => (lhs; whnf; arg 1; whnf))); (· rfl); (· (exact .ro _))) | (apply runk_lit rfl rfl rfl ?_ ?_ ?_ ?_ ?_ ?_ ?_ ?_ ?_ ?_ ?_; rotate_left 4; (· (conv => (lhs; whnf; arg 1; whnf))); (· (unfold sizeIs; conv => (lhs; whnf; arg 1; whnf))); (· (conv => (lhs; whnf; arg 1; whnf))); (· rfl); (· rfl); (· rfl); (· rfl); (· (repeat (first | exact PartsAre.nil _ | (apply PartsAre.cons; (· (conv => (lhs; whnf))))))); (· rfl); (· rfl)) | refine runk_end (by kernel_rfl) ?_ | (apply runk0 rfl rfl (opok_elem _ rfl ?_ ?_ ?_ ?_ ?_ ?_ ?_ ?_) ?_; rotate_left 8; (· (conv => (lhs; whnf))); (· (conv => (lhs; whnf; arg 1; whnf; arg 2; whnf))); (· rfl); (· rfl); (· rfl); (· rfl); (· assumption); (· rfl))))
    rw [hsp]
    refine awp_less (st' := ⟨[(62, .own 62 k 6), (63, .val (.int .i64 6)), (64, .val (.int .i64 0))], [(62, some (k, .row 9 1 (strL [s, T, SPL, T ++ [48], A, A ++ [47] ++ W])))]⟩) (by (refine leB_of ?_ ?_; (· (repeat (first | exact EnvIs.nil | (refine EnvIs.cons ?_ ?_; (· rfl))))); (· (repeat (first | exact ObjsAre.nil | (refine ObjsAre.cons ?_ ?_; (· rfl))))))) ?_
    (refine awp_frz 62 _ (strL [s, T, SPL, T ++ [48], A, A ++ [47] ++ W]) ([(62, .ro (strL [s, T, SPL, T ++ [48], A, A ++ [47] ++ W])), (63, .val (.int .i64 6)), (64, .val (.int .i64 0))]) ([]) rfl ?_ ?_ ?_; (· (repeat (first | exact EnvFrz.nil | (refine EnvFrz.cons rfl ?_ ?_; (· first | exact .one (.same _) | (refine .one (.own _ ?_); rfl)))))); (· (repeat ((exact ObjsFrz.nil)))))
    clear nw sp p1 p2 r1 r2 pa so hsp hspb md hW
    have l4 : (T ++ [48]).length ≤ 100 := by simp; omega
    have l6 : (A ++ [47] ++ W).length ≤ 100 := by simp; omega
    generalize T ++ [48] = T4 at *
    generalize A ++ [47] ++ W = T6 at *
    refine awp_loop (fun m st => ∃ i : Nat, i + m = 6 ∧ st.leB ⟨[(62, .ro (strL [s, T, SPL, T4, A, T6])), (63, .val (.int .i64 6)), (64, .val (.int .i64 (i : Int)))], []⟩) 6 ⟨0, by omega, by (refine leB_of ?_ ?_; (· (repeat (first | exact EnvIs.nil | (refine EnvIs.cons ?_ ?_; (· rfl))))); (· (repeat ((exact ObjsAre.nil)))))⟩ ?_
    rintro m st ⟨i, him, hle⟩
    refine awp_less hle ?_
    clear hle st
    have wi : IntKind.i64.wrap ((i : Int) + 1) = ((i + 1 : Nat) : Int) := by rw [IntKind.wrap_i64]; omega
    obtain ⟨j, hj⟩ : ∃ j, i + 1 = j := ⟨_, rfl⟩
    rw [hj] at wi
    (repeat (first | refine awp_reg_seq rfl fun k => ?_ | refine awp_seq ?_ | (apply runk0 rfl rfl (opok_bin rfl ?_ ?_ ?_) ?_; rotate_left 3; (· (conv => (lhs; whnf))); (· (conv => (lhs; whnf))); (· (intro w; go_simp; first | done | rfl))) | refine runk_end (by kernel_rfl) ?_))
    refine awp_if rfl (fun hc => ?_) (fun hc => ?_)
    · have hi2 : i < 6 := by simp at hc; omega
      clear hc
      obtain ⟨w, hw, hwl⟩ : ∃ w, (strL [s, T, SPL, T4, A, T6])[i]? = some (.val (bstr w)) ∧ w.length ≤ 100000 := by
        have : i = 0 ∨ i = 1 ∨ i = 2 ∨ i = 3 ∨ i = 4 ∨ i = 5 := by omega
        rcases this with rfl | rfl | rfl | rfl | rfl | rfl
        · exact ⟨s, rfl, by omega⟩
        · exact ⟨T, rfl, by omega⟩
        · exact ⟨SPL, rfl, by omega⟩
        · exact ⟨T4, rfl, by omega⟩
        · exact ⟨A, rfl, by omega⟩
        · exact ⟨T6, rfl, by omega⟩
      have pw := ps w hwl
      have rw' := rpp_spec w hwl
      obtain ⟨va, a1, b1, c1, e1, he⟩ := pfA_shape w
      rw [he] at pw rw'
      have n1 := neP_self va a1 b1 c1
      have n2 : (e1 != e1) = false := by simp
      clear he
      (repeat (first | refine awp_reg_seq rfl fun k => ?_ | refine awp_reg rfl fun k => ?_ | refine awp_seq ?_ | refine awp_false rfl ?_ | refine awp_skip (?_ : Awp _ _ _ _ _ _) | refine awp_block ?_ | (apply runk_pure rfl rfl rfl ?_ ?_ ?_ ?_ ?_ ?_ ?_ ?_; rotate_left 6; (· (conv => (lhs; whnf))); (· exact Tryz.func37); (· rfl); (· rfl); (· exact (pw)); (· (repeat (first | exact Rens.nil | (refine Rens.cons ?_ ?_; (· ((refine Ren.pureR ?_ rfl; (rfl)))))))); (· rfl)) | (apply runk_pure rfl rfl rfl ?_ ?_ ?_ ?_ ?_ ?_ ?_ ?_; rotate_left 6; (· (conv => (lhs; whnf))); (· exact Tryz.func38); (· rfl); (· rfl); (· exact (rw')); (· (repeat (first | exact Rens.nil | (refine Rens.cons ?_ ?_; (· ((refine Ren.pureR ?_ rfl; (rfl)))))))); (· rfl)) | (((apply runk0 rfl rfl (opok_index_ro rfl ?_ ?_ ?_ ?_ ?_ ?_ ?_) ?_; rotate_left 6; (· (conv => (lhs; whnf))); (· (conv => (lhs; whnf))); (· (conv => (lhs; whnf; arg 1; whnf))); (· (unfold sizeIs; conv => (lhs; whnf; arg 1; whnf))); (· simp); (· omega); (· simp only [Int.toNat_natCast]; exact hw)))) | (((((apply runk0 rfl rfl (opok_nePh rfl ?_ ?_ ?_) ?_; rotate_left 9; (· ((conv => (lhs; whnf)); try exact rfl)); (· ((conv => (lhs; whnf)); try exact rfl)); (· assumption)))))) | ((refine runk_ung rfl rfl rfl rfl ?_)) | (apply runk0 rfl rfl (opok_move rfl ?_) ?_; rotate_left 1; (· (conv => (lhs; whnf)))) | (apply runk0 rfl rfl (opok_assign rfl ?_) ?_; rotate_left 1; (· (conv => (lhs; whnf)))) | (((apply runk0 rfl rfl (opok_loadR rfl ?_ ?_ ?_) ?_; rotate_left 2; (· (conv => (lhs; whnf))); (· rfl); (· (conv => (lhs; whnf; arg 1; whnf)))))) | (apply runk0 rfl rfl (opok_loadA rfl ?_ ?_ ?_ ?_ ?_ ?_) ?_; rotate_left 6; (· (conv => (lhs; whnf))); (· (conv => (lhs; whnf; arg 1; whnf; arg 2; whnf))); (· rfl); (· (unfold sizeIs; conv => (lhs; whnf; arg 1; whnf))); (· (conv => (lhs; repeat (whnf; arg 2)))); (· rfl)) | (apply runk0 rfl rfl (opok_bin rfl ?_ ?_ ?_) ?_; rotate_left 3; (· (conv => (lhs; whnf))); (· (conv => (lhs; whnf))); (· (intro w; go_simp; rfl))) | (apply runk0 rfl rfl (opok_pick rfl ?_ ?_) ?_; rotate_left 2; (· (conv => (lhs; whnf))); (· (exact pick_or))) | (apply runk0 rfl rfl (opok_extract rfl ?_ ?_) ?_; rotate_left 2; (· (conv => (lhs; whnf))); (· (conv => (lhs; whnf; arg 1; whnf)))) | (apply runk_alloc rfl rfl rfl ?_ ?_ ?_; rotate_left 2; (· (conv => (lhs; whnf; arg 1; whnf))); (· (conv => (lhs; whnf)))) | (apply runk_store rfl rfl rfl ?_ ?_ ?_ ?_ ?_ ?_ ?_ ?_ ?_ ?_ ?_; rotate_left 9; (· (conv => (lhs; whnf))); (· (conv => (lhs; whnf))); (· (conv => (lhs; whnf; arg 1; whnf; arg 2; whnf))); (· rfl); (· (conv => (lhs; whnf))); (· rfl); (· (unfold sizeIs; conv => (lhs; whnf; arg 1; whnf))); (· rfl); (· rfl); (· (conv => (lhs; repeat (whnf; arg 2))))) | refine runk_end (by kernel_rfl) ?_))
      exact ⟨6 - j, by omega, j, by omega, by (refine leB_of ?_ ?_; (· (repeat (first | exact EnvIs.nil | (refine EnvIs.cons ?_ ?_; (· rfl))))); (· (repeat ((exact ObjsAre.nil)))))⟩
    · have hi2 : i = 6 := by simp at hc; omega
      subst hi2
      clear hc
      (repeat (first | refine awp_reg_seq rfl fun k => ?_ | refine awp_exit (?_ : Awp _ _ _ _ _ _) | (refine awp_ret ?_; (apply ends_pure ?_ ?_ ?_ ?_ ?_ (.inl rfl); rotate_left 1; (· (exact res_one rfl rfl)); (· rfl); (· rfl); (· rfl); (· rfl))) | (apply runk_pure rfl rfl rfl ?_ ?_ ?_ ?_ ?_ ?_ ?_ ?_; rotate_left 6; (· (conv => (lhs; whnf))); (· exact Tryz.func21); (· rfl); (· rfl); (· exact (aw)); (· (repeat ((exact Rens.nil)))); (· rfl)) | (apply runk0 rfl rfl (opok_assign rfl ?_) ?_; rotate_left 1; (· (conv => (lhs; whnf)))) | refine runk_end (by kernel_rfl) ?_))
end Go.Proofs.YtboddbheljenhaaGreatDoor
