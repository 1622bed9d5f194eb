/-
  The reference's Bytes and FromBytes.
-/
import Derived.Test.YtboddbheljenhaaGreatDoorAbsB
import Derived.Test.YtboddbheljenhaaGreatDoorRows
import Derived.Test.YtboddbheljenhaaGreatDoorG02
import Derived.Test.YtboddbheljenhaaGreatDoorAbsC
import Derived.Test.YtboddbheljenhaaGreatDoorG11
import Derived.Test.YtboddbheljenhaaGreatDoorG10
namespace Go.Proofs.YtboddbheljenhaaGreatDoor
open Go.RowKit
def by8 (n : Int) (m : Nat) : List Int := (List.range (8 - m)).map fun j => n / 256 ^ (7 - j) % 256
@[simp] theorem by8_length (n : Int) (m : Nat) : (by8 n m).length = 8 - m := by simp [by8]
set_option maxHeartbeats 1000000 in
theorem valid_any (hi lo : Int) (w : World) : Calls Tryz.prog 41 #[.agg #[.bool true, .int .u64 hi, .int .u64 lo]] w fun e w' => e = .returned (.bool true) ∧ Below w.heap.size w w' := by
  go_enter Tryz.func41, Tryz.ntmps41
  go_wp2
  go_ret
  exact ⟨rfl, (by repeat (with_reducible first | exact Below.refl _ _ | assumption | refine Below.drew ?_ | refine below_drewN ?_ _ | refine Below.alloc ?_ (by simp) _ | refine Below.setCell ?_ (by first | (simp; done) | omega | (simp; omega)) _ | refine Below.alloc ?_ (by simp; omega) _))⟩
theorem valid_v6 (hi lo : Int) : Spec Tryz.prog 41 [.agg [.val (.bool true), .val (.int .u64 hi), .val (.int .u64 lo)]] [] (.val (.bool true)) [] :=
  (spec_of_calls (vs := #[.agg #[.bool true, .int .u64 hi, .int .u64 lo]]) fun w => valid_any hi lo w).of (.agg (vs := [.bool true, .int .u64 hi, .int .u64 lo]) .nil)
set_option maxHeartbeats 1000000 in
theorem rvalid_any (hi lo : Int) (w : World) : Calls Tryz.prog 44 #[.agg #[.bool true, .int .u64 hi, .int .u64 lo]] w fun e w' => e = .returned (.bool true) ∧ Below w.heap.size w w' := by
  go_enter Tryz.func44, Tryz.ntmps44
  go_wp2
  go_ret
  exact ⟨rfl, (by repeat (with_reducible first | exact Below.refl _ _ | assumption | refine Below.drew ?_ | refine below_drewN ?_ _ | refine Below.alloc ?_ (by simp) _ | refine Below.setCell ?_ (by first | (simp; done) | omega | (simp; omega)) _ | refine Below.alloc ?_ (by simp; omega) _))⟩
theorem rvalid_v6 (hi lo : Int) : Spec Tryz.prog 44 [.agg [.val (.bool true), .val (.int .u64 hi), .val (.int .u64 lo)]] [] (.val (.bool true)) [] :=
  (spec_of_calls (vs := #[.agg #[.bool true, .int .u64 hi, .int .u64 lo]]) fun w => rvalid_any hi lo w).of (.agg (vs := [.bool true, .int .u64 hi, .int .u64 lo]) .nil)
def a16 (hi lo : Int) : List Int := by8 hi 0 ++ by8 lo 0
@[simp] theorem a16_length (hi lo : Int) : (a16 hi lo).length = 16 := by simp [a16]
def by4 (n : Int) (m : Nat) : List Int := (List.range (4 - m)).map fun j => n / 256 ^ (3 - j) % 256
@[simp] theorem by4_length (n : Int) (m : Nat) : (by4 n m).length = 4 - m := by simp [by4]
set_option maxHeartbeats 1000000 in
theorem valid4_any (hi lo : Int) (w : World) : Calls Tryz.prog 41 #[.agg #[.bool false, .int .u64 hi, .int .u64 lo]] w fun e w' => e = .returned (.bool (decide (hi = 0) && decide (lo ≤ 4294967295))) ∧ Below w.heap.size w w' := by
  have e3 : decide (lo < 4294967296) = decide (lo ≤ 4294967295) := by rw [decide_eq_decide]; omega
  by_cases h1 : hi = 0
  · have e1 : decide (hi = 0) = true := by simpa using h1
    have e2 : (hi == 0) = true := by simpa using h1
    rw [e1]
    go_enter Tryz.func41, Tryz.ntmps41
    go_wp2
    go_ret
    refine ⟨?_, (by repeat (with_reducible first | exact Below.refl _ _ | assumption | refine Below.drew ?_ | refine below_drewN ?_ _ | refine Below.alloc ?_ (by simp) _ | refine Below.setCell ?_ (by first | (simp; done) | omega | (simp; omega)) _ | refine Below.alloc ?_ (by simp; omega) _))⟩
    first | rfl | (rw [← e3]; rfl)
  · have e1 : decide (hi = 0) = false := by simpa using h1
    have e2 : (hi == 0) = false := by simpa using h1
    rw [e1]
    go_enter Tryz.func41, Tryz.ntmps41
    go_wp2
    go_ret
    refine ⟨?_, (by repeat (with_reducible first | exact Below.refl _ _ | assumption | refine Below.drew ?_ | refine below_drewN ?_ _ | refine Below.alloc ?_ (by simp) _ | refine Below.setCell ?_ (by first | (simp; done) | omega | (simp; omega)) _ | refine Below.alloc ?_ (by simp; omega) _))⟩
    first | rfl | (rw [← e3]; rfl)
theorem valid_v4 (hi lo : Int) : Spec Tryz.prog 41 [.agg [.val (.bool false), .val (.int .u64 hi), .val (.int .u64 lo)]] [] (.val (.bool (decide (hi = 0) && decide (lo ≤ 4294967295)))) [] :=
  (spec_of_calls (vs := #[.agg #[.bool false, .int .u64 hi, .int .u64 lo]]) fun w => valid4_any hi lo w).of (.agg (vs := [.bool false, .int .u64 hi, .int .u64 lo]) .nil)
set_option maxHeartbeats 1000000 in
theorem rvalid4_any (hi lo : Int) (w : World) : Calls Tryz.prog 44 #[.agg #[.bool false, .int .u64 hi, .int .u64 lo]] w fun e w' => e = .returned (.bool (decide (hi = 0) && decide (lo ≤ 4294967295))) ∧ Below w.heap.size w w' := by
  have e3 : decide (lo < 4294967296) = decide (lo ≤ 4294967295) := by rw [decide_eq_decide]; omega
  by_cases h1 : hi = 0
  · have e1 : decide (hi = 0) = true := by simpa using h1
    have e2 : (hi == 0) = true := by simpa using h1
    rw [e1]
    go_enter Tryz.func44, Tryz.ntmps44
    go_wp2
    go_ret
    refine ⟨?_, (by repeat (with_reducible first | exact Below.refl _ _ | assumption | refine Below.drew ?_ | refine below_drewN ?_ _ | refine Below.alloc ?_ (by simp) _ | refine Below.setCell ?_ (by first | (simp; done) | omega | (simp; omega)) _ | refine Below.alloc ?_ (by simp; omega) _))⟩
    first | rfl | (rw [← e3]; rfl)
  · have e1 : decide (hi = 0) = false := by simpa using h1
    have e2 : (hi == 0) = false := by simpa using h1
    rw [e1]
    go_enter Tryz.func44, Tryz.ntmps44
    go_wp2
    go_ret
    refine ⟨?_, (by repeat (with_reducible first | exact Below.refl _ _ | assumption | refine Below.drew ?_ | refine below_drewN ?_ _ | refine Below.alloc ?_ (by simp) _ | refine Below.setCell ?_ (by first | (simp; done) | omega | (simp; omega)) _ | refine Below.alloc ?_ (by simp; omega) _))⟩
    first | rfl | (rw [← e3]; rfl)
theorem rvalid_v4 (hi lo : Int) : Spec Tryz.prog 44 [.agg [.val (.bool false), .val (.int .u64 hi), .val (.int .u64 lo)]] [] (.val (.bool (decide (hi = 0) && decide (lo ≤ 4294967295)))) [] :=
  (spec_of_calls (vs := #[.agg #[.bool false, .int .u64 hi, .int .u64 lo]]) fun w => rvalid4_any hi lo w).of (.agg (vs := [.bool false, .int .u64 hi, .int .u64 lo]) .nil)
def numZ (xs : List Int) : Int := xs.foldl (fun n c => n * 256 + c) 0
theorem numZ_snoc (xs : List Int) (c : Int) : numZ (xs ++ [c]) = numZ xs * 256 + c := by simp [numZ]
theorem numZ_take {xs : List Int} {i : Nat} (h : i < xs.length) : numZ (xs.take (i + 1)) = numZ (xs.take i) * 256 + xs.getD i 0 := by
  rw [← numZ_snoc]
  congr 1
  rw [List.take_add_one, List.getD_eq_getElem?_getD, List.getElem?_eq_getElem h]; rfl
theorem numF_bd : ∀ (xs : List Int) (a : Int), Bytes xs → 0 ≤ a → 0 ≤ xs.foldl (fun n c => n * 256 + c) a ∧ xs.foldl (fun n c => n * 256 + c) a < (a + 1) * 256 ^ xs.length
  | [], a, _, h => by simp; omega
  | c :: xs, a, hb, h => by
    have hc := hb c List.mem_cons_self
    obtain ⟨h1, h2⟩ := numF_bd xs (a * 256 + c) (fun z hz => hb z (List.mem_cons_of_mem _ hz)) (by omega)
    refine ⟨h1, Int.lt_of_lt_of_le h2 ?_⟩
    rw [List.length_cons, Int.pow_succ, Int.mul_comm (256 ^ xs.length) 256, ← Int.mul_assoc]
    exact Int.mul_le_mul_of_nonneg_right (by omega) (Int.le_of_lt (Int.pow_pos (by decide)))
theorem numZ_bd (xs : List Int) (hb : Bytes xs) : 0 ≤ numZ xs ∧ numZ xs < 256 ^ xs.length := by
  have := numF_bd xs 0 hb (Int.le_refl _)
  simpa [numZ] using this
theorem or8_u64' (a b : Int) (h1 : 0 ≤ a) (h2 : a < 72057594037927936) (h3 : 0 ≤ b) (h4 : b < 256) : bits .or .u64 (a * 256) b = a * 256 + b :=
  bits_join .u64 64 (by decide) (fun n h0 h1 => by rw [IntKind.wrap_u64]; omega) 8 (a * 256) b (by omega) (by omega) (by omega) h3 (by omega) (by omega)
def fromZ (xs : List Int) : Bool × Int × Int := if xs.length = 4 then (false, 0, numZ xs) else if xs.length = 16 then (true, numZ (xs.take 8), numZ (xs.drop 8)) else (false, 0, 0)
def fromE (xs : List Int) : Int := if xs.length = 4 ∨ xs.length = 16 then 0 else 1
def t16 (hi lo : Int) (m : Nat) : List Int := (a16 hi lo).take (16 - m)
@[simp] theorem t16_length (hi lo : Int) (m : Nat) : (t16 hi lo m).length = 16 - m := by simp [t16]
theorem t16_step (hi lo : Int) (i : Nat) (h : i < 16) : t16 hi lo (i + 1) ++ [(if 8 ≤ i then hi else lo) / 256 ^ (i % 8) % 256] = t16 hi lo i := by
  have : i = 0 ∨ i = 1 ∨ i = 2 ∨ i = 3 ∨ i = 4 ∨ i = 5 ∨ i = 6 ∨ i = 7 ∨ i = 8 ∨ i = 9 ∨ i = 10 ∨ i = 11 ∨ i = 12 ∨ i = 13 ∨ i = 14 ∨ i = 15 := by omega
  rcases this with rfl | rfl | rfl | rfl | rfl | rfl | rfl | rfl | rfl | rfl | rfl | rfl | rfl | rfl | rfl | rfl <;> simp [t16, a16, by8, List.range_succ]
set_option maxHeartbeats 8000000 in
set_option maxRecDepth 100000 in
theorem rbytes_v6 (hi lo : Int) : Spec Tryz.prog 46 [.agg [.val (.bool true), .val (.int .u64 hi), .val (.int .u64 lo)]] [] (.own 1000 0 16) [(1000, some (0, .row 5 1 (ints .u8 (a16 hi lo))))] := by
  refine spec_of_awp Tryz.func46 rfl (Nat.le_of_ble_eq_true rfl) fun ini => ?_
  simp only [Tryz.ntmps46]
  refine awp_reg_seq rfl fun k1 => ?_
  (repeat (first | (apply runk0 rfl rfl (opok_assign rfl ?_) ?_; rotate_left 1; (· (conv => (lhs; whnf)))) | (apply runk_box rfl rfl rfl ?_ ?_ ?_ ?_; rotate_left 2; (· (conv => (lhs; whnf))); (· rfl); (· (conv => (lhs; whnf)))) | refine runk_end (by kernel_rfl) ?_))
  refine awp_seq ?_
  refine awp_reg_seq rfl fun k2 => ?_
  (repeat (first | (apply runk0 rfl rfl (opok_loadA rfl ?_ ?_ ?_ ?_ ?_ ?_) ?_; rotate_left 6; (· (conv => (lhs; whnf))); (· (conv => (lhs; whnf; arg 1; whnf; arg 2; whnf))); (· rfl); (· (unfold sizeIs; conv => (lhs; whnf; arg 1; whnf))); (· (conv => (lhs; repeat (whnf; arg 2)))); (· rfl))))
  (apply runk_pure rfl rfl rfl ?_ ?_ ?_ ?_ ?_ ?_ ?_ ?_; rotate_left 6; (· (conv => (lhs; whnf))); (· exact Tryz.func44); (· rfl); (· rfl); (· exact (rvalid_v6 hi lo)); (· (repeat (first | exact Rens.nil | (refine Rens.cons ?_ ?_; (· ((refine Ren.pureR ?_ rfl; (rfl)))))))); (· rfl))
  (repeat (first | (apply runk0 rfl rfl (opok_un rfl ?_ ?_) ?_; rotate_left 2; (· (conv => (lhs; whnf))); (· (intro w; go_simp; first | done | rfl))) | refine runk_end (by kernel_rfl) ?_))
  refine awp_false rfl ?_
  refine awp_skip (?_ : Awp _ _ _ _ _ _)
  refine awp_reg_seq rfl fun k3 => ?_
  (repeat (first | (apply runk0 rfl rfl (opok_assign rfl ?_) ?_; rotate_left 1; (· (conv => (lhs; whnf)))) | refine runk_end (by kernel_rfl) ?_))
  refine awp_seq ?_
  refine awp_reg_seq rfl fun k4 => ?_
  (repeat (first | (apply runk_fa rfl rfl rfl ?_ rfl rfl ?_ ?_ ?_ ?_; rotate_left 5; (· (conv => (lhs; whnf))); (· (unfold sizeIs; conv => (lhs; whnf; arg 1; whnf))); (· rfl); (· (conv => (lhs; whnf)))) | (((apply runk0 rfl rfl (opok_load rfl ?_ ?_ ?_ ?_) ?_; rotate_left 5; (· (conv => (lhs; whnf))); (· (conv => (lhs; whnf; arg 1; whnf; arg 2; whnf))); (· rfl); (· (conv => (lhs; whnf; arg 1; whnf)))))) | refine runk_end (by kernel_rfl) ?_))
  refine awp_true rfl ?_
  refine awp_reg rfl fun k5 => ?_
  (repeat (first | (apply runk0 rfl rfl (opok_assign rfl ?_) ?_; rotate_left 1; (· (conv => (lhs; whnf)))) | refine runk_end (by kernel_rfl) ?_))
  show Awp _ _ _ _ _ _
  refine awp_reg_seq rfl fun k6 => ?_
  (repeat (first | (apply runk0 rfl rfl (opok_assign rfl ?_) ?_; rotate_left 1; (· (conv => (lhs; whnf)))) | refine runk_end (by kernel_rfl) ?_))
  refine awp_seq ?_
  refine awp_reg_seq rfl fun k7 => ?_
  (repeat (first | (apply runk0 rfl rfl (opok_move rfl ?_) ?_; rotate_left 1; (· (conv => (lhs; whnf)))) | (apply runk0 rfl rfl (opok_assign rfl ?_) ?_; rotate_left 1; (· (conv => (lhs; whnf)))) | (apply runk0 rfl rfl (opok_bin rfl ?_ ?_ ?_) ?_; rotate_left 3; (· (conv => (lhs; whnf))); (· (conv => (lhs; whnf))); (· (intro w; go_simp; rfl))) | refine runk_end (by kernel_rfl) ?_))
  refine awp_adopt 4 4 5 1 rfl fun k8 => ?_
  refine awp_block ?_
  refine awp_loop (fun m st => m ≤ 16 ∧ ∃ kb, st.leB ⟨[(1, .ptr 1 k1 0), (4, .own 4 kb (16 - m)), (5, .val (.int .i64 ((m : Int) - 1)))], [(1, some (k1, .box 24 [.val (.bool true), .val (.int .u64 hi), .val (.int .u64 lo)])), (4, some (kb, .row 5 1 (ints .u8 (t16 hi lo m))))]⟩) 16 ⟨Nat.le_refl _, k8, ?_⟩ ?_
  · have e : t16 hi lo 16 = [] := by simp [t16]
    (refine leB_of ?_ ?_; (· (repeat (first | exact EnvIs.nil | (refine EnvIs.cons ?_ ?_; (· rfl))))); (· (repeat (first | exact ObjsAre.nil | (refine ObjsAre.cons ?_ ?_; (· rfl))))))
  · rintro m st ⟨hm, kb, hle⟩
    refine awp_less hle ?_
    clear hle st
    refine awp_seq ?_
    refine awp_reg_seq rfl fun c1 => ?_
    (repeat (first | (apply runk0 rfl rfl (opok_move rfl ?_) ?_; rotate_left 1; (· (conv => (lhs; whnf)))) | (apply runk0 rfl rfl (opok_bin rfl ?_ ?_ ?_) ?_; rotate_left 3; (· (conv => (lhs; whnf))); (· (conv => (lhs; whnf))); (· (intro w; go_simp; rfl))) | refine runk_end (by kernel_rfl) ?_))
    refine awp_cond _ rfl (fun hc => ?_) (fun hc => ?_)
    · have hm0 : 0 < m := by simp at hc; omega
      obtain ⟨i, rfl⟩ : ∃ i, m = i + 1 := ⟨m - 1, by omega⟩
      have hstep := t16_step hi lo i (by omega)
      have e0 : ((i + 1 : Nat) : Int) - 1 = (i : Int) := by omega
      rw [e0]
      clear hc
      have hr : (i : Int).tmod 8 = ((i % 8 : Nat) : Int) := by rw [Int.tmod_eq_emod_of_nonneg (by omega)]; omega
      have hr8 : i % 8 < 8 := by omega
      generalize i % 8 = r at hstep hr hr8
      have hw0 : IntKind.u64.wrap (r : Int) = (r : Int) := by simp only [IntKind.wrap, IntKind.bits, IntKind.signed]; simp; omega
      have hw1 : IntKind.u64.wrap (8 * (r : Int)) = 8 * (r : Int) := by simp only [IntKind.wrap, IntKind.bits, IntKind.signed]; simp; omega
      have hw2 : IntKind.i64.wrap ((i : Int) - 1) = (i : Int) - 1 := by rw [IntKind.wrap_i64]; omega
      have hb8 : ∀ X : Int, IntKind.u8.wrap (X / 2 ^ (8 * (r : Int)).toNat) = X / 256 ^ r % 256 := fun X => by
        have e : (8 * (r : Int)).toNat = 8 * r := by omega
        rw [IntKind.wrap_u8, e, Int.pow_mul]; rfl
      have h64 : min (8 * (r : Int)).toNat 64 = (8 * (r : Int)).toNat := by omega
      refine awp_skip (?_ : Awp _ _ _ _ _ _)
      refine awp_seq (awp_block ?_)
      refine awp_reg_seq rfl fun c2 => ?_
      (repeat (first | (apply runk0 rfl rfl (opok_assign rfl ?_) ?_; rotate_left 1; (· (conv => (lhs; whnf)))) | (apply runk_fa rfl rfl rfl ?_ rfl rfl ?_ ?_ ?_ ?_; rotate_left 5; (· (conv => (lhs; whnf))); (· (unfold sizeIs; conv => (lhs; whnf; arg 1; whnf))); (· rfl); (· (conv => (lhs; whnf)))) | (((apply runk0 rfl rfl (opok_load rfl ?_ ?_ ?_ ?_) ?_; rotate_left 5; (· (conv => (lhs; whnf))); (· (conv => (lhs; whnf; arg 1; whnf; arg 2; whnf))); (· rfl); (· (conv => (lhs; whnf; arg 1; whnf)))))) | refine runk_end (by kernel_rfl) ?_))
      refine awp_seq ?_
      refine awp_reg_seq rfl fun c3 => ?_
      (repeat (first | (apply runk0 rfl rfl (opok_move rfl ?_) ?_; rotate_left 1; (· (conv => (lhs; whnf)))) | (apply runk0 rfl rfl (opok_bin rfl ?_ ?_ ?_) ?_; rotate_left 3; (· (conv => (lhs; whnf))); (· (conv => (lhs; whnf))); (· (intro w; go_simp; rfl))) | refine runk_end (by kernel_rfl) ?_))
      by_cases h8 : 8 ≤ i
      · rw [if_pos h8] at hstep
        have hd : decide ((8 : Int) ≤ (i : Int)) = true := by simp; omega
        rw [hd]
        refine awp_true rfl ?_
        refine awp_reg rfl fun c4 => ?_
        (repeat (first | (apply runk0 rfl rfl (opok_assign rfl ?_) ?_; rotate_left 1; (· (conv => (lhs; whnf)))) | (apply runk_fa rfl rfl rfl ?_ rfl rfl ?_ ?_ ?_ ?_; rotate_left 5; (· (conv => (lhs; whnf))); (· (unfold sizeIs; conv => (lhs; whnf; arg 1; whnf))); (· rfl); (· (conv => (lhs; whnf)))) | (((apply runk0 rfl rfl (opok_load rfl ?_ ?_ ?_ ?_) ?_; rotate_left 5; (· (conv => (lhs; whnf))); (· (conv => (lhs; whnf; arg 1; whnf; arg 2; whnf))); (· rfl); (· (conv => (lhs; whnf; arg 1; whnf)))))) | refine runk_end (by kernel_rfl) ?_))
        show Awp _ _ _ _ _ _
        refine awp_reg rfl fun c5 => ?_
        (repeat (first | (apply runk0 rfl rfl (opok_move rfl ?_) ?_; rotate_left 1; (· (conv => (lhs; whnf)))) | (apply runk_assignOwn rfl rfl rfl ?_ ?_ ?_; rotate_left 4; (· (conv => (lhs; whnf))); (· (conv => (lhs; whnf; arg 1; whnf)))) | (apply runk0 rfl rfl (opok_bin rfl ?_ ?_ ?_) ?_; rotate_left 3; (· (conv => (lhs; whnf))); (· (conv => (lhs; whnf))); (· (intro w; go_simp; rfl))) | (apply runk0 rfl rfl (opok_conv rfl ?_ ?_) ?_; rotate_left 2; (· (conv => (lhs; whnf))); (· (intro w; go_simp; rfl))) | (apply runk_lit rfl rfl rfl ?_ ?_ ?_ ?_ ?_ ?_ ?_ ?_ ?_ ?_ ?_; rotate_left 4; (· (conv => (lhs; whnf; arg 1; whnf))); (· (unfold sizeIs; conv => (lhs; whnf; arg 1; whnf))); (· (conv => (lhs; whnf; arg 1; whnf))); (· rfl); (· rfl); (· rfl); (· rfl); (· (repeat (first | exact PartsAre.nil _ | (apply PartsAre.cons; (· (conv => (lhs; whnf))))))); (· rfl); (· rfl)) | refine runk_end (by kernel_rfl) ?_ | (apply runk_app rfl rfl rfl ?_ ?_ ?_ ?_ ?_ ?_ ?_ ?_ ?_ ?_ ?_ ?_ ?_ ?_ ?_ ?_; rotate_left 11; (· (conv => (lhs; whnf))); (· (conv => (lhs; whnf))); (· (conv => (lhs; whnf; arg 1; whnf))); (· (unfold sizeIs; conv => (lhs; whnf; arg 1; whnf))); (· (conv => (lhs; whnf; arg 1; whnf))); (· (conv => (lhs; whnf; arg 1; whnf))); (· rfl); (· rfl); (· rfl); (· ((refine .own _ _ _ _ rfl ?_; ((simp; done))))); (· ((refine .own _ _ _ _ _ _ rfl ?_; rfl))); (· rfl); (· rfl); (· ((simp; omega))); (· ((simp only [List.nil_append, ints_takeR, ints_dropR, ints_one, ints_consR, ints_append]; rfl))))))
        try (apply runk_app rfl rfl rfl ?_ ?_ ?_ ?_ ?_ ?_ ?_ ?_ ?_ ?_ ?_ ?_ ?_ ?_ ?_ ?_; rotate_left 11; (· (conv => (lhs; whnf))); (· (conv => (lhs; whnf))); (· (conv => (lhs; whnf; arg 1; whnf))); (· (unfold sizeIs; conv => (lhs; whnf; arg 1; whnf))); (· (conv => (lhs; whnf; arg 1; whnf))); (· (conv => (lhs; whnf; arg 1; whnf))); (· rfl); (· rfl); (· rfl); (· first | exact .nil | (refine .own _ _ _ _ rfl ?_; first | rfl | (simp; done)) | (refine .pre _ _ _ _ rfl ?_ ?_; (· first | omega | (simp; done) | (simp; omega)); (· first | exact widths_ints _ _ | rfl | (simp; done)))); (· first | exact .ro _ | (refine .own _ _ _ _ _ _ rfl ?_; first | rfl | (simp; done)) | exact .nil | (refine .pre _ _ _ _ _ _ rfl ?_ ?_; (· first | omega | (simp; done) | (simp; omega)); (· first | exact widths_ints _ _ | rfl | (simp; done))) | (refine .sub _ _ _ _ _ _ _ rfl ?_ ?_; (· first | omega | (simp; done) | (simp; omega)); (· first | exact widths_ints _ _ | rfl | (simp; done)))); (· first | rfl | exact one_ints _ _ | exact widths_ints _ _ | simp); (· first | rfl | exact one_ints _ _ | exact widths_ints _ _ | simp); (· simp; omega); (· first | (simp only [ints_one, ints_consR, ints_append]; done) | (simp only [ints_one, ints_consR, ints_append]; rfl) | rfl))
        rw [hstep]
        skip
        show Awp _ _ _ _ _ _
        refine awp_reg rfl fun c6 => ?_
        (repeat (first | (apply runk0 rfl rfl (opok_move rfl ?_) ?_; rotate_left 1; (· (conv => (lhs; whnf)))) | (apply runk0 rfl rfl (opok_assign rfl ?_) ?_; rotate_left 1; (· (conv => (lhs; whnf)))) | (apply runk0 rfl rfl (opok_bin rfl ?_ ?_ ?_) ?_; rotate_left 3; (· (conv => (lhs; whnf))); (· (conv => (lhs; whnf))); (· (intro w; go_simp; rfl))) | refine runk_end (by kernel_rfl) ?_))
        refine ⟨i, by omega, by omega, c5, ?_⟩
        (refine leB_of ?_ ?_; (· (repeat (first | exact EnvIs.nil | (refine EnvIs.cons ?_ ?_; (· first | rfl | ((conv => (lhs; whnf)); ((simp [ints]; done)))))))); (· (repeat (first | exact ObjsAre.nil | (refine ObjsAre.cons ?_ ?_; (· rfl))))))
      · rw [if_neg h8] at hstep
        have hd : decide ((8 : Int) ≤ (i : Int)) = false := by simp; omega
        rw [hd]
        refine awp_false rfl ?_
        refine awp_skip (?_ : Awp _ _ _ _ _ _)
        refine awp_reg rfl fun c5 => ?_
        (repeat (first | (apply runk0 rfl rfl (opok_move rfl ?_) ?_; rotate_left 1; (· (conv => (lhs; whnf)))) | (apply runk_assignOwn rfl rfl rfl ?_ ?_ ?_; rotate_left 4; (· (conv => (lhs; whnf))); (· (conv => (lhs; whnf; arg 1; whnf)))) | (apply runk0 rfl rfl (opok_bin rfl ?_ ?_ ?_) ?_; rotate_left 3; (· (conv => (lhs; whnf))); (· (conv => (lhs; whnf))); (· (intro w; go_simp; rfl))) | (apply runk0 rfl rfl (opok_conv rfl ?_ ?_) ?_; rotate_left 2; (· (conv => (lhs; whnf))); (· (intro w; go_simp; rfl))) | (apply runk_lit rfl rfl rfl ?_ ?_ ?_ ?_ ?_ ?_ ?_ ?_ ?_ ?_ ?_; rotate_left 4; (· (conv => (lhs; whnf; arg 1; whnf))); (· (unfold sizeIs; conv => (lhs; whnf; arg 1; whnf))); (· (conv => (lhs; whnf; arg 1; whnf))); (· rfl); (· rfl); (· rfl); (· rfl); (· (repeat (first | exact PartsAre.nil _ | (apply PartsAre.cons; (· (conv => (lhs; whnf))))))); (· rfl); (· rfl)) | refine runk_end (by kernel_rfl) ?_ | (apply runk_app rfl rfl rfl ?_ ?_ ?_ ?_ ?_ ?_ ?_ ?_ ?_ ?_ ?_ ?_ ?_ ?_ ?_ ?_; rotate_left 11; (· (conv => (lhs; whnf))); (· (conv => (lhs; whnf))); (· (conv => (lhs; whnf; arg 1; whnf))); (· (unfold sizeIs; conv => (lhs; whnf; arg 1; whnf))); (· (conv => (lhs; whnf; arg 1; whnf))); (· (conv => (lhs; whnf; arg 1; whnf))); (· rfl); (· rfl); (· rfl); (· ((refine .own _ _ _ _ rfl ?_; ((simp; done))))); (· ((refine .own _ _ _ _ _ _ rfl ?_; rfl))); (· rfl); (· rfl); (· ((simp; omega))); (· ((simp only [List.nil_append, ints_takeR, ints_dropR, ints_one, ints_consR, ints_append]; rfl))))))
        try (apply runk_app rfl rfl rfl ?_ ?_ ?_ ?_ ?_ ?_ ?_ ?_ ?_ ?_ ?_ ?_ ?_ ?_ ?_ ?_; rotate_left 11; (· (conv => (lhs; whnf))); (· (conv => (lhs; whnf))); (· (conv => (lhs; whnf; arg 1; whnf))); (· (unfold sizeIs; conv => (lhs; whnf; arg 1; whnf))); (· (conv => (lhs; whnf; arg 1; whnf))); (· (conv => (lhs; whnf; arg 1; whnf))); (· rfl); (· rfl); (· rfl); (· first | exact .nil | (refine .own _ _ _ _ rfl ?_; first | rfl | (simp; done)) | (refine .pre _ _ _ _ rfl ?_ ?_; (· first | omega | (simp; done) | (simp; omega)); (· first | exact widths_ints _ _ | rfl | (simp; done)))); (· first | exact .ro _ | (refine .own _ _ _ _ _ _ rfl ?_; first | rfl | (simp; done)) | exact .nil | (refine .pre _ _ _ _ _ _ rfl ?_ ?_; (· first | omega | (simp; done) | (simp; omega)); (· first | exact widths_ints _ _ | rfl | (simp; done))) | (refine .sub _ _ _ _ _ _ _ rfl ?_ ?_; (· first | omega | (simp; done) | (simp; omega)); (· first | exact widths_ints _ _ | rfl | (simp; done)))); (· first | rfl | exact one_ints _ _ | exact widths_ints _ _ | simp); (· first | rfl | exact one_ints _ _ | exact widths_ints _ _ | simp); (· simp; omega); (· first | (simp only [ints_one, ints_consR, ints_append]; done) | (simp only [ints_one, ints_consR, ints_append]; rfl) | rfl))
        rw [hstep]
        skip
        show Awp _ _ _ _ _ _
        refine awp_reg rfl fun c6 => ?_
        (repeat (first | (apply runk0 rfl rfl (opok_move rfl ?_) ?_; rotate_left 1; (· (conv => (lhs; whnf)))) | (apply runk0 rfl rfl (opok_assign rfl ?_) ?_; rotate_left 1; (· (conv => (lhs; whnf)))) | (apply runk0 rfl rfl (opok_bin rfl ?_ ?_ ?_) ?_; rotate_left 3; (· (conv => (lhs; whnf))); (· (conv => (lhs; whnf))); (· (intro w; go_simp; rfl))) | refine runk_end (by kernel_rfl) ?_))
        refine ⟨i, by omega, by omega, c5, ?_⟩
        (refine leB_of ?_ ?_; (· (repeat (first | exact EnvIs.nil | (refine EnvIs.cons ?_ ?_; (· first | rfl | ((conv => (lhs; whnf)); ((simp [ints]; done)))))))); (· (repeat (first | exact ObjsAre.nil | (refine ObjsAre.cons ?_ ?_; (· rfl))))))
    · have hm0 : m = 0 := by simp at hc; omega
      subst hm0
      have e : t16 hi lo 0 = a16 hi lo := by unfold t16; exact List.take_of_length_le (by simp)
      rw [e]
      refine awp_exit (?_ : Awp _ _ _ _ _ _)
      refine awp_reg_seq rfl fun c5 => ?_
      (repeat (first | (apply runk0 rfl rfl (opok_move rfl ?_) ?_; rotate_left 1; (· (conv => (lhs; whnf)))) | (apply runk_assignOwn rfl rfl rfl ?_ ?_ ?_; rotate_left 4; (· (conv => (lhs; whnf))); (· (conv => (lhs; whnf; arg 1; whnf)))) | refine runk_end (by kernel_rfl) ?_))
      refine awp_ret ?_
      (apply ends_own rfl ?_ ?_ ?_ ?_ ?_ ?_ ?_ (.inl rfl); rotate_left 5; (· (conv => (lhs; whnf))); (· (conv => (lhs; whnf; arg 1; whnf))); (· rfl); (· first | rfl | (simp; done)); (· first | rfl | (rfl)); (· first | rfl | (simp; done) | (simp [AVal.pure, AVal.pures, AObj.pure]; done)); (· rfl))

def t4 (lo : Int) (m : Nat) : List Int := (by4 lo 0).take (4 - m)
@[simp] theorem t4_length (lo : Int) (m : Nat) : (t4 lo m).length = 4 - m := by simp [t4]
theorem t4_step (lo : Int) (i : Nat) (h : i < 4) : t4 lo (i + 1) ++ [lo / 256 ^ (i % 8) % 256] = t4 lo i := by
  have : i = 0 ∨ i = 1 ∨ i = 2 ∨ i = 3 := by omega
  rcases this with rfl | rfl | rfl | rfl <;> simp [t4, by4, List.range_succ]
set_option maxHeartbeats 8000000 in
set_option maxRecDepth 100000 in
theorem rbytes_v4 (lo : Int) (hl : lo ≤ 4294967295) : Spec Tryz.prog 46 [.agg [.val (.bool false), .val (.int .u64 0), .val (.int .u64 lo)]] [] (.own 1000 0 4) [(1000, some (0, .row 5 1 (ints .u8 (by4 lo 0))))] := by
  have sv := rvalid_v4 0 lo
  have hv : (decide ((0 : Int) = 0) && decide (lo ≤ 4294967295)) = true := by simp [hl]
  rw [hv] at sv
  refine spec_of_awp Tryz.func46 rfl (Nat.le_of_ble_eq_true rfl) fun ini => ?_
  simp only [Tryz.ntmps46]
  refine awp_reg_seq rfl fun k1 => ?_
  (repeat (first | refine awp_reg_seq rfl fun k => ?_ | refine awp_seq ?_ | refine awp_false rfl ?_ | refine awp_skip (?_ : Awp _ _ _ _ _ _) | refine awp_block ?_ | (apply runk_pure rfl rfl rfl ?_ ?_ ?_ ?_ ?_ ?_ ?_ ?_; rotate_left 6; (· (conv => (lhs; whnf))); (· exact Tryz.func44); (· rfl); (· rfl); (· exact (sv)); (· (repeat (first | exact Rens.nil | (refine Rens.cons ?_ ?_; (· ((refine Ren.pureR ?_ rfl; (rfl)))))))); (· rfl)) | (apply runk0 rfl rfl (opok_move rfl ?_) ?_; rotate_left 1; (· (conv => (lhs; whnf)))) | (apply runk0 rfl rfl (opok_assign rfl ?_) ?_; rotate_left 1; (· (conv => (lhs; whnf)))) | (apply runk_fa rfl rfl rfl ?_ rfl rfl ?_ ?_ ?_ ?_; rotate_left 5; (· (conv => (lhs; whnf))); (· (unfold sizeIs; conv => (lhs; whnf; arg 1; whnf))); (· rfl); (· (conv => (lhs; whnf)))) | (((apply runk0 rfl rfl (opok_load rfl ?_ ?_ ?_ ?_) ?_; rotate_left 5; (· (conv => (lhs; whnf))); (· (conv => (lhs; whnf; arg 1; whnf; arg 2; whnf))); (· rfl); (· (conv => (lhs; whnf; arg 1; whnf)))))) | (apply runk0 rfl rfl (opok_loadA rfl ?_ ?_ ?_ ?_ ?_ ?_) ?_; rotate_left 6; (· (conv => (lhs; whnf))); (· (conv => (lhs; whnf; arg 1; whnf; arg 2; whnf))); (· rfl); (· (unfold sizeIs; conv => (lhs; whnf; arg 1; whnf))); (· (conv => (lhs; repeat (whnf; arg 2)))); (· rfl)) | (apply runk0 rfl rfl (opok_bin rfl ?_ ?_ ?_) ?_; rotate_left 3; (· (conv => (lhs; whnf))); (· (conv => (lhs; whnf))); (· (intro w; go_simp; rfl))) | (apply runk0 rfl rfl (opok_un rfl ?_ ?_) ?_; rotate_left 2; (· (conv => (lhs; whnf))); (· (intro w; go_simp; rfl))) | (apply runk_box rfl rfl rfl ?_ ?_ ?_ ?_; rotate_left 2; (· (conv => (lhs; whnf))); (· rfl); (· (conv => (lhs; whnf)))) | refine runk_end (by kernel_rfl) ?_))
  refine awp_adopt 4 4 5 1 rfl fun k8 => ?_
  refine awp_loop (fun m st => m ≤ 4 ∧ ∃ kb, st.leB ⟨[(1, .ptr 1 k1 0), (4, .own 4 kb (4 - m)), (5, .val (.int .i64 ((m : Int) - 1)))], [(1, some (k1, .box 24 [.val (.bool false), .val (.int .u64 0), .val (.int .u64 lo)])), (4, some (kb, .row 5 1 (ints .u8 (t4 lo m))))]⟩) 4 ⟨Nat.le_refl _, k8, ?_⟩ ?_
  · have e : t4 lo 4 = [] := by simp [t4]
    (refine leB_of ?_ ?_; (· (repeat (first | exact EnvIs.nil | (refine EnvIs.cons ?_ ?_; (· rfl))))); (· (repeat (first | exact ObjsAre.nil | (refine ObjsAre.cons ?_ ?_; (· rfl))))))
  · rintro m st ⟨hm, kb, hle⟩
    refine awp_less hle ?_
    clear hle st
    (repeat (first | refine awp_reg_seq rfl fun k => ?_ | refine awp_seq ?_ | (apply runk0 rfl rfl (opok_move rfl ?_) ?_; rotate_left 1; (· (conv => (lhs; whnf)))) | (apply runk0 rfl rfl (opok_bin rfl ?_ ?_ ?_) ?_; rotate_left 3; (· (conv => (lhs; whnf))); (· (conv => (lhs; whnf))); (· (intro w; go_simp; rfl))) | refine runk_end (by kernel_rfl) ?_))
    refine awp_if rfl (fun hc => ?_) (fun hc => ?_)
    · have hm0 : 0 < m := by simp at hc; omega
      obtain ⟨i, rfl⟩ : ∃ i, m = i + 1 := ⟨m - 1, by omega⟩
      have hstep := t4_step lo i (by omega)
      have e0 : ((i + 1 : Nat) : Int) - 1 = (i : Int) := by omega
      rw [e0]
      clear hc
      have hr : (i : Int).tmod 8 = ((i % 8 : Nat) : Int) := by rw [Int.tmod_eq_emod_of_nonneg (by omega)]; omega
      have hr8 : i % 8 < 8 := by omega
      generalize i % 8 = r at hstep hr hr8
      have hw0 : IntKind.u64.wrap (r : Int) = (r : Int) := by simp only [IntKind.wrap, IntKind.bits, IntKind.signed]; simp; omega
      have hw1 : IntKind.u64.wrap (8 * (r : Int)) = 8 * (r : Int) := by simp only [IntKind.wrap, IntKind.bits, IntKind.signed]; simp; omega
      have hw2 : IntKind.i64.wrap ((i : Int) - 1) = (i : Int) - 1 := by rw [IntKind.wrap_i64]; omega
      have hb8 : IntKind.u8.wrap (lo / 2 ^ (8 * (r : Int)).toNat) = lo / 256 ^ r % 256 := by
        have e : (8 * (r : Int)).toNat = 8 * r := by omega
        rw [IntKind.wrap_u8, e, Int.pow_mul]; rfl
      have h64 : min (8 * (r : Int)).toNat 64 = (8 * (r : Int)).toNat := by omega
      have hd : decide ((8 : Int) ≤ (i : Int)) = false := by simp; omega
      (repeat (first | refine awp_reg_seq rfl fun k => ?_ | refine awp_reg rfl fun k => ?_ | refine awp_seq ?_ | refine awp_false rfl ?_ | refine awp_skip (?_ : Awp _ _ _ _ _ _) | refine awp_block ?_ | (apply runk0 rfl rfl (opok_move rfl ?_) ?_; rotate_left 1; (· (conv => (lhs; whnf)))) | (apply runk_assignOwn rfl rfl rfl ?_ ?_ ?_; rotate_left 4; (· (conv => (lhs; whnf))); (· (conv => (lhs; whnf; arg 1; whnf)))) | (apply runk0 rfl rfl (opok_assign rfl ?_) ?_; rotate_left 1; (· (conv => (lhs; whnf)))) | (apply runk_fa rfl rfl rfl ?_ rfl rfl ?_ ?_ ?_ ?_; rotate_left 5; (· (conv => (lhs; whnf))); (· (unfold sizeIs; conv => (lhs; whnf; arg 1; whnf))); (· rfl); (· (conv => (lhs; whnf)))) | (((apply runk0 rfl rfl (opok_load rfl ?_ ?_ ?_ ?_) ?_; rotate_left 5; (· (conv => (lhs; whnf))); (· (conv => (lhs; whnf; arg 1; whnf; arg 2; whnf))); (· rfl); (· (conv => (lhs; whnf; arg 1; whnf)))))) | (apply runk0 rfl rfl (opok_bin rfl ?_ ?_ ?_) ?_; rotate_left 3; (· (conv => (lhs; whnf))); (· (conv => (lhs; whnf))); (· (intro w; go_simp; rfl))) | (apply runk0 rfl rfl (opok_conv rfl ?_ ?_) ?_; rotate_left 2; (· (conv => (lhs; whnf))); (· (intro w; go_simp; rfl))) | (apply runk_lit rfl rfl rfl ?_ ?_ ?_ ?_ ?_ ?_ ?_ ?_ ?_ ?_ ?_; rotate_left 4; (· (conv => (lhs; whnf; arg 1; whnf))); (· (unfold sizeIs; conv => (lhs; whnf; arg 1; whnf))); (· (conv => (lhs; whnf; arg 1; whnf))); (· rfl); (· rfl); (· rfl); (· rfl); (· (repeat (first | exact PartsAre.nil _ | (apply PartsAre.cons; (· (conv => (lhs; whnf))))))); (· rfl); (· rfl)) | refine runk_end (by kernel_rfl) ?_ | (apply runk_app rfl rfl rfl ?_ ?_ ?_ ?_ ?_ ?_ ?_ ?_ ?_ ?_ ?_ ?_ ?_ ?_ ?_ ?_; rotate_left 11; (· (conv => (lhs; whnf))); (· (conv => (lhs; whnf))); (· (conv => (lhs; whnf; arg 1; whnf))); (· (unfold sizeIs; conv => (lhs; whnf; arg 1; whnf))); (· (conv => (lhs; whnf; arg 1; whnf))); (· (conv => (lhs; whnf; arg 1; whnf))); (· rfl); (· rfl); (· rfl); (· ((refine .own _ _ _ _ rfl ?_; ((simp; done))))); (· ((refine .own _ _ _ _ _ _ rfl ?_; rfl))); (· rfl); (· rfl); (· ((simp; omega))); (· ((simp only [List.nil_append, ints_takeR, ints_dropR, ints_one, ints_consR, ints_append]; rfl))))))
      rw [hstep]
      skip
      rename_i kq kr
      refine ⟨i, by omega, by omega, kr, ?_⟩
      (refine leB_of ?_ ?_; (· (repeat (first | exact EnvIs.nil | (refine EnvIs.cons ?_ ?_; (· first | rfl | ((conv => (lhs; whnf)); ((simp [ints]; done)))))))); (· (repeat (first | exact ObjsAre.nil | (refine ObjsAre.cons ?_ ?_; (· rfl))))))
    · have hm0 : m = 0 := by simp at hc; omega
      subst hm0
      have e : t4 lo 0 = by4 lo 0 := by unfold t4; exact List.take_of_length_le (by simp)
      rw [e]
      refine awp_exit (?_ : Awp _ _ _ _ _ _)
      (repeat (first | refine awp_reg_seq rfl fun k => ?_ | (refine awp_ret ?_; (apply ends_own rfl ?_ ?_ ?_ ?_ ?_ ?_ ?_ (.inl rfl); rotate_left 5; (· (conv => (lhs; whnf))); (· (conv => (lhs; whnf; arg 1; whnf))); (· rfl); (· rfl); (· rfl); (· rfl); (· rfl))) | (apply runk0 rfl rfl (opok_move rfl ?_) ?_; rotate_left 1; (· (conv => (lhs; whnf)))) | (apply runk_assignOwn rfl rfl rfl ?_ ?_ ?_; rotate_left 4; (· (conv => (lhs; whnf))); (· (conv => (lhs; whnf; arg 1; whnf)))) | refine runk_end (by kernel_rfl) ?_))

theorem numF_add : ∀ (ys : List Int) (a : Int), ys.foldl (fun n c => n * 256 + c) a = a * 256 ^ ys.length + ys.foldl (fun n c => n * 256 + c) 0
  | [], a => by simp
  | c :: ys, a => by
    rw [List.foldl_cons, List.foldl_cons, numF_add ys (a * 256 + c), numF_add ys (0 * 256 + c), List.length_cons, Int.pow_succ, Int.mul_comm (256 ^ ys.length) 256, ← Int.mul_assoc, Int.add_mul]
    simp only [Int.zero_mul, Int.zero_add]
    omega
theorem numZ_app (xs ys : List Int) : numZ (xs ++ ys) = numZ xs * 256 ^ ys.length + numZ ys := by
  unfold numZ
  rw [List.foldl_append, numF_add]
theorem pow256_16 {i : Nat} (h : i ≤ 15) : (256 : Int) ^ i ≤ 1329227995784915872903807060280344576 := by
  have : i = 0 ∨ i = 1 ∨ i = 2 ∨ i = 3 ∨ i = 4 ∨ i = 5 ∨ i = 6 ∨ i = 7 ∨ i = 8 ∨ i = 9 ∨ i = 10 ∨ i = 11 ∨ i = 12 ∨ i = 13 ∨ i = 14 ∨ i = 15 := by omega
  rcases this with rfl | rfl | rfl | rfl | rfl | rfl | rfl | rfl | rfl | rfl | rfl | rfl | rfl | rfl | rfl | rfl <;> decide
set_option maxHeartbeats 8000000 in
set_option maxRecDepth 100000 in
theorem rfrom_spec (xs : List Int) (hb : Bytes xs) : Spec Tryz.prog 47 [.ro (ints .u8 xs)] [] (.tuple [.agg [.val (.bool (fromZ xs).1), .val (.int .u64 (fromZ xs).2.1), .val (.int .u64 (fromZ xs).2.2)], .val (.int .i64 (fromE xs))]) [] := by
  by_cases h : xs.length = 4 ∨ xs.length = 16
  · have hfz : fromZ xs = (xs.length == 16, numZ xs / 18446744073709551616, numZ xs % 18446744073709551616) := by
      rcases h with h | h
      · obtain ⟨h1, h2⟩ := numZ_bd xs hb
        rw [h] at h2
        simp only [fromZ, h, if_true]
        have e1 : numZ xs / 18446744073709551616 = 0 := by omega
        have e2 : numZ xs % 18446744073709551616 = numZ xs := by omega
        rw [e1, e2]; rfl
      · have e := numZ_app (xs.take 8) (xs.drop 8)
        rw [List.take_append_drop] at e
        obtain ⟨h1, h2⟩ := numZ_bd (xs.drop 8) (fun z hz => hb z (List.mem_of_mem_drop hz))
        have hl : (xs.drop 8).length = 8 := by simp; omega
        rw [hl] at e h2
        simp only [fromZ, h, if_true]
        rw [e]
        generalize numZ (xs.take 8) = a
        generalize numZ (xs.drop 8) = b at *
        have e1 : (a * 256 ^ 8 + b) / 18446744073709551616 = a := by omega
        have e2 : (a * 256 ^ 8 + b) % 18446744073709551616 = b := by omega
        rw [e1, e2]; rfl
    have hfe : fromE xs = 0 := by simp only [fromE, h, if_true]
    rw [hfz, hfe]
    have d1 : ((xs.length : Int) != 4 && (xs.length : Int) != 16) = false := by
      rcases h with h | h <;> rw [h] <;> rfl
    have d2 : ((xs.length : Int) == 16) = (xs.length == 16) := by
      rcases h with h | h <;> rw [h] <;> rfl
    have hle : xs.length ≤ 16 := by omega
    clear hfz hfe
    refine spec_of_awp Tryz.func47 rfl (Nat.le_of_ble_eq_true rfl) fun ini => ?_
    simp only [Tryz.ntmps47]
    (repeat (first | refine awp_reg_seq rfl fun k => ?_ | refine awp_seq ?_ | refine awp_isF rfl (by assumption) ?_ | refine awp_skip (?_ : Awp _ _ _ _ _ _) | refine awp_block ?_ | (apply runk0 rfl rfl (opok_move rfl ?_) ?_; rotate_left 1; (· (conv => (lhs; whnf)))) | (apply runk0 rfl rfl (opok_assign rfl ?_) ?_; rotate_left 1; (· (conv => (lhs; whnf)))) | (apply runk0 rfl rfl (opok_bin rfl ?_ ?_ ?_) ?_; rotate_left 3; (· (conv => (lhs; whnf))); (· (conv => (lhs; whnf))); (· (intro w; go_simp; rfl))) | (((apply runk0 rfl rfl (opok_len rfl ?_ ?_ ?_) ?_; rotate_left 3; (· (conv => (lhs; whnf))); (· (conv => (lhs; whnf; arg 1; whnf))); (· (exact length_ints _ _))))) | (apply runk_guard rfl rfl ?_ rfl ?_ ?_; rotate_left 3; (· (conv => (lhs; whnf))); (· (intro hb; (try rw [hb]); apply opok_move rfl ?_; rotate_left 1; (· (conv => (lhs; whnf)))))) | (apply runk_guard rfl rfl ?_ rfl ?_ ?_; rotate_left 3; (· (conv => (lhs; whnf))); (· (intro hb; (try rw [hb]); apply opok_len rfl ?_ ?_ ?_; rotate_left 3; (· (conv => (lhs; whnf))); (· (conv => (lhs; whnf; arg 1; whnf))); (· (exact length_ints _ _))))) | (apply runk_guard rfl rfl ?_ rfl ?_ ?_; rotate_left 3; (· (conv => (lhs; whnf))); (· (intro hb; (try rw [hb]); apply opok_bin rfl ?_ ?_ ?_; rotate_left 3; (· (conv => (lhs; whnf))); (· (conv => (lhs; whnf))); (· (intro w; go_simp; rfl))))) | (apply runk0 rfl rfl (opok_pick rfl ?_ ?_) ?_; rotate_left 2; (· (conv => (lhs; whnf))); (· (exact pick_and))) | (apply runk0 rfl rfl (opok_build rfl ?_ ?_ ?_ ?_ ?_) ?_; rotate_left 5; (· (conv => (lhs; whnf; arg 1; whnf))); (· (conv => (lhs; whnf; arg 1; repeat (whnf; arg 2)))); (· (conv => (lhs; whnf; arg 1; whnf))); (· (repeat (first | exact PartsOf.nil | (apply PartsOf.cons; (· (conv => (lhs; whnf))))))); (· (conv => (lhs; whnf; arg 1; repeat (whnf; arg 2))))) | (apply runk_alloc rfl rfl rfl ?_ ?_ ?_; rotate_left 2; (· (conv => (lhs; whnf; arg 1; whnf))); (· (conv => (lhs; whnf)))) | (apply runk_store rfl rfl rfl ?_ ?_ ?_ ?_ ?_ ?_ ?_ ?_ ?_ ?_ ?_; rotate_left 9; (· (conv => (lhs; whnf))); (· (conv => (lhs; whnf))); (· (conv => (lhs; whnf; arg 1; whnf; arg 2; whnf))); (· rfl); (· (conv => (lhs; whnf))); (· rfl); (· (unfold sizeIs; conv => (lhs; whnf; arg 1; whnf))); (· rfl); (· rfl); (· (conv => (lhs; repeat (whnf; arg 2))))) | refine runk_end (by kernel_rfl) ?_))
    rename_i ka kb kc
    refine awp_loop (fun m st => ∃ i : Nat, i + m = xs.length ∧ st.leB ⟨[(2, .ptr 2 ka 0), (4, .ptr 4 kc 0), (3, .val (.int .i64 0)), (20, .ro (ints .u8 xs)), (21, .val (.int .i64 (xs.length : Int))), (22, .val (.int .i64 (i : Int)))], [(2, some (ka, .box 24 [.val (.bool false), .val (.int .u64 0), .val (.int .u64 0)])), (4, some (kc, .box 24 [.val (.bool (xs.length == 16)), .val (.int .u64 (numZ (xs.take i) / 18446744073709551616)), .val (.int .u64 (numZ (xs.take i) % 18446744073709551616))]))]⟩) xs.length ⟨0, by omega, ?_⟩ ?_
    · (refine leB_of ?_ ?_; (· (repeat (first | exact EnvIs.nil | (refine EnvIs.cons ?_ ?_; (· rfl))))); (· (repeat (first | exact ObjsAre.nil | (refine ObjsAre.cons ?_ ?_; (· rfl))))))
    · rintro m st ⟨i, hi, hle⟩
      refine awp_less hle ?_
      clear hle st
      (repeat (first | refine awp_reg_seq rfl fun k => ?_ | refine awp_seq ?_ | (apply runk0 rfl rfl (opok_bin rfl ?_ ?_ ?_) ?_; rotate_left 3; (· (conv => (lhs; whnf))); (· (conv => (lhs; whnf))); (· (intro w; go_simp; first | done | rfl))) | refine runk_end (by kernel_rfl) ?_))
      refine awp_if rfl (fun hc => ?_) (fun hc => ?_)
      · have hlt : i < xs.length := by simpa using hc
        have hx := bytes_at hb i
        have hxi : (ints .u8 xs)[i]? = some (.val (.int .u8 (xs.getD i 0))) := ints_getD .u8 xs i hlt
        have hn := numZ_take hlt
        obtain ⟨n0, n1⟩ := numZ_bd _ (bytes_take hb i)
        have hp := pow256_16 (i := (xs.take i).length) (by simp; omega)
        generalize numZ (xs.take i) = s at hn n0 n1 ⊢
        generalize xs.getD i 0 = x at hx hxi hn
        obtain ⟨H, hH⟩ : ∃ H, s / 18446744073709551616 = H := ⟨_, rfl⟩
        obtain ⟨L, hL⟩ : ∃ L, s % 18446744073709551616 = L := ⟨_, rfl⟩
        have f1 : numZ (xs.take (i + 1)) / 18446744073709551616 = H * 256 + L / 72057594037927936 := by omega
        have f2 : numZ (xs.take (i + 1)) % 18446744073709551616 = L % 72057594037927936 * 256 + x := by omega
        have b1 : 0 ≤ H ∧ H < 72057594037927936 := by omega
        have b2 : 0 ≤ L ∧ L < 18446744073709551616 := by omega
        rw [hH, hL]
        clear n0 n1 hp hn hH hL
        have hw8 : IntKind.u64.wrap (H * 256) = H * 256 := by rw [IntKind.wrap_u64]; omega
        have hw7 : IntKind.u64.wrap (L * 256) = L % 72057594037927936 * 256 := by rw [IntKind.wrap_u64]; omega
        have hw9 : IntKind.u64.wrap x = x := by rw [IntKind.wrap_u64]; omega
        have ho1 := or8_u64' H (L / 72057594037927936) b1.1 b1.2 (by omega) (by omega)
        have ho2 := or8_u64' (L % 72057594037927936) x (by omega) (by omega) hx.1 hx.2
        rw [← f1] at ho1
        rw [← f2] at ho2
        have hwn : IntKind.i64.wrap ((i : Int) + 1) = ((i + 1 : Nat) : Int) := by rw [IntKind.wrap_i64]; omega
        clear f1 f2
        (repeat (first | refine awp_reg_seq rfl fun k => ?_ | refine awp_reg rfl fun k => ?_ | refine awp_seq ?_ | refine awp_skip (?_ : Awp _ _ _ _ _ _) | refine awp_block ?_ | (apply runk0 rfl rfl (opok_move rfl ?_) ?_; rotate_left 1; (· (conv => (lhs; whnf)))) | (apply runk0 rfl rfl (opok_assign rfl ?_) ?_; rotate_left 1; (· (conv => (lhs; whnf)))) | (apply runk_fa rfl rfl rfl ?_ rfl rfl ?_ ?_ ?_ ?_; rotate_left 5; (· (conv => (lhs; whnf))); (· (unfold sizeIs; conv => (lhs; whnf; arg 1; whnf))); (· rfl); (· (conv => (lhs; whnf)))) | (first | (apply runk0 rfl rfl (opok_load rfl ?_ ?_ ?_ ?_) ?_; rotate_left 5; (· (conv => (lhs; whnf))); (· (conv => (lhs; whnf; arg 1; whnf; arg 2; whnf))); (· rfl); (· (conv => (lhs; whnf; arg 1; whnf)))) | (apply runk0 rfl rfl (opok_loadR rfl ?_ ?_ ?_) ?_; rotate_left 2; (· (conv => (lhs; whnf))); (· rfl); (· (conv => (lhs; whnf; arg 1; whnf))))) | (apply runk0 rfl rfl (opok_bin rfl ?_ ?_ ?_) ?_; rotate_left 3; (· (conv => (lhs; whnf))); (· (conv => (lhs; whnf))); (· (intro w; go_simp; rfl))) | (apply runk0 rfl rfl (opok_conv rfl ?_ ?_) ?_; rotate_left 2; (· (conv => (lhs; whnf))); (· (intro w; go_simp; rfl))) | (apply runk_store rfl rfl rfl ?_ ?_ ?_ ?_ ?_ ?_ ?_ ?_ ?_ ?_ ?_; rotate_left 9; (· (conv => (lhs; whnf))); (· (conv => (lhs; whnf))); (· (conv => (lhs; whnf; arg 1; whnf; arg 2; whnf))); (· rfl); (· (conv => (lhs; whnf))); (· rfl); (· (unfold sizeIs; conv => (lhs; whnf; arg 1; whnf))); (· rfl); (· rfl); (· (conv => (lhs; repeat (whnf; arg 2))))) | refine runk_end (by kernel_rfl) ?_ | (apply runk0 rfl rfl (opok_index_ro rfl ?_ ?_ ?_ ?_ ?_ ?_ ?_) ?_; rotate_left 6; (· (conv => (lhs; whnf))); (· (conv => (lhs; whnf))); (· (conv => (lhs; whnf; arg 1; whnf))); (· (unfold sizeIs; conv => (lhs; whnf; arg 1; whnf))); (· (exact widths_ints _ _)); (· omega); (· assumption))))
        refine ⟨m - 1, by omega, i + 1, by omega, ?_⟩
        (refine leB_of ?_ ?_; (· (repeat (first | exact EnvIs.nil | (refine EnvIs.cons ?_ ?_; (· rfl))))); (· (repeat (first | exact ObjsAre.nil | (refine ObjsAre.cons ?_ ?_; (· rfl))))))
      · have hie : i = xs.length := by simp at hc; omega
        subst hie
        rw [List.take_length]
        refine awp_exit (?_ : Awp _ _ _ _ _ _)
        (repeat (first | refine awp_reg_seq rfl fun k => ?_ | (refine awp_ret ?_; (apply ends_pure ?_ ?_ ?_ ?_ ?_ (.inl rfl); rotate_left 1; (· (exact res_cell2 rfl rfl rfl rfl rfl rfl)); (· rfl); (· rfl); (· rfl); (· rfl))) | (apply runk0 rfl rfl (opok_assign rfl ?_) ?_; rotate_left 1; (· (conv => (lhs; whnf)))) | (apply runk0 rfl rfl (opok_loadA rfl ?_ ?_ ?_ ?_ ?_ ?_) ?_; rotate_left 6; (· (conv => (lhs; whnf))); (· (conv => (lhs; whnf; arg 1; whnf; arg 2; whnf))); (· rfl); (· (unfold sizeIs; conv => (lhs; whnf; arg 1; whnf))); (· (conv => (lhs; repeat (whnf; arg 2)))); (· rfl)) | (apply runk_store rfl rfl rfl ?_ ?_ ?_ ?_ ?_ ?_ ?_ ?_ ?_ ?_ ?_; rotate_left 9; (· (conv => (lhs; whnf))); (· (conv => (lhs; whnf))); (· (conv => (lhs; whnf; arg 1; whnf; arg 2; whnf))); (· rfl); (· (conv => (lhs; whnf))); (· rfl); (· (unfold sizeIs; conv => (lhs; whnf; arg 1; whnf))); (· rfl); (· rfl); (· (conv => (lhs; repeat (whnf; arg 2))))) | refine runk_end (by kernel_rfl) ?_))
  · have h4 : ¬ xs.length = 4 := fun e => h (.inl e)
    have h16 : ¬ xs.length = 16 := fun e => h (.inr e)
    have d1 : ((xs.length : Int) != 4) = true := by rw [bne_iff_ne]; omega
    have d2 : ((xs.length : Int) != 16) = true := by rw [bne_iff_ne]; omega
    simp only [fromZ, fromE, h4, h16, if_false, or_self]
    refine spec_of_awp Tryz.func47 rfl (Nat.le_of_ble_eq_true rfl) fun ini => ?_
    simp only [Tryz.ntmps47]
    (repeat (first | refine awp_reg_seq rfl fun k => ?_ | refine awp_seq ?_ | refine awp_true rfl ?_ | (refine awp_ret ?_; (apply ends_pure ?_ ?_ ?_ ?_ ?_ (.inl rfl); rotate_left 1; (· (exact res_cell2 rfl rfl rfl rfl rfl rfl)); (· rfl); (· rfl); (· rfl); (· rfl))) | ((refine runk_ung rfl rfl rfl rfl ?_)) | (apply runk0 rfl rfl (opok_move rfl ?_) ?_; rotate_left 1; (· (conv => (lhs; whnf)))) | (apply runk0 rfl rfl (opok_assign rfl ?_) ?_; rotate_left 1; (· (conv => (lhs; whnf)))) | (apply runk0 rfl rfl (opok_bin rfl ?_ ?_ ?_) ?_; rotate_left 3; (· (conv => (lhs; whnf))); (· (conv => (lhs; whnf))); (· (intro w; go_simp; rfl))) | (((apply runk0 rfl rfl (opok_len rfl ?_ ?_ ?_) ?_; rotate_left 3; (· (conv => (lhs; whnf))); (· (conv => (lhs; whnf; arg 1; whnf))); (· (exact length_ints _ _))))) | (apply runk0 rfl rfl (opok_pick rfl ?_ ?_) ?_; rotate_left 2; (· (conv => (lhs; whnf))); (· (exact pick_and))) | (apply runk0 rfl rfl (opok_build rfl ?_ ?_ ?_ ?_ ?_) ?_; rotate_left 5; (· (conv => (lhs; whnf; arg 1; whnf))); (· (conv => (lhs; whnf; arg 1; repeat (whnf; arg 2)))); (· (conv => (lhs; whnf; arg 1; whnf))); (· (repeat ((exact PartsOf.nil)))); (· (conv => (lhs; whnf; arg 1; repeat (whnf; arg 2))))) | (apply runk_alloc rfl rfl rfl ?_ ?_ ?_; rotate_left 2; (· (conv => (lhs; whnf; arg 1; whnf))); (· (conv => (lhs; whnf)))) | (apply runk_store rfl rfl rfl ?_ ?_ ?_ ?_ ?_ ?_ ?_ ?_ ?_ ?_ ?_; rotate_left 9; (· (conv => (lhs; whnf))); (· (conv => (lhs; whnf))); (· (conv => (lhs; whnf; arg 1; whnf; arg 2; whnf))); (· rfl); (· (conv => (lhs; whnf))); (· rfl); (· (unfold sizeIs; conv => (lhs; whnf; arg 1; whnf))); (· rfl); (· rfl); (· (conv => (lhs; repeat (whnf; arg 2))))) | refine runk_end (by kernel_rfl) ?_))

end Go.Proofs.YtboddbheljenhaaGreatDoor
