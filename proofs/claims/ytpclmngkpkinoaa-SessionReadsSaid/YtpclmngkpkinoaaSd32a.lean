/-
  Layer 32: pieces of bytes and their capabilities, by states.
-/
import Derived.Test.YtpclmngkpkinoaaAbsFn
import Derived.Test.YtpclmngkpkinoaaSumMath
import Derived.Test.YtpclmngkpkinoaaDeckN
namespace Go.Proofs.Ytpclmngkpkinoaa
open Go.RowKit
/-- The number of bytes, the first one the highest. -/
def numZ (xs : List Int) : Int := xs.foldl (fun n c => n * 256 + c) 0
theorem numZ_snoc (xs : List Int) (c : Int) : numZ (xs ++ [c]) = numZ xs * 256 + c := by simp [numZ]
theorem numZ_take {xs : List Int} {i : Nat} (h : i < xs.length) : numZ (xs.take (i + 1)) = numZ (xs.take i) * 256 + xs.getD i 0 := by
  rw [← numZ_snoc]
  congr 1
  rw [List.take_add_one, List.getD_eq_getElem?_getD, List.getElem?_eq_getElem h]; rfl
theorem numF_bd : ∀ (xs : List Int) (a : Int), Bytes xs → 0 ≤ a → 0 ≤ xs.foldl (fun n c => n * 256 + c) a ∧ xs.foldl (fun n c => n * 256 + c) a < (a + 1) * 256 ^ xs.length
  | [], a, _, h => by simp; omega
  | c :: xs, a, hb, h => by
    have hc := hb c List.mem_cons_self
    obtain ⟨h1, h2⟩ := numF_bd xs (a * 256 + c) (fun z hz => hb z (List.mem_cons_of_mem _ hz)) (by omega)
    refine ⟨h1, Int.lt_of_lt_of_le h2 ?_⟩
    rw [List.length_cons, Int.pow_succ, Int.mul_comm (256 ^ xs.length) 256, ← Int.mul_assoc]
    exact Int.mul_le_mul_of_nonneg_right (by omega) (Int.le_of_lt (Int.pow_pos (by decide)))
theorem numZ_bd (xs : List Int) (hb : Bytes xs) : 0 ≤ numZ xs ∧ numZ xs < 256 ^ xs.length := by
  have := numF_bd xs 0 hb (Int.le_refl _)
  simpa [numZ] using this
theorem or8_i64 (a b : Int) (h1 : 0 ≤ a) (h2 : a < 4294967296) (h3 : 0 ≤ b) (h4 : b < 256) : bits .or .i64 (a * 256) b = a * 256 + b :=
  bits_join .i64 63 (by decide) (fun n h0 h1 => by rw [IntKind.wrap_i64]; omega) 8 (a * 256) b (by omega) (by omega) (by omega) h3 (by omega) (by omega)
theorem pow256_le {i : Nat} (h : i ≤ 4) : (256 : Int) ^ i ≤ 4294967296 := by
  have : i = 0 ∨ i = 1 ∨ i = 2 ∨ i = 3 ∨ i = 4 := by omega
  rcases this with rfl | rfl | rfl | rfl | rfl <;> decide
set_option maxHeartbeats 8000000 in
set_option maxRecDepth 100000 in
theorem snum_spec (xs : List Int) (hb : Bytes xs) (hl : xs.length ≤ 4) : Spec Try.prog 32 [.ro (ints .u8 xs)] [] (.val (.int .i64 (numZ xs))) [] := by
  refine spec_of_awp Try.func32 rfl (Nat.le_of_ble_eq_true rfl) fun ini => ?_
  simp only [Try.ntmps32]
  (repeat (first | refine awp_reg_seq rfl fun k => ?_ | refine awp_seq ?_ | refine awp_block ?_ | (apply runk0 rfl rfl (opok_move rfl ?_) ?_; rotate_left 1; (· (conv => (lhs; whnf)))) | (apply runk0 rfl rfl (opok_assign rfl ?_) ?_; rotate_left 1; (· (conv => (lhs; whnf)))) | (first | (apply runk0 rfl rfl (opok_lenO rfl ?_ ?_ ?_) ?_; rotate_left 5; (· (conv => (lhs; whnf))); (· (conv => (lhs; whnf; arg 1; whnf))); (· first | exact length_ints _ _ | rfl)) | (apply runk0 rfl rfl (opok_len_own rfl ?_ ?_) ?_; rotate_left 4; (· (conv => (lhs; whnf))); (· (conv => (lhs; whnf; arg 1; whnf)))) | (apply runk0 rfl rfl (opok_len rfl ?_ ?_ ?_) ?_; rotate_left 3; (· (conv => (lhs; whnf))); (· (conv => (lhs; whnf; arg 1; whnf))); (· first | exact length_ints _ _ | rfl))) | refine runk_end (by kernel_rfl) ?_))
  refine awp_loop (fun m st => ∃ i : Nat, i + m = xs.length ∧ st.leB ⟨[(3, .val (.int .i64 (numZ (xs.take i)))), (6, .ro (ints .u8 xs)), (7, .val (.int .i64 (xs.length : Int))), (8, .val (.int .i64 (i : Int)))], []⟩) xs.length ⟨0, by omega, ?_⟩ ?_
  · (refine leB_of ?_ ?_; (· (repeat (first | exact EnvIs.nil | (refine EnvIs.cons ?_ ?_; (· first | rfl | ((conv => (lhs; whnf)); first | (simp [ints, numZ]; done) | (simp [ints, numZ]; omega))))))); (· (repeat (first | exact ObjsAre.nil | (refine ObjsAre.cons ?_ ?_; (· first | rfl | ((conv => (lhs; whnf)); first | (simp [ints, numZ]; done) | (simp [ints, numZ]; omega))))))))
  · rintro m st ⟨i, hi, hle⟩
    refine awp_less hle ?_
    clear hle st
    (repeat (first | refine awp_reg_seq rfl fun k => ?_ | refine awp_seq ?_ | (apply runk0 rfl rfl (opok_bin rfl ?_ ?_ ?_) ?_; rotate_left 3; (· (conv => (lhs; whnf))); (· (conv => (lhs; whnf))); (· (intro w; go_simp; first | done | rfl))) | refine runk_end (by kernel_rfl) ?_))
    refine awp_if rfl (fun hc => ?_) (fun hc => ?_)
    · have hlt : i < xs.length := by simpa using hc
      have hx := bytes_at hb i
      have hxi : (ints .u8 xs)[i]? = some (.val (.int .u8 (xs.getD i 0))) := ints_getD .u8 xs i hlt
      have hn := numZ_take hlt
      obtain ⟨n0, n1⟩ := numZ_bd _ (bytes_take hb i)
      have hp := pow256_le (i := (xs.take i).length) (by simp; omega)
      generalize numZ (xs.take i) = s at hn n0 n1
      generalize xs.getD i 0 = x at hx hxi hn
      have hw8 : IntKind.i64.wrap (s * 256) = s * 256 := by rw [IntKind.wrap_i64]; omega
      have hw9 : IntKind.i64.wrap x = x := by rw [IntKind.wrap_i64]; omega
      have hor := or8_i64 s x n0 (by omega) hx.1 hx.2
      have hwn : IntKind.i64.wrap ((i : Int) + 1) = ((i + 1 : Nat) : Int) := by rw [IntKind.wrap_i64]; omega
      clear hp n1
      (repeat (first | refine awp_reg_seq rfl fun k => ?_ | refine awp_reg rfl fun k => ?_ | refine awp_seq ?_ | refine awp_skip (?_ : Awp _ _ _ _ _ _) | refine awp_block ?_ | (apply runk0 rfl rfl (opok_move rfl ?_) ?_; rotate_left 1; (· (conv => (lhs; whnf)))) | (apply runk0 rfl rfl (opok_assign rfl ?_) ?_; rotate_left 1; (· (conv => (lhs; whnf)))) | (first | (apply runk0 rfl rfl (opok_load rfl ?_ ?_ ?_ ?_) ?_; rotate_left 5; (· (conv => (lhs; whnf))); (· (conv => (lhs; whnf; arg 1; whnf; arg 2; whnf))); (· rfl); (· (conv => (lhs; whnf; arg 1; whnf)))) | (apply runk0 rfl rfl (opok_loadR rfl ?_ ?_ ?_) ?_; rotate_left 2; (· (conv => (lhs; whnf))); (· rfl); (· (conv => (lhs; whnf; arg 1; whnf))))) | (apply runk0 rfl rfl (opok_bin rfl ?_ ?_ ?_) ?_; rotate_left 3; (· (conv => (lhs; whnf))); (· (conv => (lhs; whnf))); (· (intro w; go_simp; first | done | rfl))) | (apply runk0 rfl rfl (opok_conv rfl ?_ ?_) ?_; rotate_left 2; (· (conv => (lhs; whnf))); (· (intro w; go_simp; first | done | rfl))) | refine runk_end (by kernel_rfl) ?_ | (apply runk0 rfl rfl (opok_index_ro rfl ?_ ?_ ?_ ?_ ?_ ?_ ?_) ?_; rotate_left 6; (· (conv => (lhs; whnf))); (· (conv => (lhs; whnf))); (· (conv => (lhs; whnf; arg 1; whnf))); (· (unfold sizeIs; conv => (lhs; whnf; arg 1; whnf))); (· first | exact widths_ints _ _ | rfl | simp [widths, AVal.flat]); (· first | omega | (simp; done) | (simp; omega)); (· first | assumption | (simp only [Int.toNat_natCast]; assumption) | (simp only [Int.reduceToNat]; assumption)))))
      refine ⟨m - 1, by omega, i + 1, by omega, ?_⟩
      (refine leB_of ?_ ?_; (· (repeat (first | exact EnvIs.nil | (refine EnvIs.cons ?_ ?_; (· first | rfl | ((conv => (lhs; whnf)); first | (simp [ints]; done) | (simp [ints]; omega))))))); (· (repeat (first | exact ObjsAre.nil | (refine ObjsAre.cons ?_ ?_; (· first | rfl | ((conv => (lhs; whnf)); first | (simp [ints]; done) | (simp [ints]; omega))))))))
    · have hie : i = xs.length := by simp at hc; omega
      subst hie
      rw [List.take_length]
      refine awp_exit (?_ : Awp _ _ _ _ _ _)
      (repeat (first | refine awp_reg_seq rfl fun k => ?_ | (refine awp_ret ?_; (apply ends_pure ?_ ?_ ?_ ?_ ?_ (.inl rfl); rotate_left 1; (· first | exact res_one rfl rfl | exact res_two rfl rfl rfl | exact res_none rfl | exact res_three rfl rfl rfl rfl | exact res_cell rfl rfl rfl rfl rfl | exact res_cell2 rfl rfl rfl rfl rfl rfl | exact res3 rfl (rv_cell rfl rfl rfl rfl) (rv_tmp rfl) (rv_tmp rfl) | exact res3 rfl (rv_cell rfl rfl rfl rfl) (rv_cell rfl rfl rfl rfl) (rv_cell rfl rfl rfl rfl)); (· first | rfl | ((conv => (lhs; whnf)); first | rfl | (simp; done))); (· first | rfl | (simp; done) | (simp [AVal.pure, AVal.pures, AObj.pure]; done)); (· rfl); (· rfl))) | (apply runk0 rfl rfl (opok_move rfl ?_) ?_; rotate_left 1; (· (conv => (lhs; whnf)))) | (apply runk0 rfl rfl (opok_assign rfl ?_) ?_; rotate_left 1; (· (conv => (lhs; whnf)))) | refine runk_end (by kernel_rfl) ?_))
/-- How many bytes a capability has. -/
def sizO (c : Int) : Int := if c = 9 then 1 else if c = 64 then 2 else if c = 65 then 4 else 0
set_option maxHeartbeats 8000000 in
set_option maxRecDepth 100000 in
theorem sizeOf_spec (c : Int) : Spec Try.prog 48 [.val (.int .u8 c)] [] (.val (.int .i64 (sizO c))) [] := by
  unfold sizO
  by_cases h9 : c = 9
  · subst h9
    refine spec_of_awp Try.func48 rfl (Nat.le_of_ble_eq_true rfl) fun ini => ?_
    simp only [Try.ntmps48]
    (repeat (first | refine awp_reg_seq rfl fun k => ?_ | refine awp_seq ?_ | refine awp_true rfl ?_ | refine awp_block ?_ | (refine awp_ret ?_; (apply ends_pure ?_ ?_ ?_ ?_ ?_ (.inl rfl); rotate_left 1; (· first | exact res_one rfl rfl | exact res_two rfl rfl rfl | exact res_none rfl | exact res_three rfl rfl rfl rfl | exact res_cell rfl rfl rfl rfl rfl | exact res_cell2 rfl rfl rfl rfl rfl rfl | exact res3 rfl (rv_cell rfl rfl rfl rfl) (rv_tmp rfl) (rv_tmp rfl) | exact res3 rfl (rv_cell rfl rfl rfl rfl) (rv_cell rfl rfl rfl rfl) (rv_cell rfl rfl rfl rfl)); (· first | rfl | ((conv => (lhs; whnf)); first | rfl | (simp; done))); (· first | rfl | (simp; done) | (simp [AVal.pure, AVal.pures, AObj.pure]; done)); (· rfl); (· rfl))) | (apply runk0 rfl rfl (opok_move rfl ?_) ?_; rotate_left 1; (· (conv => (lhs; whnf)))) | (apply runk0 rfl rfl (opok_assign rfl ?_) ?_; rotate_left 1; (· (conv => (lhs; whnf)))) | (apply runk0 rfl rfl (opok_bin rfl ?_ ?_ ?_) ?_; rotate_left 3; (· (conv => (lhs; whnf))); (· (conv => (lhs; whnf))); (· (intro w; go_simp; first | done | rfl))) | refine runk_end (by kernel_rfl) ?_))
  rw [if_neg h9]
  have d9 : (c == 9) = false := by simpa using h9
  by_cases h64 : c = 64
  · subst h64
    clear h9
    refine spec_of_awp Try.func48 rfl (Nat.le_of_ble_eq_true rfl) fun ini => ?_
    simp only [Try.ntmps48]
    (repeat (first | refine awp_reg_seq rfl fun k => ?_ | refine awp_seq ?_ | refine awp_true rfl ?_ | refine awp_false rfl ?_ | refine awp_block ?_ | (refine awp_ret ?_; (apply ends_pure ?_ ?_ ?_ ?_ ?_ (.inl rfl); rotate_left 1; (· first | exact res_one rfl rfl | exact res_two rfl rfl rfl | exact res_none rfl | exact res_three rfl rfl rfl rfl | exact res_cell rfl rfl rfl rfl rfl | exact res_cell2 rfl rfl rfl rfl rfl rfl | exact res3 rfl (rv_cell rfl rfl rfl rfl) (rv_tmp rfl) (rv_tmp rfl) | exact res3 rfl (rv_cell rfl rfl rfl rfl) (rv_cell rfl rfl rfl rfl) (rv_cell rfl rfl rfl rfl)); (· first | rfl | ((conv => (lhs; whnf)); first | rfl | (simp; done))); (· first | rfl | (simp; done) | (simp [AVal.pure, AVal.pures, AObj.pure]; done)); (· rfl); (· rfl))) | (apply runk0 rfl rfl (opok_move rfl ?_) ?_; rotate_left 1; (· (conv => (lhs; whnf)))) | (apply runk0 rfl rfl (opok_assign rfl ?_) ?_; rotate_left 1; (· (conv => (lhs; whnf)))) | (apply runk0 rfl rfl (opok_bin rfl ?_ ?_ ?_) ?_; rotate_left 3; (· (conv => (lhs; whnf))); (· (conv => (lhs; whnf))); (· (intro w; go_simp; first | done | rfl))) | refine runk_end (by kernel_rfl) ?_))
  rw [if_neg h64]
  have d64 : (c == 64) = false := by simpa using h64
  by_cases h65 : c = 65
  · subst h65
    clear h9 h64
    refine spec_of_awp Try.func48 rfl (Nat.le_of_ble_eq_true rfl) fun ini => ?_
    simp only [Try.ntmps48]
    (repeat (first | refine awp_reg_seq rfl fun k => ?_ | refine awp_seq ?_ | refine awp_true rfl ?_ | refine awp_false rfl ?_ | refine awp_block ?_ | (refine awp_ret ?_; (apply ends_pure ?_ ?_ ?_ ?_ ?_ (.inl rfl); rotate_left 1; (· first | exact res_one rfl rfl | exact res_two rfl rfl rfl | exact res_none rfl | exact res_three rfl rfl rfl rfl | exact res_cell rfl rfl rfl rfl rfl | exact res_cell2 rfl rfl rfl rfl rfl rfl | exact res3 rfl (rv_cell rfl rfl rfl rfl) (rv_tmp rfl) (rv_tmp rfl) | exact res3 rfl (rv_cell rfl rfl rfl rfl) (rv_cell rfl rfl rfl rfl) (rv_cell rfl rfl rfl rfl)); (· first | rfl | ((conv => (lhs; whnf)); first | rfl | (simp; done))); (· first | rfl | (simp; done) | (simp [AVal.pure, AVal.pures, AObj.pure]; done)); (· rfl); (· rfl))) | (apply runk0 rfl rfl (opok_move rfl ?_) ?_; rotate_left 1; (· (conv => (lhs; whnf)))) | (apply runk0 rfl rfl (opok_assign rfl ?_) ?_; rotate_left 1; (· (conv => (lhs; whnf)))) | (apply runk0 rfl rfl (opok_bin rfl ?_ ?_ ?_) ?_; rotate_left 3; (· (conv => (lhs; whnf))); (· (conv => (lhs; whnf))); (· (intro w; go_simp; first | done | rfl))) | refine runk_end (by kernel_rfl) ?_))
  rw [if_neg h65]
  have d65 : (c == 65) = false := by simpa using h65
  clear h9 h64 h65
  refine spec_of_awp Try.func48 rfl (Nat.le_of_ble_eq_true rfl) fun ini => ?_
  simp only [Try.ntmps48]
  (repeat (first | refine awp_reg_seq rfl fun k => ?_ | refine awp_seq ?_ | refine awp_false rfl ?_ | refine awp_skip (?_ : Awp _ _ _ _ _ _) | refine awp_block ?_ | (refine awp_ret ?_; (apply ends_pure ?_ ?_ ?_ ?_ ?_ (.inl rfl); rotate_left 1; (· first | exact res_one rfl rfl | exact res_two rfl rfl rfl | exact res_none rfl | exact res_three rfl rfl rfl rfl | exact res_cell rfl rfl rfl rfl rfl | exact res_cell2 rfl rfl rfl rfl rfl rfl | exact res3 rfl (rv_cell rfl rfl rfl rfl) (rv_tmp rfl) (rv_tmp rfl) | exact res3 rfl (rv_cell rfl rfl rfl rfl) (rv_cell rfl rfl rfl rfl) (rv_cell rfl rfl rfl rfl)); (· first | rfl | ((conv => (lhs; whnf)); first | rfl | (simp; done))); (· first | rfl | (simp; done) | (simp [AVal.pure, AVal.pures, AObj.pure]; done)); (· rfl); (· rfl))) | (apply runk0 rfl rfl (opok_move rfl ?_) ?_; rotate_left 1; (· (conv => (lhs; whnf)))) | (apply runk0 rfl rfl (opok_assign rfl ?_) ?_; rotate_left 1; (· (conv => (lhs; whnf)))) | (apply runk0 rfl rfl (opok_bin rfl ?_ ?_ ?_) ?_; rotate_left 3; (· (conv => (lhs; whnf))); (· (conv => (lhs; whnf))); (· (intro w; go_simp; first | done | rfl))) | refine runk_end (by kernel_rfl) ?_))
end Go.Proofs.Ytpclmngkpkinoaa
