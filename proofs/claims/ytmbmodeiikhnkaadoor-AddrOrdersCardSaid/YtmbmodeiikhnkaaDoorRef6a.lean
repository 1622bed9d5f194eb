/-
  Layer 6, the reference: addresses out of bytes, bytes of an address without V6, by states.
-/
import Derived.Test.YtmbmodeiikhnkaaDoorNum1
import Derived.Test.YtmbmodeiikhnkaaDoorRBytes6
namespace Go.Proofs.YtmbmodeiikhnkaaDoor
open Go.RowKit
theorem numF_add : ∀ (ys : List Int) (a : Int), ys.foldl (fun n c => n * 256 + c) a = a * 256 ^ ys.length + ys.foldl (fun n c => n * 256 + c) 0
  | [], a => by simp
  | c :: ys, a => by
    rw [List.foldl_cons, List.foldl_cons, numF_add ys (a * 256 + c), numF_add ys (0 * 256 + c), List.length_cons, Int.pow_succ, Int.mul_comm (256 ^ ys.length) 256, ← Int.mul_assoc, Int.add_mul]
    simp only [Int.zero_mul, Int.zero_add]
    omega
theorem numZ_app (xs ys : List Int) : numZ (xs ++ ys) = numZ xs * 256 ^ ys.length + numZ ys := by
  unfold numZ
  rw [List.foldl_append, numF_add]
theorem pow256_16 {i : Nat} (h : i ≤ 15) : (256 : Int) ^ i ≤ 1329227995784915872903807060280344576 := by
  have : i = 0 ∨ i = 1 ∨ i = 2 ∨ i = 3 ∨ i = 4 ∨ i = 5 ∨ i = 6 ∨ i = 7 ∨ i = 8 ∨ i = 9 ∨ i = 10 ∨ i = 11 ∨ i = 12 ∨ i = 13 ∨ i = 14 ∨ i = 15 := by omega
  rcases this with rfl | rfl | rfl | rfl | rfl | rfl | rfl | rfl | rfl | rfl | rfl | rfl | rfl | rfl | rfl | rfl <;> decide
set_option maxHeartbeats 8000000 in
set_option maxRecDepth 100000 in
theorem rfrom_spec (xs : List Int) (hb : Bytes xs) : Spec Tryd.prog 21 [.ro (ints .u8 xs)] [] (.tuple [.agg [.val (.bool (fromZ xs).1), .val (.int .u64 (fromZ xs).2.1), .val (.int .u64 (fromZ xs).2.2)], .val (.int .i64 (fromE xs))]) [] := by
  by_cases h : xs.length = 4 ∨ xs.length = 16
  · have hfz : fromZ xs = (xs.length == 16, numZ xs / 18446744073709551616, numZ xs % 18446744073709551616) := by
      rcases h with h | h
      · obtain ⟨h1, h2⟩ := numZ_bd xs hb
        rw [h] at h2
        simp only [fromZ, h, if_true]
        have e1 : numZ xs / 18446744073709551616 = 0 := by omega
        have e2 : numZ xs % 18446744073709551616 = numZ xs := by omega
        rw [e1, e2]; rfl
      · have e := numZ_app (xs.take 8) (xs.drop 8)
        rw [List.take_append_drop] at e
        obtain ⟨h1, h2⟩ := numZ_bd (xs.drop 8) (fun z hz => hb z (List.mem_of_mem_drop hz))
        have hl : (xs.drop 8).length = 8 := by simp; omega
        rw [hl] at e h2
        simp only [fromZ, h, if_true]
        rw [e]
        generalize numZ (xs.take 8) = a
        generalize numZ (xs.drop 8) = b at *
        have e1 : (a * 256 ^ 8 + b) / 18446744073709551616 = a := by omega
        have e2 : (a * 256 ^ 8 + b) % 18446744073709551616 = b := by omega
        rw [e1, e2]; rfl
    have hfe : fromE xs = 0 := by simp only [fromE, h, if_true]
    rw [hfz, hfe]
    have d1 : ((xs.length : Int) != 4 && (xs.length : Int) != 16) = false := by
      rcases h with h | h <;> rw [h] <;> rfl
    have d2 : ((xs.length : Int) == 16) = (xs.length == 16) := by
      rcases h with h | h <;> rw [h] <;> rfl
    have hle : xs.length ≤ 16 := by omega
    clear hfz hfe
    refine spec_of_awp Tryd.func21 rfl (Nat.le_of_ble_eq_true rfl) fun ini => ?_
    simp only [Tryd.ntmps21]
    (repeat (first | refine awp_reg_seq rfl fun k => ?_ | refine awp_seq ?_ | refine awp_isF rfl (by assumption) ?_ | refine awp_skip (?_ : Awp _ _ _ _ _ _) | refine awp_block ?_ | (apply runk0 rfl rfl (opok_move rfl ?_) ?_; rotate_left 1; (· (conv => (lhs; whnf)))) | (apply runk0 rfl rfl (opok_assign rfl ?_) ?_; rotate_left 1; (· (conv => (lhs; whnf)))) | (apply runk_fa rfl rfl rfl ?_ rfl rfl ?_ ?_ ?_ ?_; rotate_left 5; (· (conv => (lhs; whnf))); (· (unfold sizeIs; conv => (lhs; whnf; arg 1; whnf))); (· rfl); (· (conv => (lhs; whnf)))) | (apply runk0 rfl rfl (opok_bin rfl ?_ ?_ ?_) ?_; rotate_left 3; (· (conv => (lhs; whnf))); (· (conv => (lhs; whnf))); (· (intro w; go_simp; first | done | rfl))) | (first | (apply runk0 rfl rfl (opok_lenO rfl ?_ ?_ ?_) ?_; rotate_left 5; (· (conv => (lhs; whnf))); (· (conv => (lhs; whnf; arg 1; whnf))); (· first | exact length_ints _ _ | rfl)) | (apply runk0 rfl rfl (opok_len_own rfl ?_ ?_) ?_; rotate_left 4; (· (conv => (lhs; whnf))); (· (conv => (lhs; whnf; arg 1; whnf)))) | (apply runk0 rfl rfl (opok_len rfl ?_ ?_ ?_) ?_; rotate_left 3; (· (conv => (lhs; whnf))); (· (conv => (lhs; whnf; arg 1; whnf))); (· first | exact length_ints _ _ | rfl))) | (apply runk_guard rfl rfl ?_ rfl ?_ ?_; rotate_left 3; (· (conv => (lhs; whnf))); (· (intro hb; (try rw [hb]); apply opok_move rfl ?_; rotate_left 1; (· (conv => (lhs; whnf)))))) | (apply runk_guard rfl rfl ?_ rfl ?_ ?_; rotate_left 3; (· (conv => (lhs; whnf))); (· (intro hb; (try rw [hb]); apply opok_len rfl ?_ ?_ ?_; rotate_left 3; (· (conv => (lhs; whnf))); (· (conv => (lhs; whnf; arg 1; whnf))); (· first | exact length_ints _ _ | rfl)))) | (apply runk_guard rfl rfl ?_ rfl ?_ ?_; rotate_left 3; (· (conv => (lhs; whnf))); (· (intro hb; (try rw [hb]); apply opok_bin rfl ?_ ?_ ?_; rotate_left 3; (· (conv => (lhs; whnf))); (· (conv => (lhs; whnf))); (· (intro w; go_simp; first | done | rfl))))) | (apply runk0 rfl rfl (opok_pick rfl ?_ ?_) ?_; rotate_left 2; (· (conv => (lhs; whnf))); (· first | exact pick_or | exact pick_and | (conv => (lhs; whnf)))) | (apply runk0 rfl rfl (opok_build rfl ?_ ?_ ?_ ?_ ?_) ?_; rotate_left 5; (· (conv => (lhs; whnf; arg 1; whnf))); (· (conv => (lhs; whnf; arg 1; repeat (whnf; arg 2)))); (· (conv => (lhs; whnf; arg 1; whnf))); (· (repeat (first | exact PartsOf.nil | (apply PartsOf.cons; (· (conv => (lhs; whnf))))))); (· (conv => (lhs; whnf; arg 1; repeat (whnf; arg 2))))) | (apply runk_alloc rfl rfl rfl ?_ ?_ ?_; rotate_left 2; (· (conv => (lhs; whnf; arg 1; whnf))); (· (conv => (lhs; whnf)))) | (apply runk_store rfl rfl rfl ?_ ?_ ?_ ?_ ?_ ?_ ?_ ?_ ?_ ?_ ?_; rotate_left 9; (· (conv => (lhs; whnf))); (· (conv => (lhs; whnf))); (· (conv => (lhs; whnf; arg 1; whnf; arg 2; whnf))); (· rfl); (· (conv => (lhs; whnf))); (· rfl); (· (unfold sizeIs; conv => (lhs; whnf; arg 1; whnf))); (· rfl); (· rfl); (· (conv => (lhs; repeat (whnf; arg 2))))) | refine runk_end (by kernel_rfl) ?_))
    rename_i ka kb kc
    refine awp_loop (fun m st => ∃ i : Nat, i + m = xs.length ∧ st.leB ⟨[(2, .ptr 2 ka 0), (4, .ptr 4 kc 0), (3, .val (.int .i64 0)), (20, .ro (ints .u8 xs)), (21, .val (.int .i64 (xs.length : Int))), (22, .val (.int .i64 (i : Int)))], [(2, some (ka, .box 24 [.val (.bool false), .val (.int .u64 0), .val (.int .u64 0)])), (4, some (kc, .box 24 [.val (.bool (xs.length == 16)), .val (.int .u64 (numZ (xs.take i) / 18446744073709551616)), .val (.int .u64 (numZ (xs.take i) % 18446744073709551616))]))]⟩) xs.length ⟨0, by omega, ?_⟩ ?_
    · (refine leB_of ?_ ?_; (· (repeat (first | exact EnvIs.nil | (refine EnvIs.cons ?_ ?_; (· first | rfl | ((conv => (lhs; whnf)); first | (simp [ints, numZ, d2]; done) | (simp [ints, numZ, d2]; omega))))))); (· (repeat (first | exact ObjsAre.nil | (refine ObjsAre.cons ?_ ?_; (· first | rfl | ((conv => (lhs; whnf)); first | (simp [ints, numZ, d2]; done) | (simp [ints, numZ, d2]; omega))))))))
    · rintro m st ⟨i, hi, hle⟩
      refine awp_less hle ?_
      clear hle st
      (repeat (first | refine awp_reg_seq rfl fun k => ?_ | refine awp_seq ?_ | (apply runk0 rfl rfl (opok_bin rfl ?_ ?_ ?_) ?_; rotate_left 3; (· (conv => (lhs; whnf))); (· (conv => (lhs; whnf))); (· (intro w; go_simp; first | done | rfl))) | refine runk_end (by kernel_rfl) ?_))
      refine awp_if rfl (fun hc => ?_) (fun hc => ?_)
      · have hlt : i < xs.length := by simpa using hc
        have hx := bytes_at hb i
        have hxi : (ints .u8 xs)[i]? = some (.val (.int .u8 (xs.getD i 0))) := ints_getD .u8 xs i hlt
        have hn := numZ_take hlt
        obtain ⟨n0, n1⟩ := numZ_bd _ (bytes_take hb i)
        have hp := pow256_16 (i := (xs.take i).length) (by simp; omega)
        generalize numZ (xs.take i) = s at hn n0 n1 ⊢
        generalize xs.getD i 0 = x at hx hxi hn
        obtain ⟨H, hH⟩ : ∃ H, s / 18446744073709551616 = H := ⟨_, rfl⟩
        obtain ⟨L, hL⟩ : ∃ L, s % 18446744073709551616 = L := ⟨_, rfl⟩
        have f1 : numZ (xs.take (i + 1)) / 18446744073709551616 = H * 256 + L / 72057594037927936 := by omega
        have f2 : numZ (xs.take (i + 1)) % 18446744073709551616 = L % 72057594037927936 * 256 + x := by omega
        have b1 : 0 ≤ H ∧ H < 72057594037927936 := by omega
        have b2 : 0 ≤ L ∧ L < 18446744073709551616 := by omega
        rw [hH, hL]
        clear n0 n1 hp hn hH hL
        have hw8 : IntKind.u64.wrap (H * 256) = H * 256 := by rw [IntKind.wrap_u64]; omega
        have hw7 : IntKind.u64.wrap (L * 256) = L % 72057594037927936 * 256 := by rw [IntKind.wrap_u64]; omega
        have hw9 : IntKind.u64.wrap x = x := by rw [IntKind.wrap_u64]; omega
        have ho1 := or8_u64' H (L / 72057594037927936) b1.1 b1.2 (by omega) (by omega)
        have ho2 := or8_u64' (L % 72057594037927936) x (by omega) (by omega) hx.1 hx.2
        rw [← f1] at ho1
        rw [← f2] at ho2
        have hwn : IntKind.i64.wrap ((i : Int) + 1) = ((i + 1 : Nat) : Int) := by rw [IntKind.wrap_i64]; omega
        clear f1 f2
        (repeat (first | refine awp_reg_seq rfl fun k => ?_ | refine awp_reg rfl fun k => ?_ | refine awp_seq ?_ | refine awp_isF rfl (by assumption) ?_ | refine awp_skip (?_ : Awp _ _ _ _ _ _) | refine awp_block ?_ | (apply runk0 rfl rfl (opok_move rfl ?_) ?_; rotate_left 1; (· (conv => (lhs; whnf)))) | (apply runk0 rfl rfl (opok_assign rfl ?_) ?_; rotate_left 1; (· (conv => (lhs; whnf)))) | (apply runk_fa rfl rfl rfl ?_ rfl rfl ?_ ?_ ?_ ?_; rotate_left 5; (· (conv => (lhs; whnf))); (· (unfold sizeIs; conv => (lhs; whnf; arg 1; whnf))); (· rfl); (· (conv => (lhs; whnf)))) | (first | (apply runk0 rfl rfl (opok_load rfl ?_ ?_ ?_ ?_) ?_; rotate_left 5; (· (conv => (lhs; whnf))); (· (conv => (lhs; whnf; arg 1; whnf; arg 2; whnf))); (· rfl); (· (conv => (lhs; whnf; arg 1; whnf)))) | (apply runk0 rfl rfl (opok_loadR rfl ?_ ?_ ?_) ?_; rotate_left 2; (· (conv => (lhs; whnf))); (· rfl); (· (conv => (lhs; whnf; arg 1; whnf))))) | (apply runk0 rfl rfl (opok_bin rfl ?_ ?_ ?_) ?_; rotate_left 3; (· (conv => (lhs; whnf))); (· (conv => (lhs; whnf))); (· (intro w; go_simp; first | done | rfl))) | (apply runk0 rfl rfl (opok_conv rfl ?_ ?_) ?_; rotate_left 2; (· (conv => (lhs; whnf))); (· (intro w; go_simp; first | done | rfl))) | (apply runk_store rfl rfl rfl ?_ ?_ ?_ ?_ ?_ ?_ ?_ ?_ ?_ ?_ ?_; rotate_left 9; (· (conv => (lhs; whnf))); (· (conv => (lhs; whnf))); (· (conv => (lhs; whnf; arg 1; whnf; arg 2; whnf))); (· rfl); (· (conv => (lhs; whnf))); (· rfl); (· (unfold sizeIs; conv => (lhs; whnf; arg 1; whnf))); (· rfl); (· rfl); (· (conv => (lhs; repeat (whnf; arg 2))))) | refine runk_end (by kernel_rfl) ?_ | (apply runk0 rfl rfl (opok_index_ro rfl ?_ ?_ ?_ ?_ ?_ ?_ ?_) ?_; rotate_left 6; (· (conv => (lhs; whnf))); (· (conv => (lhs; whnf))); (· (conv => (lhs; whnf; arg 1; whnf))); (· (unfold sizeIs; conv => (lhs; whnf; arg 1; whnf))); (· first | exact widths_ints _ _ | rfl | simp [widths, AVal.flat]); (· first | omega | (simp; done) | (simp; omega)); (· first | assumption | (simp only [Int.toNat_natCast]; assumption) | (simp only [Int.reduceToNat]; assumption)))))
        refine ⟨m - 1, by omega, i + 1, by omega, ?_⟩
        (refine leB_of ?_ ?_; (· (repeat (first | exact EnvIs.nil | (refine EnvIs.cons ?_ ?_; (· first | rfl | ((conv => (lhs; whnf)); first | (simp [ints]; done) | (simp [ints]; omega))))))); (· (repeat (first | exact ObjsAre.nil | (refine ObjsAre.cons ?_ ?_; (· first | rfl | ((conv => (lhs; whnf)); first | (simp [ints]; done) | (simp [ints]; omega))))))))
      · have hie : i = xs.length := by simp at hc; omega
        subst hie
        rw [List.take_length]
        refine awp_exit (?_ : Awp _ _ _ _ _ _)
        (repeat (first | refine awp_reg_seq rfl fun k => ?_ | (refine awp_ret ?_; (apply ends_pure ?_ ?_ ?_ ?_ ?_ (.inl rfl); rotate_left 1; (· first | exact res_one rfl rfl | exact res_two rfl rfl rfl | exact res_none rfl | exact res_three rfl rfl rfl rfl | exact res_cell rfl rfl rfl rfl rfl | exact res_cell2 rfl rfl rfl rfl rfl rfl | exact res3 rfl (rv_cell rfl rfl rfl rfl) (rv_tmp rfl) (rv_tmp rfl) | exact res3 rfl (rv_cell rfl rfl rfl rfl) (rv_cell rfl rfl rfl rfl) (rv_cell rfl rfl rfl rfl)); (· first | rfl | ((conv => (lhs; whnf)); first | rfl | (simp; done))); (· first | rfl | (simp; done) | (simp [AVal.pure, AVal.pures, AObj.pure]; done)); (· rfl); (· rfl))) | (apply runk0 rfl rfl (opok_assign rfl ?_) ?_; rotate_left 1; (· (conv => (lhs; whnf)))) | (apply runk0 rfl rfl (opok_loadA rfl ?_ ?_ ?_ ?_ ?_ ?_) ?_; rotate_left 6; (· (conv => (lhs; whnf))); (· (conv => (lhs; whnf; arg 1; whnf; arg 2; whnf))); (· rfl); (· (unfold sizeIs; conv => (lhs; whnf; arg 1; whnf))); (· (conv => (lhs; repeat (whnf; arg 2)))); (· rfl)) | (apply runk_store rfl rfl rfl ?_ ?_ ?_ ?_ ?_ ?_ ?_ ?_ ?_ ?_ ?_; rotate_left 9; (· (conv => (lhs; whnf))); (· (conv => (lhs; whnf))); (· (conv => (lhs; whnf; arg 1; whnf; arg 2; whnf))); (· rfl); (· (conv => (lhs; whnf))); (· rfl); (· (unfold sizeIs; conv => (lhs; whnf; arg 1; whnf))); (· rfl); (· rfl); (· (conv => (lhs; repeat (whnf; arg 2))))) | refine runk_end (by kernel_rfl) ?_))
  · have h4 : ¬ xs.length = 4 := fun e => h (.inl e)
    have h16 : ¬ xs.length = 16 := fun e => h (.inr e)
    have d1 : ((xs.length : Int) != 4) = true := by rw [bne_iff_ne]; omega
    have d2 : ((xs.length : Int) != 16) = true := by rw [bne_iff_ne]; omega
    simp only [fromZ, fromE, h4, h16, if_false, or_self]
    refine spec_of_awp Tryd.func21 rfl (Nat.le_of_ble_eq_true rfl) fun ini => ?_
    simp only [Tryd.ntmps21]
    (repeat (first | refine awp_reg_seq rfl fun k => ?_ | refine awp_seq ?_ | refine awp_true rfl ?_ | (refine awp_ret ?_; (apply ends_pure ?_ ?_ ?_ ?_ ?_ (.inl rfl); rotate_left 1; (· first | exact res_one rfl rfl | exact res_two rfl rfl rfl | exact res_none rfl | exact res_three rfl rfl rfl rfl | exact res_cell rfl rfl rfl rfl rfl | exact res_cell2 rfl rfl rfl rfl rfl rfl | exact res3 rfl (rv_cell rfl rfl rfl rfl) (rv_tmp rfl) (rv_tmp rfl) | exact res3 rfl (rv_cell rfl rfl rfl rfl) (rv_cell rfl rfl rfl rfl) (rv_cell rfl rfl rfl rfl)); (· first | rfl | ((conv => (lhs; whnf)); first | rfl | (simp; done))); (· first | rfl | (simp; done) | (simp [AVal.pure, AVal.pures, AObj.pure]; done)); (· rfl); (· rfl))) | (first | refine runk_ung rfl rfl rfl rfl ?_ | refine runk_ung rfl rfl rfl (by assumption) ?_) | (apply runk0 rfl rfl (opok_move rfl ?_) ?_; rotate_left 1; (· (conv => (lhs; whnf)))) | (apply runk0 rfl rfl (opok_assign rfl ?_) ?_; rotate_left 1; (· (conv => (lhs; whnf)))) | (apply runk0 rfl rfl (opok_bin rfl ?_ ?_ ?_) ?_; rotate_left 3; (· (conv => (lhs; whnf))); (· (conv => (lhs; whnf))); (· (intro w; go_simp; first | done | rfl))) | (first | (apply runk0 rfl rfl (opok_lenO rfl ?_ ?_ ?_) ?_; rotate_left 5; (· (conv => (lhs; whnf))); (· (conv => (lhs; whnf; arg 1; whnf))); (· first | exact length_ints _ _ | rfl)) | (apply runk0 rfl rfl (opok_len_own rfl ?_ ?_) ?_; rotate_left 4; (· (conv => (lhs; whnf))); (· (conv => (lhs; whnf; arg 1; whnf)))) | (apply runk0 rfl rfl (opok_len rfl ?_ ?_ ?_) ?_; rotate_left 3; (· (conv => (lhs; whnf))); (· (conv => (lhs; whnf; arg 1; whnf))); (· first | exact length_ints _ _ | rfl))) | (apply runk0 rfl rfl (opok_pick rfl ?_ ?_) ?_; rotate_left 2; (· (conv => (lhs; whnf))); (· first | exact pick_or | exact pick_and | (conv => (lhs; whnf)))) | (apply runk0 rfl rfl (opok_build rfl ?_ ?_ ?_ ?_ ?_) ?_; rotate_left 5; (· (conv => (lhs; whnf; arg 1; whnf))); (· (conv => (lhs; whnf; arg 1; repeat (whnf; arg 2)))); (· (conv => (lhs; whnf; arg 1; whnf))); (· (repeat (first | exact PartsOf.nil | (apply PartsOf.cons; (· (conv => (lhs; whnf))))))); (· (conv => (lhs; whnf; arg 1; repeat (whnf; arg 2))))) | (apply runk_alloc rfl rfl rfl ?_ ?_ ?_; rotate_left 2; (· (conv => (lhs; whnf; arg 1; whnf))); (· (conv => (lhs; whnf)))) | (apply runk_store rfl rfl rfl ?_ ?_ ?_ ?_ ?_ ?_ ?_ ?_ ?_ ?_ ?_; rotate_left 9; (· (conv => (lhs; whnf))); (· (conv => (lhs; whnf))); (· (conv => (lhs; whnf; arg 1; whnf; arg 2; whnf))); (· rfl); (· (conv => (lhs; whnf))); (· rfl); (· (unfold sizeIs; conv => (lhs; whnf; arg 1; whnf))); (· rfl); (· rfl); (· (conv => (lhs; repeat (whnf; arg 2))))) | refine runk_end (by kernel_rfl) ?_))
end Go.Proofs.YtmbmodeiikhnkaaDoor
