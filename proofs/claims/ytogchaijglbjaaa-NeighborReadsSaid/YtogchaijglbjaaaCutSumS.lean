/-
  Layer 6: the sums of both, by states.
-/
import Derived.Test.YtogchaijglbjaaaCutAbsB
import Derived.Test.YtogchaijglbjaaaCutSum
namespace Go.Proofs.Ytogchaijglbjaaa
open Go.RowKit
theorem psum_spec (xs : List Int) (hb : Bytes xs) (hl : xs.length ≤ 10000) : Spec Try.prog 46 [.ro (ints .u8 xs)] [] (.val (.int .u16 (sumOf xs))) [] :=
  spec_reads fun w A n c hn h => (sum_any A n c xs w hn hb (by omega) h).mono fun e w' ⟨h1, k, h2⟩ => ⟨h1, h2 ▸ below_drewN (Below.refl _ _) _⟩
theorem words_even (zs : List Int) (j : Nat) (h : 2 * j < zs.length) : words (zs.take (2 * j + 1)) = words (zs.take (2 * j)) + zs.getD (2 * j) 0 * 256 := by
  have := words_one (zs.take (2 * j + 1)) j (by simp; omega)
  rw [this, List.take_take]
  have e1 : min (2 * j) (2 * j + 1) = 2 * j := by omega
  rw [e1]
  congr 2
  simp [List.getD_eq_getElem?_getD, List.getElem?_take]
theorem words_odd (zs : List Int) (j : Nat) (h : 2 * j + 1 < zs.length) : words (zs.take (2 * j + 1 + 1)) = words (zs.take (2 * j + 1)) + zs.getD (2 * j + 1) 0 := by
  have h1 := words_two zs j h
  have h2 := words_even zs j (by omega)
  show words (zs.take (2 * j + 2)) = _
  omega
theorem and_low64 (x : Int) (hx : 0 ≤ x) (hx1 : x < 4294967296) : bits .and .i64 x 65535 = x % 65536 :=
  bits_mask .i64 62 (by decide) (fun n h0 h1 => by rw [IntKind.wrap_i64]; omega) 16 (by omega) x hx (by omega)
set_option maxHeartbeats 4000000 in
set_option maxRecDepth 100000 in
theorem rsum_spec (xs : List Int) (hb : Bytes xs) (hl : xs.length ≤ 10000) : Spec Try.prog 48 [.ro (ints .u8 xs)] [] (.val (.int .u16 (sumOf xs))) [] := by
  refine spec_of_awp Try.func48 rfl (Nat.le_of_ble_eq_true rfl) fun ini => ?_
  simp only [Try.ntmps48]
  refine awp_reg_seq rfl fun k1 => ?_
  (repeat (first | (apply runk0 rfl rfl (opok_assign rfl ?_) ?_; rotate_left 1; (· (conv => (lhs; whnf)))) | refine runk_end (by kernel_rfl) ?_))
  refine awp_reg_seq rfl fun k2 => ?_
  (repeat (first | (apply runk0 rfl rfl (opok_assign rfl ?_) ?_; rotate_left 1; (· (conv => (lhs; whnf)))) | refine runk_end (by kernel_rfl) ?_))
  refine awp_seq ?_
  refine awp_reg_seq rfl fun k3 => ?_
  (repeat (first | (apply runk0 rfl rfl (opok_move rfl ?_) ?_; rotate_left 1; (· (conv => (lhs; whnf)))) | (first | (apply runk0 rfl rfl (opok_lenO rfl ?_ ?_ ?_) ?_; rotate_left 5; (· (conv => (lhs; whnf))); (· (conv => (lhs; whnf; arg 1; whnf))); (· first | exact length_ints _ _ | rfl)) | (apply runk0 rfl rfl (opok_len_own rfl ?_ ?_) ?_; rotate_left 4; (· (conv => (lhs; whnf))); (· (conv => (lhs; whnf; arg 1; whnf)))) | (apply runk0 rfl rfl (opok_len rfl ?_ ?_ ?_) ?_; rotate_left 3; (· (conv => (lhs; whnf))); (· (conv => (lhs; whnf; arg 1; whnf))); (· first | exact length_ints _ _ | rfl))) | refine runk_end (by kernel_rfl) ?_))
  refine awp_block ?_
  refine awp_loop (fun m st => ∃ i : Nat, i + m = xs.length ∧ st.leB ⟨[(3, .val (.int .i64 (words (xs.take i)))), (6, .ro (ints .u8 xs)), (7, .val (.int .i64 (xs.length : Int))), (8, .val (.int .i64 (i : Int)))], []⟩) xs.length ⟨0, by omega, ?_⟩ ?_
  · (refine leB_of ?_ ?_; (· (repeat (first | exact EnvIs.nil | (refine EnvIs.cons ?_ ?_; (· first | rfl | ((conv => (lhs; whnf)); first | (simp [ints, words]; done) | (simp [ints, words]; omega))))))); (· (repeat (first | exact ObjsAre.nil | (refine ObjsAre.cons ?_ ?_; (· first | rfl | ((conv => (lhs; whnf)); first | (simp [ints, words]; done) | (simp [ints, words]; omega))))))))
  · rintro m st ⟨i, hi, hle⟩
    refine awp_less hle ?_
    clear hle st
    have hwi := words_bd _ (bytes_take hb i)
    have hlen : (xs.take i).length ≤ 10000 := by simp; omega
    have hs0 : 0 ≤ words (xs.take i) := hwi.1
    have hs1 : words (xs.take i) ≤ 655350000 := by omega
    clear hwi hlen
    refine awp_reg_seq rfl fun k4 => ?_
    (repeat (first | (apply runk0 rfl rfl (opok_bin rfl ?_ ?_ ?_) ?_; rotate_left 3; (· (conv => (lhs; whnf))); (· (conv => (lhs; whnf))); (· (intro w; go_simp; first | done | rfl))) | refine runk_end (by kernel_rfl) ?_))
    refine awp_seq ?_
    refine awp_cond _ rfl (fun hc => ?_) (fun hc => ?_)
    · have hlt : i < xs.length := by simp at hc; omega
      have hx := bytes_at hb i
      have hxi : (ints .u8 xs)[i]? = some (.val (.int .u8 (xs.getD i 0))) := by rw [ints_get, List.getD_eq_getElem?_getD, List.getElem?_eq_getElem hlt]; rfl
      have hsum : words (xs.take (i + 1)) = words (xs.take i) + (if i % 2 = 0 then xs.getD i 0 * 256 else xs.getD i 0) := by
        rcases (show i = 2 * (i / 2) ∨ i = 2 * (i / 2) + 1 by omega) with e | e
        · rw [if_pos (by omega)]
          have := words_even xs (i / 2) (by omega)
          rw [← e] at this; exact this
        · rw [if_neg (by omega)]
          have := words_odd xs (i / 2) (by omega)
          rw [← e] at this; exact this
      refine awp_skip (?_ : Awp _ _ _ _ _ _)
      generalize words (xs.take i) = s at hs0 hs1 hsum
      generalize xs.getD i 0 = x at hx hxi hsum
      obtain ⟨hx0, hx1⟩ := hx
      refine awp_seq (awp_block ?_)
      have hw8 : IntKind.i64.wrap x = x := by rw [IntKind.wrap_i64]; omega
      have hwn : IntKind.i64.wrap ((i : Int) + 1) = ((i + 1 : Nat) : Int) := by rw [IntKind.wrap_i64]; omega
      refine awp_reg_seq rfl fun k5 => ?_
      (repeat (first | (apply runk0 rfl rfl (opok_move rfl ?_) ?_; rotate_left 1; (· (conv => (lhs; whnf))))))
      (apply runk0 rfl rfl (opok_index_ro rfl ?_ ?_ ?_ ?_ ?_ ?_ ?_) ?_; rotate_left 6; (· (conv => (lhs; whnf))); (· (conv => (lhs; whnf))); (· (conv => (lhs; whnf; arg 1; whnf))); (· (unfold sizeIs; conv => (lhs; whnf; arg 1; whnf))); (· first | exact widths_ints _ _ | rfl | simp [widths, AVal.flat]); (· first | omega | (simp; done) | (simp; omega)); (· simp only [Int.toNat_natCast]; exact hxi))
      (repeat (first | (apply runk0 rfl rfl (opok_assign rfl ?_) ?_; rotate_left 1; (· (conv => (lhs; whnf)))) | (first | (apply runk0 rfl rfl (opok_load rfl ?_ ?_ ?_ ?_) ?_; rotate_left 5; (· (conv => (lhs; whnf))); (· (conv => (lhs; whnf; arg 1; whnf; arg 2; whnf))); (· rfl); (· (conv => (lhs; whnf; arg 1; whnf)))) | (apply runk0 rfl rfl (opok_loadR rfl ?_ ?_ ?_) ?_; rotate_left 2; (· (conv => (lhs; whnf))); (· rfl); (· (conv => (lhs; whnf; arg 1; whnf))))) | refine runk_end (by kernel_rfl) ?_))
      have htm : (i : Int).tmod 2 = ((i % 2 : Nat) : Int) := by rw [Int.tmod_eq_emod_of_nonneg (by omega)]; omega
      rcases (show i % 2 = 0 ∨ i % 2 = 1 by omega) with hp | hp
      · have hp2 : (i : Int).tmod 2 = 0 := by rw [htm, hp]; rfl
        rw [if_pos hp] at hsum
        clear htm
        have hw9 : IntKind.i64.wrap (x * 256) = x * 256 := by rw [IntKind.wrap_i64]; omega
        have hw10 : IntKind.i64.wrap (s + x * 256) = words (xs.take (i + 1)) := by rw [IntKind.wrap_i64, hsum]; omega
        refine awp_reg_seq rfl fun k6 => ?_
        (repeat (first | (apply runk0 rfl rfl (opok_move rfl ?_) ?_; rotate_left 1; (· (conv => (lhs; whnf)))) | (apply runk0 rfl rfl (opok_bin rfl ?_ ?_ ?_) ?_; rotate_left 3; (· (conv => (lhs; whnf))); (· (conv => (lhs; whnf))); (· (intro w; go_simp; first | done | rfl))) | refine runk_end (by kernel_rfl) ?_))
        refine awp_true rfl ?_
        refine awp_reg rfl fun k7 => ?_
        (repeat (first | (apply runk0 rfl rfl (opok_move rfl ?_) ?_; rotate_left 1; (· (conv => (lhs; whnf)))) | (apply runk0 rfl rfl (opok_assign rfl ?_) ?_; rotate_left 1; (· (conv => (lhs; whnf)))) | (apply runk0 rfl rfl (opok_bin rfl ?_ ?_ ?_) ?_; rotate_left 3; (· (conv => (lhs; whnf))); (· (conv => (lhs; whnf))); (· (intro w; go_simp; first | done | rfl))) | (apply runk0 rfl rfl (opok_conv rfl ?_ ?_) ?_; rotate_left 2; (· (conv => (lhs; whnf))); (· (intro w; go_simp; first | done | rfl))) | refine runk_end (by kernel_rfl) ?_))
        show Awp _ _ _ _ _ _
        refine awp_reg rfl fun k8 => ?_
        (repeat (first | (apply runk0 rfl rfl (opok_move rfl ?_) ?_; rotate_left 1; (· (conv => (lhs; whnf)))) | (apply runk0 rfl rfl (opok_bin rfl ?_ ?_ ?_) ?_; rotate_left 3; (· (conv => (lhs; whnf))); (· (conv => (lhs; whnf))); (· (intro w; go_simp; first | done | rfl))) | refine runk_end (by kernel_rfl) ?_))
        refine ⟨m - 1, by omega, i + 1, by omega, ?_⟩
        (refine leB_of ?_ ?_; (· (repeat (first | exact EnvIs.nil | (refine EnvIs.cons ?_ ?_; (· first | rfl | ((conv => (lhs; whnf)); first | (simp [ints]; done) | (simp [ints]; omega))))))); (· (repeat (first | exact ObjsAre.nil | (refine ObjsAre.cons ?_ ?_; (· first | rfl | ((conv => (lhs; whnf)); first | (simp [ints]; done) | (simp [ints]; omega))))))))
      · have hp2 : (i : Int).tmod 2 = 1 := by rw [htm, hp]; rfl
        rw [if_neg (by omega)] at hsum
        clear htm
        have hw10 : IntKind.i64.wrap (s + x) = words (xs.take (i + 1)) := by rw [IntKind.wrap_i64, hsum]; omega
        refine awp_reg_seq rfl fun k6 => ?_
        (repeat (first | (apply runk0 rfl rfl (opok_move rfl ?_) ?_; rotate_left 1; (· (conv => (lhs; whnf)))) | (apply runk0 rfl rfl (opok_bin rfl ?_ ?_ ?_) ?_; rotate_left 3; (· (conv => (lhs; whnf))); (· (conv => (lhs; whnf))); (· (intro w; go_simp; first | done | rfl))) | refine runk_end (by kernel_rfl) ?_))
        refine awp_false rfl ?_
        refine awp_reg rfl fun k7 => ?_
        (repeat (first | (apply runk0 rfl rfl (opok_move rfl ?_) ?_; rotate_left 1; (· (conv => (lhs; whnf)))) | (apply runk0 rfl rfl (opok_assign rfl ?_) ?_; rotate_left 1; (· (conv => (lhs; whnf)))) | (apply runk0 rfl rfl (opok_bin rfl ?_ ?_ ?_) ?_; rotate_left 3; (· (conv => (lhs; whnf))); (· (conv => (lhs; whnf))); (· (intro w; go_simp; first | done | rfl))) | (apply runk0 rfl rfl (opok_conv rfl ?_ ?_) ?_; rotate_left 2; (· (conv => (lhs; whnf))); (· (intro w; go_simp; first | done | rfl))) | refine runk_end (by kernel_rfl) ?_))
        show Awp _ _ _ _ _ _
        refine awp_reg rfl fun k8 => ?_
        (repeat (first | (apply runk0 rfl rfl (opok_move rfl ?_) ?_; rotate_left 1; (· (conv => (lhs; whnf)))) | (apply runk0 rfl rfl (opok_bin rfl ?_ ?_ ?_) ?_; rotate_left 3; (· (conv => (lhs; whnf))); (· (conv => (lhs; whnf))); (· (intro w; go_simp; first | done | rfl))) | refine runk_end (by kernel_rfl) ?_))
        refine ⟨m - 1, by omega, i + 1, by omega, ?_⟩
        (refine leB_of ?_ ?_; (· (repeat (first | exact EnvIs.nil | (refine EnvIs.cons ?_ ?_; (· first | rfl | ((conv => (lhs; whnf)); first | (simp [ints]; done) | (simp [ints]; omega))))))); (· (repeat (first | exact ObjsAre.nil | (refine ObjsAre.cons ?_ ?_; (· first | rfl | ((conv => (lhs; whnf)); first | (simp [ints]; done) | (simp [ints]; omega))))))))
    · have hie : i = xs.length := by simp at hc; omega
      subst hie
      rw [List.take_length] at *
      refine awp_exit (?_ : Awp _ _ _ _ _ _)
      refine awp_seq (awp_block ?_)
      refine awp_loop (fun m st => ∃ t : Int, 0 ≤ t ∧ t ≤ 1000000000 ∧ t.toNat = m ∧ fold t = fold (words xs) ∧ st.leB ⟨[(3, .val (.int .i64 t))], []⟩) (words xs).toNat ⟨words xs, hs0, by omega, rfl, rfl, ?_⟩ ?_
      · (refine leB_of ?_ ?_; (· (repeat (first | exact EnvIs.nil | (refine EnvIs.cons ?_ ?_; (· first | rfl | ((conv => (lhs; whnf)); first | (simp [ints]; done) | (simp [ints]; omega))))))); (· (repeat (first | exact ObjsAre.nil | (refine ObjsAre.cons ?_ ?_; (· first | rfl | ((conv => (lhs; whnf)); first | (simp [ints]; done) | (simp [ints]; omega))))))))
      · rintro m2 st ⟨t, t0, t1, rfl, tf, hle⟩
        refine awp_less hle ?_
        clear hle st
        refine awp_seq ?_
        refine awp_reg_seq rfl fun k7 => ?_
        (repeat (first | (apply runk0 rfl rfl (opok_move rfl ?_) ?_; rotate_left 1; (· (conv => (lhs; whnf)))) | (apply runk0 rfl rfl (opok_bin rfl ?_ ?_ ?_) ?_; rotate_left 3; (· (conv => (lhs; whnf))); (· (conv => (lhs; whnf))); (· (intro w; go_simp; first | done | rfl))) | refine runk_end (by kernel_rfl) ?_))
        refine awp_cond _ rfl (fun hbig => ?_) (fun hbig => ?_)
        · have hbt : 65535 < t := by simpa using hbig
          have g1 := and_low64 t t0 (by omega)
          have g3 : IntKind.i64.wrap (t / 65536 + t % 65536) = t / 65536 + t % 65536 := by rw [IntKind.wrap_i64]; omega
          have g4 := fold_step t hbt
          refine awp_skip (?_ : Awp _ _ _ _ _ _)
          refine awp_block ?_
          refine awp_reg rfl fun k8 => ?_
          (repeat (first | (apply runk0 rfl rfl (opok_move rfl ?_) ?_; rotate_left 1; (· (conv => (lhs; whnf)))) | (apply runk0 rfl rfl (opok_assign rfl ?_) ?_; rotate_left 1; (· (conv => (lhs; whnf)))) | (apply runk0 rfl rfl (opok_bin rfl ?_ ?_ ?_) ?_; rotate_left 3; (· (conv => (lhs; whnf))); (· (conv => (lhs; whnf))); (· (intro w; go_simp; first | done | rfl))) | refine runk_end (by kernel_rfl) ?_))
          refine ⟨(t / 65536 + t % 65536).toNat, by omega, t / 65536 + t % 65536, by omega, by omega, rfl, by rw [g4, tf], ?_⟩
          (refine leB_of ?_ ?_; (· (repeat (first | exact EnvIs.nil | (refine EnvIs.cons ?_ ?_; (· first | rfl | ((conv => (lhs; whnf)); first | (simp [ints]; done) | (simp [ints]; omega))))))); (· (repeat (first | exact ObjsAre.nil | (refine ObjsAre.cons ?_ ?_; (· first | rfl | ((conv => (lhs; whnf)); first | (simp [ints]; done) | (simp [ints]; omega))))))))
        · have hbt : t ≤ 65535 := by simp at hbig; omega
          have g1 : IntKind.i64.wrap (65535 - t) = 65535 - t := by rw [IntKind.wrap_i64]; omega
          have g5 : IntKind.u16.wrap (65535 - t) = 65535 - t := by simp only [IntKind.wrap, IntKind.bits, IntKind.signed]; simp; omega
          have g2 := fold_done t t0 hbt
          have g6 : sumOf xs = 65535 - t := by unfold sumOf; rw [← tf, g2]
          rw [g6]
          refine awp_exit (?_ : Awp _ _ _ _ _ _)
          refine awp_reg_seq rfl fun k9 => ?_
          (repeat (first | (apply runk0 rfl rfl (opok_move rfl ?_) ?_; rotate_left 1; (· (conv => (lhs; whnf)))) | (apply runk0 rfl rfl (opok_assign rfl ?_) ?_; rotate_left 1; (· (conv => (lhs; whnf)))) | (apply runk0 rfl rfl (opok_bin rfl ?_ ?_ ?_) ?_; rotate_left 3; (· (conv => (lhs; whnf))); (· (conv => (lhs; whnf))); (· (intro w; go_simp; first | done | rfl))) | (apply runk0 rfl rfl (opok_conv rfl ?_ ?_) ?_; rotate_left 2; (· (conv => (lhs; whnf))); (· (intro w; go_simp; first | done | rfl))) | refine runk_end (by kernel_rfl) ?_))
          refine awp_ret ?_
          (apply ends_pure ?_ ?_ ?_ ?_ ?_ (.inl rfl); rotate_left 1; (· first | exact res_one rfl rfl | exact res_two rfl rfl rfl | exact res_none rfl | exact res_three rfl rfl rfl rfl | exact res_cell rfl rfl rfl rfl rfl | exact res_cell2 rfl rfl rfl rfl rfl rfl | exact res3 rfl (rv_cell rfl rfl rfl rfl) (rv_tmp rfl) (rv_tmp rfl) | exact res3 rfl (rv_cell rfl rfl rfl rfl) (rv_cell rfl rfl rfl rfl) (rv_cell rfl rfl rfl rfl)); (· first | rfl | ((conv => (lhs; whnf)); first | rfl | (simp; done))); (· first | rfl | (simp; done) | (simp [AVal.pure, AVal.pures, AObj.pure]; done)); (· rfl); (· rfl))
end Go.Proofs.Ytogchaijglbjaaa
