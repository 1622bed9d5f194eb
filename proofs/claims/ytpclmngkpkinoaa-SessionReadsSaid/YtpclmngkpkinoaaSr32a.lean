/-
  Layer 32: the reference's parts of bytes, by states.
-/
import Derived.Test.YtpclmngkpkinoaaSd32e
namespace Go.Proofs.Ytpclmngkpkinoaa
open Go.RowKit
/-- The number of bytes as the reference reckons it. -/
def valZ (xs : List Int) : Int := xs.foldl (fun n c => bits .or .i64 (IntKind.i64.wrap (n * 256)) c) 0
theorem valZ_snoc (xs : List Int) (c : Int) : valZ (xs ++ [c]) = bits .or .i64 (IntKind.i64.wrap (valZ xs * 256)) c := by simp [valZ]
theorem valZ_take {xs : List Int} {i : Nat} (h : i < xs.length) : valZ (xs.take (i + 1)) = bits .or .i64 (IntKind.i64.wrap (valZ (xs.take i) * 256)) (xs.getD i 0) := by
  rw [← valZ_snoc]
  congr 1
  rw [List.take_add_one, List.getD_eq_getElem?_getD, List.getElem?_eq_getElem h]; rfl
theorem valZ_num {xs : List Int} (hb : Bytes xs) (hl : xs.length ≤ 4) : valZ xs = numZ xs := by
  have key : ∀ i, i ≤ xs.length → valZ (xs.take i) = numZ (xs.take i) := fun i => by
    induction i with
    | zero => intro _; rfl
    | succ i ih =>
      intro hi
      have h : i < xs.length := by omega
      have hx := bytes_at hb i
      obtain ⟨n0, n1⟩ := numZ_bd _ (bytes_take hb i)
      have hp := pow256_le (i := (xs.take i).length) (by simp; omega)
      rw [valZ_take h, numZ_take h, ih (by omega)]
      generalize numZ (xs.take i) = s at *
      rw [show IntKind.i64.wrap (s * 256) = s * 256 by rw [IntKind.wrap_i64]; omega]
      exact or8_i64 s _ n0 (by omega) hx.1 hx.2
  have := key xs.length (Nat.le_refl _)
  rwa [List.take_length] at this
set_option maxHeartbeats 8000000 in
set_option maxRecDepth 100000 in
theorem rvalue_spec (xs : List Int) (hb : Bytes xs) (hl : xs.length ≤ 1000000) : Spec Try.prog 34 [.ro (ints .u8 xs)] [] (.val (.int .i64 (valZ xs))) [] := by
  refine spec_of_awp Try.func34 rfl (Nat.le_of_ble_eq_true rfl) fun ini => ?_
  simp only [Try.ntmps34]
  (repeat (first | refine awp_reg_seq rfl fun k => ?_ | refine awp_seq ?_ | refine awp_block ?_ | (apply runk0 rfl rfl (opok_move rfl ?_) ?_; rotate_left 1; (· (conv => (lhs; whnf)))) | (apply runk0 rfl rfl (opok_assign rfl ?_) ?_; rotate_left 1; (· (conv => (lhs; whnf)))) | (first | (apply runk0 rfl rfl (opok_lenO rfl ?_ ?_ ?_) ?_; rotate_left 5; (· (conv => (lhs; whnf))); (· (conv => (lhs; whnf; arg 1; whnf))); (· first | exact length_ints _ _ | rfl)) | (apply runk0 rfl rfl (opok_len_own rfl ?_ ?_) ?_; rotate_left 4; (· (conv => (lhs; whnf))); (· (conv => (lhs; whnf; arg 1; whnf)))) | (apply runk0 rfl rfl (opok_len rfl ?_ ?_ ?_) ?_; rotate_left 3; (· (conv => (lhs; whnf))); (· (conv => (lhs; whnf; arg 1; whnf))); (· first | exact length_ints _ _ | rfl))) | refine runk_end (by kernel_rfl) ?_))
  refine awp_loop (fun m st => ∃ i : Nat, i + m = xs.length ∧ st.leB ⟨[(3, .val (.int .i64 (valZ (xs.take i)))), (6, .ro (ints .u8 xs)), (7, .val (.int .i64 (xs.length : Int))), (8, .val (.int .i64 (i : Int)))], []⟩) xs.length ⟨0, by omega, ?_⟩ ?_
  · (refine leB_of ?_ ?_; (· (repeat (first | exact EnvIs.nil | (refine EnvIs.cons ?_ ?_; (· first | rfl | ((conv => (lhs; whnf)); first | (simp [ints, valZ]; done) | (simp [ints, valZ]; omega))))))); (· (repeat (first | exact ObjsAre.nil | (refine ObjsAre.cons ?_ ?_; (· first | rfl | ((conv => (lhs; whnf)); first | (simp [ints, valZ]; done) | (simp [ints, valZ]; omega))))))))
  · rintro m st ⟨i, hi, hle⟩
    refine awp_less hle ?_
    clear hle st
    (repeat (first | refine awp_reg_seq rfl fun k => ?_ | refine awp_seq ?_ | (apply runk0 rfl rfl (opok_bin rfl ?_ ?_ ?_) ?_; rotate_left 3; (· (conv => (lhs; whnf))); (· (conv => (lhs; whnf))); (· (intro w; go_simp; first | done | rfl))) | refine runk_end (by kernel_rfl) ?_))
    refine awp_if rfl (fun hc => ?_) (fun hc => ?_)
    · have hlt : i < xs.length := by simpa using hc
      have hx := bytes_at hb i
      have hxi : (ints .u8 xs)[i]? = some (.val (.int .u8 (xs.getD i 0))) := ints_getD .u8 xs i hlt
      have hn := valZ_take hlt
      generalize valZ (xs.take i) = s at hn
      generalize xs.getD i 0 = x at hx hxi hn
      have hw9 : IntKind.i64.wrap x = x := by rw [IntKind.wrap_i64]; omega
      have hwn : IntKind.i64.wrap ((i : Int) + 1) = ((i + 1 : Nat) : Int) := by rw [IntKind.wrap_i64]; omega
      (repeat (first | refine awp_reg_seq rfl fun k => ?_ | refine awp_reg rfl fun k => ?_ | refine awp_seq ?_ | refine awp_skip (?_ : Awp _ _ _ _ _ _) | refine awp_block ?_ | (apply runk0 rfl rfl (opok_move rfl ?_) ?_; rotate_left 1; (· (conv => (lhs; whnf)))) | (apply runk0 rfl rfl (opok_assign rfl ?_) ?_; rotate_left 1; (· (conv => (lhs; whnf)))) | (first | (apply runk0 rfl rfl (opok_load rfl ?_ ?_ ?_ ?_) ?_; rotate_left 5; (· (conv => (lhs; whnf))); (· (conv => (lhs; whnf; arg 1; whnf; arg 2; whnf))); (· rfl); (· (conv => (lhs; whnf; arg 1; whnf)))) | (apply runk0 rfl rfl (opok_loadR rfl ?_ ?_ ?_) ?_; rotate_left 2; (· (conv => (lhs; whnf))); (· rfl); (· (conv => (lhs; whnf; arg 1; whnf))))) | (apply runk0 rfl rfl (opok_bin rfl ?_ ?_ ?_) ?_; rotate_left 3; (· (conv => (lhs; whnf))); (· (conv => (lhs; whnf))); (· (intro w; go_simp; first | done | rfl))) | (apply runk0 rfl rfl (opok_conv rfl ?_ ?_) ?_; rotate_left 2; (· (conv => (lhs; whnf))); (· (intro w; go_simp; first | done | rfl))) | refine runk_end (by kernel_rfl) ?_ | (apply runk0 rfl rfl (opok_index_ro rfl ?_ ?_ ?_ ?_ ?_ ?_ ?_) ?_; rotate_left 6; (· (conv => (lhs; whnf))); (· (conv => (lhs; whnf))); (· (conv => (lhs; whnf; arg 1; whnf))); (· (unfold sizeIs; conv => (lhs; whnf; arg 1; whnf))); (· first | exact widths_ints _ _ | rfl | simp [widths, AVal.flat]); (· first | omega | (simp; done) | (simp; omega)); (· first | assumption | (simp only [Int.toNat_natCast]; assumption) | (simp only [Int.reduceToNat]; assumption)))))
      refine ⟨m - 1, by omega, i + 1, by omega, ?_⟩
      (refine leB_of ?_ ?_; (· (repeat (first | exact EnvIs.nil | (refine EnvIs.cons ?_ ?_; (· first | rfl | ((conv => (lhs; whnf)); first | (simp [ints, hn]; done) | (simp [ints, hn]; omega))))))); (· (repeat (first | exact ObjsAre.nil | (refine ObjsAre.cons ?_ ?_; (· first | rfl | ((conv => (lhs; whnf)); first | (simp [ints, hn]; done) | (simp [ints, hn]; omega))))))))
    · have hie : i = xs.length := by simp at hc; omega
      subst hie
      rw [List.take_length]
      refine awp_exit (?_ : Awp _ _ _ _ _ _)
      (repeat (first | refine awp_reg_seq rfl fun k => ?_ | (refine awp_ret ?_; (apply ends_pure ?_ ?_ ?_ ?_ ?_ (.inl rfl); rotate_left 1; (· first | exact res_one rfl rfl | exact res_two rfl rfl rfl | exact res_none rfl | exact res_three rfl rfl rfl rfl | exact res_cell rfl rfl rfl rfl rfl | exact res_cell2 rfl rfl rfl rfl rfl rfl | exact res3 rfl (rv_cell rfl rfl rfl rfl) (rv_tmp rfl) (rv_tmp rfl) | exact res3 rfl (rv_cell rfl rfl rfl rfl) (rv_cell rfl rfl rfl rfl) (rv_cell rfl rfl rfl rfl)); (· first | rfl | ((conv => (lhs; whnf)); first | rfl | (simp; done))); (· first | rfl | (simp; done) | (simp [AVal.pure, AVal.pures, AObj.pure]; done)); (· rfl); (· rfl))) | (apply runk0 rfl rfl (opok_move rfl ?_) ?_; rotate_left 1; (· (conv => (lhs; whnf)))) | (apply runk0 rfl rfl (opok_assign rfl ?_) ?_; rotate_left 1; (· (conv => (lhs; whnf)))) | refine runk_end (by kernel_rfl) ?_))
/-- The pieces of bytes. -/
def prt : Nat → List Int → Option (List (Int × List Int))
  | 0, _ => some []
  | n + 1, bs => if bs.length = 0 then some [] else if (bs.length : Int) < 2 then none else if (bs.length : Int) < 2 + bs.getD 1 0 then none else (prt n (bs.drop (2 + (bs.getD 1 0).toNat))).map fun L => (bs.getD 0 0, (bs.drop 2).take (bs.getD 1 0).toNat) :: L
/-- A piece's bytes as a value. -/
def pA (x : Int × List Int) : AVal := .ro (ints .u8 x.2)
@[simp] theorem widths_pA (l : List (Int × List Int)) : widths 1 (l.map pA) = true := by simp [widths, pA, AVal.flat]
@[simp] theorem pure_pA (l : List (Int × List Int)) : AVal.pures (l.map pA) = true := AVal.pures_of fun x hx => by
  obtain ⟨y, -, rfl⟩ := List.mem_map.1 hx
  exact AVal.pures_of fun u hu => by
    obtain ⟨v, -, rfl⟩ := List.mem_map.1 hu
    rfl
theorem one_pA (l : List (Int × List Int)) : ((l.map pA).flatMap AVal.flat).all AVal.one = true := by
  rw [List.all_eq_true]
  intro x hx
  obtain ⟨a, ha, hx⟩ := List.mem_flatMap.1 hx
  obtain ⟨y, -, rfl⟩ := List.mem_map.1 ha
  simp only [pA, AVal.flat, List.mem_singleton] at hx
  subst hx; rfl
/-- What parts answers. -/
def prA : Option (List (Int × List Int)) → AVal
  | some L => .tuple [.ro (ints .u8 (L.map (·.1))), .ro (L.map pA), .val (.bool true)]
  | none => .tuple [.ro [], .ro [], .val (.bool false)]
set_option maxHeartbeats 8000000 in
set_option maxRecDepth 100000 in
theorem parts_spec (xs : List Int) (hx : Bytes xs) (hl : xs.length ≤ 1000000) : Spec Try.prog 49 [.ro (ints .u8 xs)] [] (prA (prt xs.length xs)) [] := by
  obtain ⟨R, hR⟩ : ∃ R, prt xs.length xs = R := ⟨_, rfl⟩
  rw [hR]
  refine spec_of_awp Try.func49 rfl (Nat.le_of_ble_eq_true rfl) fun ini => ?_
  simp only [Try.ntmps49]
  (repeat (first | refine awp_reg_seq rfl fun k => ?_ | (apply runk0 rfl rfl (opok_assign rfl ?_) ?_; rotate_left 1; (· (conv => (lhs; whnf)))) | refine runk_end (by kernel_rfl) ?_))
  refine awp_adopt 5 5 5 1 rfl fun ka => ?_
  refine awp_adopt 6 6 22 1 rfl fun kb => ?_
  (repeat (first | refine awp_seq ?_ | refine awp_block ?_))
  refine awp_loop (fun n st => ∃ (ys : List Int) (K : List (Int × List Int)) (n' ka kb : Nat), ys.length = n ∧ Bytes ys ∧ ys.length + K.length ≤ 1000000 ∧ ys.length ≤ n' ∧ (prt n' ys).map (K ++ ·) = R ∧ st.leB ⟨[(0, .ro (ints .u8 ys)), (5, .own 5 ka K.length), (6, .own 6 kb K.length)], [(5, some (ka, .row 5 1 (ints .u8 (K.map (·.1))))), (6, some (kb, .row 22 1 (K.map pA)))]⟩) xs.length ⟨xs, [], xs.length, ka, kb, rfl, hx, hl, Nat.le_refl _, by rw [hR]; cases R <;> rfl, ?_⟩ ?_
  · (refine leB_of ?_ ?_; (· (repeat (first | exact EnvIs.nil | (refine EnvIs.cons ?_ ?_; (· first | rfl | ((conv => (lhs; whnf)); first | (simp [ints]; done) | (simp [ints]; omega))))))); (· (repeat (first | exact ObjsAre.nil | (refine ObjsAre.cons ?_ ?_; (· first | rfl | ((conv => (lhs; whnf)); first | (simp [ints]; done) | (simp [ints]; omega))))))))
  clear hx hl hR
  rintro n st ⟨ys, K, n', ka, kb, rfl, hy, hyl, hn', hR, hle⟩
  refine awp_less hle ?_
  clear hle st
  have y0 := bytes_at hy 0
  have y1 := bytes_at hy 1
  rcases Nat.eq_zero_or_pos ys.length with h0 | h0
  · have hR' : some K = R := by
      rw [← hR]
      cases n' with
      | zero => simp [prt]
      | succ n' => rw [prt, if_pos h0]; simp
    subst hR'
    have g0 : decide ((0 : Int) < (ys.length : Int)) = false := decide_eq_false (by omega)
    clear hR
    unfold prA
    dsimp only
    (repeat (first | refine awp_reg_seq rfl fun k => ?_ | refine awp_seq ?_ | refine awp_false rfl ?_ | refine awp_exit (?_ : Awp _ _ _ _ _ _) | (apply runk0 rfl rfl (opok_move rfl ?_) ?_; rotate_left 1; (· (conv => (lhs; whnf)))) | (apply runk_assignOwn rfl rfl rfl ?_ ?_ ?_; rotate_left 4; (· (conv => (lhs; whnf))); (· (conv => (lhs; whnf; arg 1; whnf)))) | (apply runk0 rfl rfl (opok_assign rfl ?_) ?_; rotate_left 1; (· (conv => (lhs; whnf)))) | (apply runk0 rfl rfl (opok_bin rfl ?_ ?_ ?_) ?_; rotate_left 3; (· (conv => (lhs; whnf))); (· (conv => (lhs; whnf))); (· (intro w; go_simp; first | done | rfl))) | (first | (apply runk0 rfl rfl (opok_lenO rfl ?_ ?_ ?_) ?_; rotate_left 5; (· (conv => (lhs; whnf))); (· (conv => (lhs; whnf; arg 1; whnf))); (· first | exact length_ints _ _ | rfl)) | (apply runk0 rfl rfl (opok_len_own rfl ?_ ?_) ?_; rotate_left 4; (· (conv => (lhs; whnf))); (· (conv => (lhs; whnf; arg 1; whnf)))) | (apply runk0 rfl rfl (opok_len rfl ?_ ?_ ?_) ?_; rotate_left 3; (· (conv => (lhs; whnf))); (· (conv => (lhs; whnf; arg 1; whnf))); (· first | exact length_ints _ _ | rfl))) | (apply runk0 rfl rfl (opok_extract rfl ?_ ?_) ?_; rotate_left 2; (· (conv => (lhs; whnf))); (· (conv => (lhs; whnf; arg 1; whnf)))) | refine runk_end (by kernel_rfl) ?_))
    refine awp_less (st' := ⟨[(4, .val (.bool true)), (2, .own 2 k K.length), (3, .own 3 k K.length)], [(2, some (k, .row 5 1 (ints .u8 (K.map (·.1))))), (3, some (k, .row 22 1 (K.map pA)))]⟩) ?_ ?_
    · (refine leB_of ?_ ?_; (· (repeat (first | exact EnvIs.nil | (refine EnvIs.cons ?_ ?_; (· first | rfl | ((conv => (lhs; whnf)); first | (simp [ints]; done) | (simp [ints]; omega))))))); (· (repeat (first | exact ObjsAre.nil | (refine ObjsAre.cons ?_ ?_; (· first | rfl | ((conv => (lhs; whnf)); first | (simp [ints]; done) | (simp [ints]; omega))))))))
    (refine awp_frz 2 k (ints .u8 (K.map (·.1))) ([(4, .val (.bool true)), (2, .ro (ints .u8 (K.map (·.1)))), (3, .own 3 k K.length)]) ([(3, some (k, .row 22 1 (K.map pA)))]) rfl ?_ ?_ ?_; (· (repeat (first | exact EnvFrz.nil | (refine EnvFrz.cons rfl ?_ ?_; (· first | exact .one (.same _) | (refine .one (.own _ ?_); first | rfl | (simp; done) | (simp only [length_ints]; omega)) | (refine .agg ?_; (repeat (first | exact Frzs.nil | (refine Frzs.cons ?_ ?_; (· first | exact Frz1.same _ | (refine Frz1.own _ ?_; first | rfl | (simp; done) | (simp only [length_ints]; omega)) | exact Frz1.any _))))) | (refine .tuple ?_; (repeat (first | exact Frzs.nil | (refine Frzs.cons ?_ ?_; (· first | exact Frz1.same _ | (refine Frz1.own _ ?_; first | rfl | (simp; done) | (simp only [length_ints]; omega)) | exact Frz1.any _)))))))))); (· (repeat (first | exact ObjsFrz.nil | (refine ObjsFrz.cons rfl rfl ?_ ?_; (· first | exact .same _ | (refine .box ?_; (repeat (first | exact Frzs.nil | (refine Frzs.cons ?_ ?_; (· first | exact Frz1.same _ | (refine Frz1.own _ ?_; first | rfl | (simp; done) | (simp only [length_ints]; omega)) | exact Frz1.any _))))) | (refine .row ?_ rfl; (repeat (first | exact Frzs.nil | (refine Frzs.cons ?_ ?_; (· first | exact Frz1.same _ | (refine Frz1.own _ ?_; first | rfl | (simp; done) | (simp only [length_ints]; omega)) | exact Frz1.any _)))))))))))
    (refine awp_frz 3 k (K.map pA) ([(4, .val (.bool true)), (2, .ro (ints .u8 (K.map (·.1)))), (3, .ro (K.map pA))]) ([]) rfl ?_ ?_ ?_; (· (repeat (first | exact EnvFrz.nil | (refine EnvFrz.cons rfl ?_ ?_; (· first | exact .one (.same _) | (refine .one (.own _ ?_); first | rfl | (simp; done) | (simp only [length_ints]; omega)) | (refine .agg ?_; (repeat (first | exact Frzs.nil | (refine Frzs.cons ?_ ?_; (· first | exact Frz1.same _ | (refine Frz1.own _ ?_; first | rfl | (simp; done) | (simp only [length_ints]; omega)) | exact Frz1.any _))))) | (refine .tuple ?_; (repeat (first | exact Frzs.nil | (refine Frzs.cons ?_ ?_; (· first | exact Frz1.same _ | (refine Frz1.own _ ?_; first | rfl | (simp; done) | (simp only [length_ints]; omega)) | exact Frz1.any _)))))))))); (· (repeat (first | exact ObjsFrz.nil | (refine ObjsFrz.cons rfl rfl ?_ ?_; (· first | exact .same _ | (refine .box ?_; (repeat (first | exact Frzs.nil | (refine Frzs.cons ?_ ?_; (· first | exact Frz1.same _ | (refine Frz1.own _ ?_; first | rfl | (simp; done) | (simp only [length_ints]; omega)) | exact Frz1.any _))))) | (refine .row ?_ rfl; (repeat (first | exact Frzs.nil | (refine Frzs.cons ?_ ?_; (· first | exact Frz1.same _ | (refine Frz1.own _ ?_; first | rfl | (simp; done) | (simp only [length_ints]; omega)) | exact Frz1.any _)))))))))))
    (repeat (first | (refine awp_ret ?_; (apply ends_pure ?_ ?_ ?_ ?_ ?_ (.inl rfl); rotate_left 1; (· first | exact res_one rfl rfl | exact res_two rfl rfl rfl | exact res_none rfl | exact res_three rfl rfl rfl rfl | exact res_cell rfl rfl rfl rfl rfl | exact res_cell2 rfl rfl rfl rfl rfl rfl | exact res3 rfl (rv_cell rfl rfl rfl rfl) (rv_tmp rfl) (rv_tmp rfl) | exact res3 rfl (rv_cell rfl rfl rfl rfl) (rv_cell rfl rfl rfl rfl) (rv_cell rfl rfl rfl rfl)); (· first | rfl | ((conv => (lhs; whnf)); first | rfl | (simp; done))); (· first | rfl | (simp; done) | (simp [AVal.pure, AVal.pures, AObj.pure]; done)); (· rfl); (· rfl)))))
  obtain ⟨n', rfl⟩ : ∃ k, n' = k + 1 := ⟨n' - 1, by omega⟩
  rw [prt, if_neg (by omega)] at hR
  have g0 : decide ((0 : Int) < (ys.length : Int)) = true := decide_eq_true (by omega)
  rcases Nat.lt_or_ge ys.length 2 with h2 | h2
  · rw [if_pos (by omega)] at hR
    have hR' : none = R := hR
    subst hR'
    have g2 : decide ((ys.length : Int) < 2) = true := decide_eq_true (by omega)
    clear hR
    unfold prA
    dsimp only
    (repeat (first | refine awp_reg_seq rfl fun k => ?_ | refine awp_seq ?_ | refine awp_true rfl ?_ | refine awp_skip (?_ : Awp _ _ _ _ _ _) | refine awp_block ?_ | (refine awp_ret ?_; (apply ends_weak ?_ ?_ ?_ ?_ ?_ (.inl rfl); rotate_left 1; (· first | exact res_one rfl rfl | exact res_two rfl rfl rfl | exact res_none rfl | exact res_three rfl rfl rfl rfl | exact res_cell rfl rfl rfl rfl rfl | exact res_cell2 rfl rfl rfl rfl rfl rfl | exact res3 rfl (rv_cell rfl rfl rfl rfl) (rv_tmp rfl) (rv_tmp rfl) | exact res3 rfl (rv_cell rfl rfl rfl rfl) (rv_cell rfl rfl rfl rfl) (rv_cell rfl rfl rfl rfl)); (· first | exact .one (.one (.same _)) | (refine .tuple ?_; (repeat (first | exact WeakAs.nil | (refine WeakAs.cons ?_ ?_; (· first | exact .one (.same _) | exact .one .nil | (refine .agg ?_; (repeat (first | exact Weaks.nil | (refine Weaks.cons ?_ ?_; (· first | exact Weak.same _ | exact Weak.nil | exact Weak.any _))))) | exact .one (.any _)))))) | (refine .one ?_; first | exact .one (.same _) | exact .one .nil | (refine .agg ?_; (repeat (first | exact Weaks.nil | (refine Weaks.cons ?_ ?_; (· first | exact Weak.same _ | exact Weak.nil | exact Weak.any _))))) | exact .one (.any _))); (· first | rfl | (simp; done) | (simp [AVal.pure, AVal.pures, AObj.pure]; done)); (· rfl); (· rfl))) | (first | refine runk_off rfl rfl rfl rfl rfl ?_ | refine runk_off rfl rfl rfl (by assumption) rfl ?_ | refine runk_offN rfl rfl rfl rfl rfl ?_ | refine runk_offU rfl rfl rfl rfl ?_ | refine runk_offUN rfl rfl rfl rfl ?_) | (apply runk0 rfl rfl (opok_move rfl ?_) ?_; rotate_left 1; (· (conv => (lhs; whnf)))) | (apply runk0 rfl rfl (opok_assign rfl ?_) ?_; rotate_left 1; (· (conv => (lhs; whnf)))) | (apply runk0 rfl rfl (opok_bin rfl ?_ ?_ ?_) ?_; rotate_left 3; (· (conv => (lhs; whnf))); (· (conv => (lhs; whnf))); (· (intro w; go_simp; first | done | rfl))) | (first | (apply runk0 rfl rfl (opok_lenO rfl ?_ ?_ ?_) ?_; rotate_left 5; (· (conv => (lhs; whnf))); (· (conv => (lhs; whnf; arg 1; whnf))); (· first | exact length_ints _ _ | rfl)) | (apply runk0 rfl rfl (opok_len_own rfl ?_ ?_) ?_; rotate_left 4; (· (conv => (lhs; whnf))); (· (conv => (lhs; whnf; arg 1; whnf)))) | (apply runk0 rfl rfl (opok_len rfl ?_ ?_ ?_) ?_; rotate_left 3; (· (conv => (lhs; whnf))); (· (conv => (lhs; whnf; arg 1; whnf))); (· first | exact length_ints _ _ | rfl))) | (apply runk0 rfl rfl (opok_pick rfl ?_ ?_) ?_; rotate_left 2; (· (conv => (lhs; whnf))); (· first | exact pick_or | exact pick_and | (conv => (lhs; whnf)))) | refine runk_end (by kernel_rfl) ?_))
  rw [if_neg (by omega)] at hR
  have g2 : decide ((ys.length : Int) < 2) = false := decide_eq_false (by omega)
  have x0 : (ints .u8 ys)[0]? = some (.val (.int .u8 (ys.getD 0 0))) := ints_getD .u8 ys 0 (by omega)
  have x1 : (ints .u8 ys)[1]? = some (.val (.int .u8 (ys.getD 1 0))) := ints_getD .u8 ys 1 (by omega)
  generalize ys.getD 0 0 = C at *
  obtain ⟨Y, hY⟩ : ∃ Y : Nat, ys.getD 1 0 = Y := ⟨(ys.getD 1 0).toNat, by omega⟩
  rw [hY] at x1 y1 hR
  rw [Int.toNat_natCast] at hR
  have w1 : IntKind.i64.wrap (Y : Int) = (Y : Int) := by rw [IntKind.wrap_i64]; omega
  have w2 : IntKind.i64.wrap (2 + (Y : Int)) = ((2 + Y : Nat) : Int) := by rw [IntKind.wrap_i64]; omega
  rcases Nat.lt_or_ge ys.length (2 + Y) with h3 | h3
  · rw [if_pos (by omega)] at hR
    have hR' : none = R := hR
    subst hR'
    have g3 : decide ((ys.length : Int) < ((2 + Y : Nat) : Int)) = true := decide_eq_true (by omega)
    clear hR
    unfold prA
    dsimp only
    (repeat (first | refine awp_reg_seq rfl fun k => ?_ | refine awp_seq ?_ | refine awp_true rfl ?_ | refine awp_isT rfl (by assumption) ?_ | refine awp_skip (?_ : Awp _ _ _ _ _ _) | refine awp_block ?_ | (refine awp_ret ?_; (apply ends_weak ?_ ?_ ?_ ?_ ?_ (.inl rfl); rotate_left 1; (· first | exact res_one rfl rfl | exact res_two rfl rfl rfl | exact res_none rfl | exact res_three rfl rfl rfl rfl | exact res_cell rfl rfl rfl rfl rfl | exact res_cell2 rfl rfl rfl rfl rfl rfl | exact res3 rfl (rv_cell rfl rfl rfl rfl) (rv_tmp rfl) (rv_tmp rfl) | exact res3 rfl (rv_cell rfl rfl rfl rfl) (rv_cell rfl rfl rfl rfl) (rv_cell rfl rfl rfl rfl)); (· first | exact .one (.one (.same _)) | (refine .tuple ?_; (repeat (first | exact WeakAs.nil | (refine WeakAs.cons ?_ ?_; (· first | exact .one (.same _) | exact .one .nil | (refine .agg ?_; (repeat (first | exact Weaks.nil | (refine Weaks.cons ?_ ?_; (· first | exact Weak.same _ | exact Weak.nil | exact Weak.any _))))) | exact .one (.any _)))))) | (refine .one ?_; first | exact .one (.same _) | exact .one .nil | (refine .agg ?_; (repeat (first | exact Weaks.nil | (refine Weaks.cons ?_ ?_; (· first | exact Weak.same _ | exact Weak.nil | exact Weak.any _))))) | exact .one (.any _))); (· first | rfl | (simp; done) | (simp [AVal.pure, AVal.pures, AObj.pure]; done)); (· rfl); (· rfl))) | (first | refine runk_ung rfl rfl rfl rfl ?_ | refine runk_ung rfl rfl rfl (by assumption) ?_) | (apply runk0 rfl rfl (opok_move rfl ?_) ?_; rotate_left 1; (· (conv => (lhs; whnf)))) | (apply runk0 rfl rfl (opok_assign rfl ?_) ?_; rotate_left 1; (· (conv => (lhs; whnf)))) | (first | (apply runk0 rfl rfl (opok_load rfl ?_ ?_ ?_ ?_) ?_; rotate_left 5; (· (conv => (lhs; whnf))); (· (conv => (lhs; whnf; arg 1; whnf; arg 2; whnf))); (· rfl); (· (conv => (lhs; whnf; arg 1; whnf)))) | (apply runk0 rfl rfl (opok_loadR rfl ?_ ?_ ?_) ?_; rotate_left 2; (· (conv => (lhs; whnf))); (· rfl); (· (conv => (lhs; whnf; arg 1; whnf))))) | (apply runk0 rfl rfl (opok_bin rfl ?_ ?_ ?_) ?_; rotate_left 3; (· (conv => (lhs; whnf))); (· (conv => (lhs; whnf))); (· (intro w; go_simp; first | done | rfl))) | (apply runk0 rfl rfl (opok_conv rfl ?_ ?_) ?_; rotate_left 2; (· (conv => (lhs; whnf))); (· (intro w; go_simp; first | done | rfl))) | (first | (apply runk0 rfl rfl (opok_lenO rfl ?_ ?_ ?_) ?_; rotate_left 5; (· (conv => (lhs; whnf))); (· (conv => (lhs; whnf; arg 1; whnf))); (· first | exact length_ints _ _ | rfl)) | (apply runk0 rfl rfl (opok_len_own rfl ?_ ?_) ?_; rotate_left 4; (· (conv => (lhs; whnf))); (· (conv => (lhs; whnf; arg 1; whnf)))) | (apply runk0 rfl rfl (opok_len rfl ?_ ?_ ?_) ?_; rotate_left 3; (· (conv => (lhs; whnf))); (· (conv => (lhs; whnf; arg 1; whnf))); (· first | exact length_ints _ _ | rfl))) | (apply runk0 rfl rfl (opok_pick rfl ?_ ?_) ?_; rotate_left 2; (· (conv => (lhs; whnf))); (· first | exact pick_or | exact pick_and | (conv => (lhs; whnf)))) | refine runk_end (by kernel_rfl) ?_ | (apply runk0 rfl rfl (opok_index_ro rfl ?_ ?_ ?_ ?_ ?_ ?_ ?_) ?_; rotate_left 6; (· (conv => (lhs; whnf))); (· (conv => (lhs; whnf))); (· (conv => (lhs; whnf; arg 1; whnf))); (· (unfold sizeIs; conv => (lhs; whnf; arg 1; whnf))); (· first | exact widths_ints _ _ | rfl | simp [widths, AVal.flat]); (· first | omega | (simp; done) | (simp; omega)); (· first | assumption | (simp only [Int.toNat_natCast]; assumption) | (simp only [Int.reduceToNat]; assumption)))))
  rw [if_neg (by omega)] at hR
  have g3 : decide ((ys.length : Int) < ((2 + Y : Nat) : Int)) = false := decide_eq_false (by omega)
  have o1 := one_pA K
  have e1 : K.length ≤ 1000000 := by omega
  (repeat (first | refine awp_reg_seq rfl fun k => ?_ | refine awp_reg rfl fun k => ?_ | refine awp_seq ?_ | refine awp_true rfl ?_ | refine awp_isF rfl (by assumption) ?_ | refine awp_skip (?_ : Awp _ _ _ _ _ _) | refine awp_block ?_ | (((apply runk_app rfl rfl rfl ?_ ?_ ?_ ?_ ?_ ?_ ?_ ?_ ?_ ?_ ?_ ?_ ?_ ?_ ?_ ?_; rotate_left 11; (· (conv => (lhs; whnf))); (· (conv => (lhs; whnf))); (· (conv => (lhs; whnf; arg 1; whnf))); (· (unfold sizeIs; conv => (lhs; whnf; arg 1; whnf))); (· (conv => (lhs; whnf; arg 1; whnf))); (· (conv => (lhs; whnf; arg 1; whnf))); (· rfl); (· rfl); (· rfl); (· first | exact .nil | (refine .own _ _ _ _ rfl ?_; first | rfl | (simp; done)) | (refine .pre _ _ _ _ rfl ?_ ?_; (· first | omega | (simp; done) | (simp; omega)); (· first | exact widths_ints _ _ | rfl | (simp; done)))); (· first | exact .ro _ | (refine .own _ _ _ _ _ _ rfl ?_; first | rfl | (simp; done)) | exact .nil | (refine .pre _ _ _ _ _ _ rfl ?_ ?_; (· first | omega | (simp; done) | (simp; omega)); (· first | exact widths_ints _ _ | rfl | (simp; done))) | (refine .sub _ _ _ _ _ _ _ rfl ?_ ?_; (· first | omega | (simp; done) | (simp; omega)); (· first | exact widths_ints _ _ | rfl | (simp; done)))); (· first | assumption | rfl | exact one_ints _ _ | exact widths_ints _ _ | (simp only [ints_takeR, ints_dropR]; first | exact one_ints _ _ | exact widths_ints _ _) | simp); (· first | assumption | rfl | exact one_ints _ _ | exact widths_ints _ _ | (simp only [ints_takeR, ints_dropR]; first | exact one_ints _ _ | exact widths_ints _ _) | simp); (· first | omega | (simp; done) | (simp; omega)); (· first | (simp only [List.nil_append, ints_takeR, ints_dropR, ints_one, ints_consR, ints_append]; done) | (simp only [List.nil_append, ints_takeR, ints_dropR, ints_one, ints_consR, ints_append]; rfl) | rfl)))) | (first | refine runk_ung rfl rfl rfl rfl ?_ | refine runk_ung rfl rfl rfl (by assumption) ?_) | (apply runk0 rfl rfl (opok_move rfl ?_) ?_; rotate_left 1; (· (conv => (lhs; whnf)))) | (apply runk_assignOwn rfl rfl rfl ?_ ?_ ?_; rotate_left 4; (· (conv => (lhs; whnf))); (· (conv => (lhs; whnf; arg 1; whnf)))) | (apply runk0 rfl rfl (opok_assign rfl ?_) ?_; rotate_left 1; (· (conv => (lhs; whnf)))) | (apply runk_fa rfl rfl rfl ?_ rfl rfl ?_ ?_ ?_ ?_; rotate_left 5; (· (conv => (lhs; whnf))); (· (unfold sizeIs; conv => (lhs; whnf; arg 1; whnf))); (· rfl); (· (conv => (lhs; whnf)))) | (first | (apply runk0 rfl rfl (opok_load rfl ?_ ?_ ?_ ?_) ?_; rotate_left 5; (· (conv => (lhs; whnf))); (· (conv => (lhs; whnf; arg 1; whnf; arg 2; whnf))); (· rfl); (· (conv => (lhs; whnf; arg 1; whnf)))) | (apply runk0 rfl rfl (opok_loadR rfl ?_ ?_ ?_) ?_; rotate_left 2; (· (conv => (lhs; whnf))); (· rfl); (· (conv => (lhs; whnf; arg 1; whnf))))) | (apply runk0 rfl rfl (opok_bin rfl ?_ ?_ ?_) ?_; rotate_left 3; (· (conv => (lhs; whnf))); (· (conv => (lhs; whnf))); (· (intro w; go_simp; first | done | rfl))) | (apply runk0 rfl rfl (opok_conv rfl ?_ ?_) ?_; rotate_left 2; (· (conv => (lhs; whnf))); (· (intro w; go_simp; first | done | rfl))) | (first | (apply runk0 rfl rfl (opok_lenO rfl ?_ ?_ ?_) ?_; rotate_left 5; (· (conv => (lhs; whnf))); (· (conv => (lhs; whnf; arg 1; whnf))); (· first | exact length_ints _ _ | rfl)) | (apply runk0 rfl rfl (opok_len_own rfl ?_ ?_) ?_; rotate_left 4; (· (conv => (lhs; whnf))); (· (conv => (lhs; whnf; arg 1; whnf)))) | (apply runk0 rfl rfl (opok_len rfl ?_ ?_ ?_) ?_; rotate_left 3; (· (conv => (lhs; whnf))); (· (conv => (lhs; whnf; arg 1; whnf))); (· first | exact length_ints _ _ | rfl))) | (apply runk0 rfl rfl (opok_pick rfl ?_ ?_) ?_; rotate_left 2; (· (conv => (lhs; whnf))); (· first | exact pick_or | exact pick_and | (conv => (lhs; whnf)))) | (apply runk_lit rfl rfl rfl ?_ ?_ ?_ ?_ ?_ ?_ ?_ ?_ ?_ ?_ ?_; rotate_left 4; (· (conv => (lhs; whnf; arg 1; whnf))); (· (unfold sizeIs; conv => (lhs; whnf; arg 1; whnf))); (· (conv => (lhs; whnf; arg 1; whnf))); (· rfl); (· rfl); (· rfl); (· rfl); (· (repeat (first | exact PartsAre.nil _ | (apply PartsAre.cons; (· (conv => (lhs; whnf))))))); (· first | rfl | exact one_ints _ _ | exact widths_ints _ _ | simp); (· first | rfl | exact one_ints _ _ | exact widths_ints _ _ | simp)) | refine runk_end (by kernel_rfl) ?_ | (apply runk0 rfl rfl (opok_index_ro rfl ?_ ?_ ?_ ?_ ?_ ?_ ?_) ?_; rotate_left 6; (· (conv => (lhs; whnf))); (· (conv => (lhs; whnf))); (· (conv => (lhs; whnf; arg 1; whnf))); (· (unfold sizeIs; conv => (lhs; whnf; arg 1; whnf))); (· first | exact widths_ints _ _ | rfl | simp [widths, AVal.flat]); (· first | omega | (simp; done) | (simp; omega)); (· first | assumption | (simp only [Int.toNat_natCast]; assumption) | (simp only [Int.reduceToNat]; assumption))) | (apply runk0 rfl rfl (opok_slice_ro _ _ rfl ?_ ?_ ?_ ?_ ?_ ?_ ?_ ?_ ?_) ?_; rotate_left 6; (· (conv => (lhs; whnf))); (· (conv => (lhs; whnf; arg 1; whnf))); (· (unfold sizeIs; conv => (lhs; whnf; arg 1; whnf))); (· first | exact widths_ints _ _ | rfl | simp [widths, AVal.flat]); (· first | exact .inl ⟨rfl, rfl⟩ | exact .inr ⟨_, _, rfl, rfl⟩); (· first | exact .inl ⟨rfl, rfl⟩ | exact .inl ⟨rfl, (length_ints _ _).symm⟩ | exact .inr ⟨_, _, rfl, rfl⟩); (· first | omega | (simp; done) | (simp; omega)); (· first | omega | (simp; done) | (simp; omega)); (· first | exact ints_tail _ _ _ | exact ints_tail2 _ _ _ | exact ints_head _ _ _ | exact ints_mid _ _ _ _ | exact ro_tail _ _ | rfl))))
  rename_i kr
  refine ⟨(ys.drop (2 + Y)).length, by rw [List.length_drop]; omega, ys.drop (2 + Y), K ++ [(C, (ys.drop 2).take Y)], n', kr, kr, rfl, fun z hz => hy z (List.mem_of_mem_drop hz), by rw [List.length_drop, List.length_append]; simp; omega, by rw [List.length_drop]; omega, ?_, ?_⟩
  · rw [← hR, Option.map_map]
    congr 1
    funext L
    simp
  (refine leB_of ?_ ?_; (· (repeat (first | exact EnvIs.nil | (refine EnvIs.cons ?_ ?_; (· first | rfl | ((conv => (lhs; whnf)); first | (simp [ints, pA]; done) | (simp [ints, pA]; omega))))))); (· (repeat (first | exact ObjsAre.nil | (refine ObjsAre.cons ?_ ?_; (· first | rfl | ((conv => (lhs; whnf)); first | (simp [ints, pA]; done) | (simp [ints, pA]; omega))))))))
end Go.Proofs.Ytpclmngkpkinoaa
