/-
  strconv.FormatUint at base 16, of numbers of 16 bits, by states.
-/
import Derived.Test.YtboddbheljenhaaGreatDoorG07
import Derived.Test.YtboddbheljenhaaGreatDoorG04
namespace Go.Proofs.YtboddbheljenhaaGreatDoor
open Go.RowKit
def digs : List UInt8 := [48, 49, 50, 51, 52, 53, 54, 55, 56, 57, 97, 98, 99, 100, 101, 102, 103, 104, 105, 106, 107, 108, 109, 110, 111, 112, 113, 114, 115, 116, 117, 118, 119, 120, 121, 122]
theorem digs_hex (v : Nat) (h : v < 16) : byteAt digs (v : Int) = ((hexDig v).toNat : Int) := by
  have : ∀ v : Fin 16, byteAt digs (v.val : Int) = ((hexDig v.val).toNat : Int) := by decide +kernel
  exact this ⟨v, h⟩
theorem and15 (v : Nat) (h : v < 65536) : bits .and .u64 (v : Int) 15 = ((v % 16 : Nat) : Int) := by
  rw [show (15 : Int) = ((15 : Nat) : Int) from rfl, bits_and_u64_nat v 15 (by omega) (by omega)]
  have := Nat.and_two_pow_sub_one_eq_mod v 4
  have h2 : v &&& 15 = v % 16 := by simpa using this
  rw [h2]
set_option maxHeartbeats 16000000 in
set_option maxRecDepth 100000 in
theorem fb1 (ap : Bool) (hap : ap.toNat = 0) (u : Nat) (h0 : 0 ≤ u) (h1 : u < 16) : Spec Tryz.prog 95 [.val (.slice none 0 0), .val (.int .u64 (u : Int)), .val (.int .i64 16), .val (.bool false), .val (.bool ap)] [] (.tuple [.val (.slice none 0 0), .val (bstr (hexL u))]) [] := by
  have p := pow2_16
  have t := tz_16
  have g0 : decide ((u : Int) ≥ 16) = false := decide_eq_false (by omega)
  have wu0 : IntKind.u64.wrap (u : Int) = (u : Int) := by rw [IntKind.wrap_u64]; omega
  have hres : hexL u = [hexDig u] := by
    rw [hexL_small h1]
  rw [hres, ← strOf_bints]
  have hbl := digs_hex u (by omega)
  have w0 : IntKind.u64.wrap 4 = 4 := by decide
  have w1 : IntKind.u64.wrap 16 = 16 := by decide
  have w2 : IntKind.u64.wrap 15 = 15 := by decide
  have w3 : IntKind.i64.wrap 64 = 64 := by decide
  have w5 : IntKind.i64.wrap 63 = 63 := by decide
  have w6 : IntKind.i64.wrap 62 = 62 := by decide
  have w7 : IntKind.i64.wrap 61 = 61 := by decide
  refine spec_of_awp Tryz.func95 rfl (Nat.le_of_ble_eq_true rfl) fun ini => ?_
  simp only [Tryz.ntmps95]
  (repeat (first | refine awp_reg_seq rfl fun k => ?_ | refine awp_seq ?_ | refine awp_true rfl ?_ | refine awp_false rfl ?_ | refine awp_skip (?_ : Awp _ _ _ _ _ _) | refine awp_block ?_ | (apply runk_pure rfl rfl rfl ?_ ?_ ?_ ?_ ?_ ?_ ?_ ?_; rotate_left 6; (· (conv => (lhs; whnf))); (· exact Tryz.func112); (· rfl); (· rfl); (· exact (p)); (· (repeat (first | exact Rens.nil | (refine Rens.cons ?_ ?_; (· ((refine Ren.pureR ?_ rfl; (rfl)))))))); (· rfl)) | (apply runk_pure rfl rfl rfl ?_ ?_ ?_ ?_ ?_ ?_ ?_ ?_; rotate_left 6; (· (conv => (lhs; whnf))); (· exact Tryz.func113); (· rfl); (· rfl); (· exact (t)); (· (repeat (first | exact Rens.nil | (refine Rens.cons ?_ ?_; (· ((refine Ren.pureR ?_ rfl; (rfl)))))))); (· rfl)) | ((refine runk_ung rfl rfl rfl rfl ?_)) | (apply runk0 rfl rfl (opok_move rfl ?_) ?_; rotate_left 1; (· (conv => (lhs; whnf)))) | (apply runk0 rfl rfl (opok_assign rfl ?_) ?_; rotate_left 1; (· (conv => (lhs; whnf)))) | (apply runk0 rfl rfl (opok_bin rfl ?_ ?_ ?_) ?_; rotate_left 3; (· (conv => (lhs; whnf))); (· (conv => (lhs; whnf))); (· (intro w; go_simp; rfl))) | (apply runk0 rfl rfl (opok_conv rfl ?_ ?_) ?_; rotate_left 2; (· (conv => (lhs; whnf))); (· (intro w; go_simp; rfl))) | (apply runk0 rfl rfl (opok_pick rfl ?_ ?_) ?_; rotate_left 2; (· (conv => (lhs; whnf))); (· (exact pick_or))) | (apply runk_alloc rfl rfl rfl ?_ ?_ ?_; rotate_left 2; (· (conv => (lhs; whnf; arg 1; whnf))); (· (conv => (lhs; whnf)))) | refine runk_end (by kernel_rfl) ?_))
  refine awp_rounds 1 ?_
  (repeat (first | refine awp_reg_seq rfl fun k => ?_ | refine awp_reg rfl fun k => ?_ | refine awp_seq ?_ | refine awp_false rfl ?_ | refine awp_skip (?_ : Awp _ _ _ _ _ _) | refine awp_exit (?_ : Awp _ _ _ _ _ _) | (((apply runk0 rfl rfl (opok_indexP rfl ?_ ?_ rfl ?_ ?_ ?_) ?_; rotate_left 6; (· (conv => (lhs; whnf))); (· (conv => (lhs; whnf))); (· (unfold sizeIs; conv => (lhs; whnf; arg 1; whnf))); (· omega); (· omega)))) | (((apply runk_storeI rfl rfl rfl ?_ ?_ ?_ ?_ ?_ ?_ ?_ ?_ ?_; rotate_left 7; (· (conv => (lhs; whnf))); (· rfl); (· (conv => (lhs; whnf))); (· rfl); (· rfl); (· (unfold sizeIs; conv => (lhs; whnf; arg 1; whnf))); (· ((simp; done))); (· rfl)))) | (((((apply runk0 rfl rfl (opok_sindex rfl ?_ ?_ rfl ?_ ?_) ?_; rotate_left 3; (· ((conv => (lhs; whnf)); try exact rfl)); (· (conv => (lhs; whnf))); (· omega); (· ((simp; omega)))))))) | (apply runk0 rfl rfl (opok_move rfl ?_) ?_; rotate_left 1; (· (conv => (lhs; whnf)))) | (apply runk0 rfl rfl (opok_assign rfl ?_) ?_; rotate_left 1; (· (conv => (lhs; whnf)))) | (apply runk0 rfl rfl (opok_bin rfl ?_ ?_ ?_) ?_; rotate_left 3; (· (conv => (lhs; whnf))); (· (conv => (lhs; whnf))); (· (intro w; go_simp; rfl))) | refine runk_end (by kernel_rfl) ?_))
  refine awp_if rfl (fun hc => by rw [hc] at hap; cases hap) (fun hq => ?_)
  refine awp_skip ?_
  refine awp_seq ?_
  refine awp_less (st' := ⟨[(10, .val (.slice none 0 0)), (12, .ptr 12 ?kk 0), (13, .val (.int .i64 ((64 : Nat) : Int)))], [(12, some (?kk, .box 141 (ints .u8 (List.replicate 64 0 ++ [byteAt digs (u : Int)]))))]⟩) ?a ?b
  case a => (refine leB_of ?_ ?_; (· (repeat (first | exact EnvIs.nil | (refine EnvIs.cons ?_ ?_; (· rfl))))); (· (repeat (first | exact ObjsAre.nil | (refine ObjsAre.cons ?_ ?_; (· rfl))))))
  rw [hbl]
  refine awp_frzB 12 _ (ints .u8 (List.replicate 64 0 ++ [((hexDig u).toNat : Int)])) [(10, .val (.slice none 0 0)), (12, .rref (ints .u8 (List.replicate 64 0 ++ [((hexDig u).toNat : Int)]))), (13, .val (.int .i64 ((64 : Nat) : Int)))] [] rfl (.cons rfl (.same _) (.cons rfl (.ptr 0) (.cons rfl (.same _) .nil))) .nil ?_
  (repeat (first | refine awp_reg rfl fun k => ?_ | (refine awp_ret ?_; (apply ends_pure ?_ ?_ ?_ ?_ ?_ (.inl rfl); rotate_left 1; (· (exact res_two rfl rfl rfl)); (· rfl); (· rfl); (· rfl); (· rfl))) | (((apply runk0 rfl rfl (opok_arrRoI (lo := 64) (ys := bints [hexDig u]) rfl ?_ ?_ ?_ ?_ ?_ ?_ ?_) ?_; rotate_left 5; (· (conv => (lhs; whnf))); (· (conv => (lhs; whnf))); (· (conv => (lhs; whnf; arg 1; whnf))); (· (unfold sizeIs; conv => (lhs; whnf; arg 1; whnf))); (· rfl); (· omega); (· rfl)))) | (apply runk0 rfl rfl (opok_move rfl ?_) ?_; rotate_left 1; (· (conv => (lhs; whnf)))) | (apply runk0 rfl rfl (opok_assign rfl ?_) ?_; rotate_left 1; (· (conv => (lhs; whnf)))) | (apply runk0 rfl rfl (opok_text rfl ?_ ?_ ?_ ?_ ?_) ?_; rotate_left 4; (· (conv => (lhs; whnf))); (· (conv => (lhs; whnf; arg 1; whnf))); (· (conv => (lhs; whnf; arg 1; whnf))); (· rfl); (· (exact .ro _))) | refine runk_end (by kernel_rfl) ?_))
set_option maxHeartbeats 16000000 in
set_option maxRecDepth 100000 in
theorem fb2 (ap : Bool) (hap : ap.toNat = 0) (u : Nat) (h0 : 16 ≤ u) (h1 : u < 256) : Spec Tryz.prog 95 [.val (.slice none 0 0), .val (.int .u64 (u : Int)), .val (.int .i64 16), .val (.bool false), .val (.bool ap)] [] (.tuple [.val (.slice none 0 0), .val (bstr (hexL u))]) [] := by
  have p := pow2_16
  have t := tz_16
  obtain ⟨u1, e1⟩ : ∃ v, u / 16 = v := ⟨_, rfl⟩
  obtain ⟨d0, f0⟩ : ∃ v, u % 16 = v := ⟨_, rfl⟩
  have g0 : decide ((u : Int) ≥ 16) = true := decide_eq_true (by omega)
  have wu0 : IntKind.u64.wrap (u : Int) = (u : Int) := by rw [IntKind.wrap_u64]; omega
  have ad0 : bits .and .u64 (u : Int) 15 = (d0 : Int) := by rw [and15 u (by omega), f0]
  have sh0 : (u : Int) / 16 = (u1 : Int) := by omega
  have dr0 : d0 < 16 := by omega
  have g1 : decide ((u1 : Int) ≥ 16) = false := decide_eq_false (by omega)
  have wu1 : IntKind.u64.wrap (u1 : Int) = (u1 : Int) := by rw [IntKind.wrap_u64]; omega
  have hres : hexL u = [hexDig u1, hexDig d0] := by
    rw [hexL_big (by omega), e1, f0, hexL_small (by omega)]
    rfl
  rw [hres, ← strOf_bints]
  have hb0 := digs_hex d0 dr0
  have hbl := digs_hex u1 (by omega)
  have w0 : IntKind.u64.wrap 4 = 4 := by decide
  have w1 : IntKind.u64.wrap 16 = 16 := by decide
  have w2 : IntKind.u64.wrap 15 = 15 := by decide
  have w3 : IntKind.i64.wrap 64 = 64 := by decide
  have w5 : IntKind.i64.wrap 63 = 63 := by decide
  have w6 : IntKind.i64.wrap 62 = 62 := by decide
  have w7 : IntKind.i64.wrap 61 = 61 := by decide
  refine spec_of_awp Tryz.func95 rfl (Nat.le_of_ble_eq_true rfl) fun ini => ?_
  simp only [Tryz.ntmps95]
  (repeat (first | refine awp_reg_seq rfl fun k => ?_ | refine awp_seq ?_ | refine awp_true rfl ?_ | refine awp_false rfl ?_ | refine awp_skip (?_ : Awp _ _ _ _ _ _) | refine awp_block ?_ | (apply runk_pure rfl rfl rfl ?_ ?_ ?_ ?_ ?_ ?_ ?_ ?_; rotate_left 6; (· (conv => (lhs; whnf))); (· exact Tryz.func112); (· rfl); (· rfl); (· exact (p)); (· (repeat (first | exact Rens.nil | (refine Rens.cons ?_ ?_; (· ((refine Ren.pureR ?_ rfl; (rfl)))))))); (· rfl)) | (apply runk_pure rfl rfl rfl ?_ ?_ ?_ ?_ ?_ ?_ ?_ ?_; rotate_left 6; (· (conv => (lhs; whnf))); (· exact Tryz.func113); (· rfl); (· rfl); (· exact (t)); (· (repeat (first | exact Rens.nil | (refine Rens.cons ?_ ?_; (· ((refine Ren.pureR ?_ rfl; (rfl)))))))); (· rfl)) | ((refine runk_ung rfl rfl rfl rfl ?_)) | (apply runk0 rfl rfl (opok_move rfl ?_) ?_; rotate_left 1; (· (conv => (lhs; whnf)))) | (apply runk0 rfl rfl (opok_assign rfl ?_) ?_; rotate_left 1; (· (conv => (lhs; whnf)))) | (apply runk0 rfl rfl (opok_bin rfl ?_ ?_ ?_) ?_; rotate_left 3; (· (conv => (lhs; whnf))); (· (conv => (lhs; whnf))); (· (intro w; go_simp; rfl))) | (apply runk0 rfl rfl (opok_conv rfl ?_ ?_) ?_; rotate_left 2; (· (conv => (lhs; whnf))); (· (intro w; go_simp; rfl))) | (apply runk0 rfl rfl (opok_pick rfl ?_ ?_) ?_; rotate_left 2; (· (conv => (lhs; whnf))); (· (exact pick_or))) | (apply runk_alloc rfl rfl rfl ?_ ?_ ?_; rotate_left 2; (· (conv => (lhs; whnf; arg 1; whnf))); (· (conv => (lhs; whnf)))) | refine runk_end (by kernel_rfl) ?_))
  refine awp_rounds 2 ?_
  (repeat (first | refine awp_reg_seq rfl fun k => ?_ | refine awp_reg rfl fun k => ?_ | refine awp_seq ?_ | refine awp_true rfl ?_ | refine awp_false rfl ?_ | refine awp_skip (?_ : Awp _ _ _ _ _ _) | refine awp_block ?_ | refine awp_exit (?_ : Awp _ _ _ _ _ _) | (((apply runk0 rfl rfl (opok_indexP rfl ?_ ?_ rfl ?_ ?_ ?_) ?_; rotate_left 6; (· (conv => (lhs; whnf))); (· (conv => (lhs; whnf))); (· (unfold sizeIs; conv => (lhs; whnf; arg 1; whnf))); (· omega); (· omega)))) | (((apply runk_storeI rfl rfl rfl ?_ ?_ ?_ ?_ ?_ ?_ ?_ ?_ ?_; rotate_left 7; (· (conv => (lhs; whnf))); (· rfl); (· (conv => (lhs; whnf))); (· rfl); (· rfl); (· (unfold sizeIs; conv => (lhs; whnf; arg 1; whnf))); (· ((simp; done))); (· rfl)))) | (((((apply runk0 rfl rfl (opok_sindex rfl ?_ ?_ rfl ?_ ?_) ?_; rotate_left 3; (· ((conv => (lhs; whnf)); try exact rfl)); (· (conv => (lhs; whnf))); (· omega); (· ((simp; omega)))))))) | (apply runk0 rfl rfl (opok_move rfl ?_) ?_; rotate_left 1; (· (conv => (lhs; whnf)))) | (apply runk0 rfl rfl (opok_assign rfl ?_) ?_; rotate_left 1; (· (conv => (lhs; whnf)))) | (apply runk0 rfl rfl (opok_bin rfl ?_ ?_ ?_) ?_; rotate_left 3; (· (conv => (lhs; whnf))); (· (conv => (lhs; whnf))); (· (intro w; go_simp; rfl))) | refine runk_end (by kernel_rfl) ?_))
  refine awp_if rfl (fun hc => by rw [hc] at hap; cases hap) (fun hq => ?_)
  refine awp_skip ?_
  refine awp_seq ?_
  refine awp_less (st' := ⟨[(10, .val (.slice none 0 0)), (12, .ptr 12 ?kk 0), (13, .val (.int .i64 ((63 : Nat) : Int)))], [(12, some (?kk, .box 141 (ints .u8 (List.replicate 63 0 ++ [byteAt digs (u1 : Int), byteAt digs (d0 : Int)]))))]⟩) ?a ?b
  case a => (refine leB_of ?_ ?_; (· (repeat (first | exact EnvIs.nil | (refine EnvIs.cons ?_ ?_; (· rfl))))); (· (repeat (first | exact ObjsAre.nil | (refine ObjsAre.cons ?_ ?_; (· rfl))))))
  rw [hbl, hb0]
  refine awp_frzB 12 _ (ints .u8 (List.replicate 63 0 ++ [((hexDig u1).toNat : Int), ((hexDig d0).toNat : Int)])) [(10, .val (.slice none 0 0)), (12, .rref (ints .u8 (List.replicate 63 0 ++ [((hexDig u1).toNat : Int), ((hexDig d0).toNat : Int)]))), (13, .val (.int .i64 ((63 : Nat) : Int)))] [] rfl (.cons rfl (.same _) (.cons rfl (.ptr 0) (.cons rfl (.same _) .nil))) .nil ?_
  (repeat (first | refine awp_reg rfl fun k => ?_ | (refine awp_ret ?_; (apply ends_pure ?_ ?_ ?_ ?_ ?_ (.inl rfl); rotate_left 1; (· (exact res_two rfl rfl rfl)); (· rfl); (· rfl); (· rfl); (· rfl))) | (((apply runk0 rfl rfl (opok_arrRoI (lo := 63) (ys := bints [hexDig u1, hexDig d0]) rfl ?_ ?_ ?_ ?_ ?_ ?_ ?_) ?_; rotate_left 5; (· (conv => (lhs; whnf))); (· (conv => (lhs; whnf))); (· (conv => (lhs; whnf; arg 1; whnf))); (· (unfold sizeIs; conv => (lhs; whnf; arg 1; whnf))); (· rfl); (· omega); (· rfl)))) | (apply runk0 rfl rfl (opok_move rfl ?_) ?_; rotate_left 1; (· (conv => (lhs; whnf)))) | (apply runk0 rfl rfl (opok_assign rfl ?_) ?_; rotate_left 1; (· (conv => (lhs; whnf)))) | (apply runk0 rfl rfl (opok_text rfl ?_ ?_ ?_ ?_ ?_) ?_; rotate_left 4; (· (conv => (lhs; whnf))); (· (conv => (lhs; whnf; arg 1; whnf))); (· (conv => (lhs; whnf; arg 1; whnf))); (· rfl); (· (exact .ro _))) | refine runk_end (by kernel_rfl) ?_))
set_option maxHeartbeats 16000000 in
set_option maxRecDepth 100000 in
theorem fb3 (ap : Bool) (hap : ap.toNat = 0) (u : Nat) (h0 : 256 ≤ u) (h1 : u < 4096) : Spec Tryz.prog 95 [.val (.slice none 0 0), .val (.int .u64 (u : Int)), .val (.int .i64 16), .val (.bool false), .val (.bool ap)] [] (.tuple [.val (.slice none 0 0), .val (bstr (hexL u))]) [] := by
  have p := pow2_16
  have t := tz_16
  obtain ⟨u1, e1⟩ : ∃ v, u / 16 = v := ⟨_, rfl⟩
  obtain ⟨u2, e2⟩ : ∃ v, u1 / 16 = v := ⟨_, rfl⟩
  obtain ⟨d0, f0⟩ : ∃ v, u % 16 = v := ⟨_, rfl⟩
  obtain ⟨d1, f1⟩ : ∃ v, u1 % 16 = v := ⟨_, rfl⟩
  have g0 : decide ((u : Int) ≥ 16) = true := decide_eq_true (by omega)
  have wu0 : IntKind.u64.wrap (u : Int) = (u : Int) := by rw [IntKind.wrap_u64]; omega
  have ad0 : bits .and .u64 (u : Int) 15 = (d0 : Int) := by rw [and15 u (by omega), f0]
  have sh0 : (u : Int) / 16 = (u1 : Int) := by omega
  have dr0 : d0 < 16 := by omega
  have g1 : decide ((u1 : Int) ≥ 16) = true := decide_eq_true (by omega)
  have wu1 : IntKind.u64.wrap (u1 : Int) = (u1 : Int) := by rw [IntKind.wrap_u64]; omega
  have ad1 : bits .and .u64 (u1 : Int) 15 = (d1 : Int) := by rw [and15 u1 (by omega), f1]
  have sh1 : (u1 : Int) / 16 = (u2 : Int) := by omega
  have dr1 : d1 < 16 := by omega
  have g2 : decide ((u2 : Int) ≥ 16) = false := decide_eq_false (by omega)
  have wu2 : IntKind.u64.wrap (u2 : Int) = (u2 : Int) := by rw [IntKind.wrap_u64]; omega
  have hres : hexL u = [hexDig u2, hexDig d1, hexDig d0] := by
    rw [hexL_big (by omega), e1, f0, hexL_big (by omega), e2, f1, hexL_small (by omega)]
    rfl
  rw [hres, ← strOf_bints]
  have hb0 := digs_hex d0 dr0
  have hb1 := digs_hex d1 dr1
  have hbl := digs_hex u2 (by omega)
  have w0 : IntKind.u64.wrap 4 = 4 := by decide
  have w1 : IntKind.u64.wrap 16 = 16 := by decide
  have w2 : IntKind.u64.wrap 15 = 15 := by decide
  have w3 : IntKind.i64.wrap 64 = 64 := by decide
  have w5 : IntKind.i64.wrap 63 = 63 := by decide
  have w6 : IntKind.i64.wrap 62 = 62 := by decide
  have w7 : IntKind.i64.wrap 61 = 61 := by decide
  refine spec_of_awp Tryz.func95 rfl (Nat.le_of_ble_eq_true rfl) fun ini => ?_
  simp only [Tryz.ntmps95]
  (repeat (first | refine awp_reg_seq rfl fun k => ?_ | refine awp_seq ?_ | refine awp_true rfl ?_ | refine awp_false rfl ?_ | refine awp_skip (?_ : Awp _ _ _ _ _ _) | refine awp_block ?_ | (apply runk_pure rfl rfl rfl ?_ ?_ ?_ ?_ ?_ ?_ ?_ ?_; rotate_left 6; (· (conv => (lhs; whnf))); (· exact Tryz.func112); (· rfl); (· rfl); (· exact (p)); (· (repeat (first | exact Rens.nil | (refine Rens.cons ?_ ?_; (· ((refine Ren.pureR ?_ rfl; (rfl)))))))); (· rfl)) | (apply runk_pure rfl rfl rfl ?_ ?_ ?_ ?_ ?_ ?_ ?_ ?_; rotate_left 6; (· (conv => (lhs; whnf))); (· exact Tryz.func113); (· rfl); (· rfl); (· exact (t)); (· (repeat (first | exact Rens.nil | (refine Rens.cons ?_ ?_; (· ((refine Ren.pureR ?_ rfl; (rfl)))))))); (· rfl)) | ((refine runk_ung rfl rfl rfl rfl ?_)) | (apply runk0 rfl rfl (opok_move rfl ?_) ?_; rotate_left 1; (· (conv => (lhs; whnf)))) | (apply runk0 rfl rfl (opok_assign rfl ?_) ?_; rotate_left 1; (· (conv => (lhs; whnf)))) | (apply runk0 rfl rfl (opok_bin rfl ?_ ?_ ?_) ?_; rotate_left 3; (· (conv => (lhs; whnf))); (· (conv => (lhs; whnf))); (· (intro w; go_simp; rfl))) | (apply runk0 rfl rfl (opok_conv rfl ?_ ?_) ?_; rotate_left 2; (· (conv => (lhs; whnf))); (· (intro w; go_simp; rfl))) | (apply runk0 rfl rfl (opok_pick rfl ?_ ?_) ?_; rotate_left 2; (· (conv => (lhs; whnf))); (· (exact pick_or))) | (apply runk_alloc rfl rfl rfl ?_ ?_ ?_; rotate_left 2; (· (conv => (lhs; whnf; arg 1; whnf))); (· (conv => (lhs; whnf)))) | refine runk_end (by kernel_rfl) ?_))
  refine awp_rounds 3 ?_
  (repeat (first | refine awp_reg_seq rfl fun k => ?_ | refine awp_reg rfl fun k => ?_ | refine awp_seq ?_ | refine awp_true rfl ?_ | refine awp_false rfl ?_ | refine awp_skip (?_ : Awp _ _ _ _ _ _) | refine awp_block ?_ | refine awp_exit (?_ : Awp _ _ _ _ _ _) | (((apply runk0 rfl rfl (opok_indexP rfl ?_ ?_ rfl ?_ ?_ ?_) ?_; rotate_left 6; (· (conv => (lhs; whnf))); (· (conv => (lhs; whnf))); (· (unfold sizeIs; conv => (lhs; whnf; arg 1; whnf))); (· omega); (· omega)))) | (((apply runk_storeI rfl rfl rfl ?_ ?_ ?_ ?_ ?_ ?_ ?_ ?_ ?_; rotate_left 7; (· (conv => (lhs; whnf))); (· rfl); (· (conv => (lhs; whnf))); (· rfl); (· rfl); (· (unfold sizeIs; conv => (lhs; whnf; arg 1; whnf))); (· ((simp; done))); (· rfl)))) | (((((apply runk0 rfl rfl (opok_sindex rfl ?_ ?_ rfl ?_ ?_) ?_; rotate_left 3; (· ((conv => (lhs; whnf)); try exact rfl)); (· (conv => (lhs; whnf))); (· omega); (· ((simp; omega)))))))) | (apply runk0 rfl rfl (opok_move rfl ?_) ?_; rotate_left 1; (· (conv => (lhs; whnf)))) | (apply runk0 rfl rfl (opok_assign rfl ?_) ?_; rotate_left 1; (· (conv => (lhs; whnf)))) | (apply runk0 rfl rfl (opok_bin rfl ?_ ?_ ?_) ?_; rotate_left 3; (· (conv => (lhs; whnf))); (· (conv => (lhs; whnf))); (· (intro w; go_simp; rfl))) | refine runk_end (by kernel_rfl) ?_))
  refine awp_if rfl (fun hc => by rw [hc] at hap; cases hap) (fun hq => ?_)
  refine awp_skip ?_
  refine awp_seq ?_
  refine awp_less (st' := ⟨[(10, .val (.slice none 0 0)), (12, .ptr 12 ?kk 0), (13, .val (.int .i64 ((62 : Nat) : Int)))], [(12, some (?kk, .box 141 (ints .u8 (List.replicate 62 0 ++ [byteAt digs (u2 : Int), byteAt digs (d1 : Int), byteAt digs (d0 : Int)]))))]⟩) ?a ?b
  case a => (refine leB_of ?_ ?_; (· (repeat (first | exact EnvIs.nil | (refine EnvIs.cons ?_ ?_; (· rfl))))); (· (repeat (first | exact ObjsAre.nil | (refine ObjsAre.cons ?_ ?_; (· rfl))))))
  rw [hbl, hb0, hb1]
  refine awp_frzB 12 _ (ints .u8 (List.replicate 62 0 ++ [((hexDig u2).toNat : Int), ((hexDig d1).toNat : Int), ((hexDig d0).toNat : Int)])) [(10, .val (.slice none 0 0)), (12, .rref (ints .u8 (List.replicate 62 0 ++ [((hexDig u2).toNat : Int), ((hexDig d1).toNat : Int), ((hexDig d0).toNat : Int)]))), (13, .val (.int .i64 ((62 : Nat) : Int)))] [] rfl (.cons rfl (.same _) (.cons rfl (.ptr 0) (.cons rfl (.same _) .nil))) .nil ?_
  (repeat (first | refine awp_reg rfl fun k => ?_ | (refine awp_ret ?_; (apply ends_pure ?_ ?_ ?_ ?_ ?_ (.inl rfl); rotate_left 1; (· (exact res_two rfl rfl rfl)); (· rfl); (· rfl); (· rfl); (· rfl))) | (((apply runk0 rfl rfl (opok_arrRoI (lo := 62) (ys := bints [hexDig u2, hexDig d1, hexDig d0]) rfl ?_ ?_ ?_ ?_ ?_ ?_ ?_) ?_; rotate_left 5; (· (conv => (lhs; whnf))); (· (conv => (lhs; whnf))); (· (conv => (lhs; whnf; arg 1; whnf))); (· (unfold sizeIs; conv => (lhs; whnf; arg 1; whnf))); (· rfl); (· omega); (· rfl)))) | (apply runk0 rfl rfl (opok_move rfl ?_) ?_; rotate_left 1; (· (conv => (lhs; whnf)))) | (apply runk0 rfl rfl (opok_assign rfl ?_) ?_; rotate_left 1; (· (conv => (lhs; whnf)))) | (apply runk0 rfl rfl (opok_text rfl ?_ ?_ ?_ ?_ ?_) ?_; rotate_left 4; (· (conv => (lhs; whnf))); (· (conv => (lhs; whnf; arg 1; whnf))); (· (conv => (lhs; whnf; arg 1; whnf))); (· rfl); (· (exact .ro _))) | refine runk_end (by kernel_rfl) ?_))
set_option maxHeartbeats 16000000 in
set_option maxRecDepth 100000 in
theorem fb4 (ap : Bool) (hap : ap.toNat = 0) (u : Nat) (h0 : 4096 ≤ u) (h1 : u < 65536) : Spec Tryz.prog 95 [.val (.slice none 0 0), .val (.int .u64 (u : Int)), .val (.int .i64 16), .val (.bool false), .val (.bool ap)] [] (.tuple [.val (.slice none 0 0), .val (bstr (hexL u))]) [] := by
  have p := pow2_16
  have t := tz_16
  obtain ⟨u1, e1⟩ : ∃ v, u / 16 = v := ⟨_, rfl⟩
  obtain ⟨u2, e2⟩ : ∃ v, u1 / 16 = v := ⟨_, rfl⟩
  obtain ⟨u3, e3⟩ : ∃ v, u2 / 16 = v := ⟨_, rfl⟩
  obtain ⟨d0, f0⟩ : ∃ v, u % 16 = v := ⟨_, rfl⟩
  obtain ⟨d1, f1⟩ : ∃ v, u1 % 16 = v := ⟨_, rfl⟩
  obtain ⟨d2, f2⟩ : ∃ v, u2 % 16 = v := ⟨_, rfl⟩
  have g0 : decide ((u : Int) ≥ 16) = true := decide_eq_true (by omega)
  have wu0 : IntKind.u64.wrap (u : Int) = (u : Int) := by rw [IntKind.wrap_u64]; omega
  have ad0 : bits .and .u64 (u : Int) 15 = (d0 : Int) := by rw [and15 u (by omega), f0]
  have sh0 : (u : Int) / 16 = (u1 : Int) := by omega
  have dr0 : d0 < 16 := by omega
  have g1 : decide ((u1 : Int) ≥ 16) = true := decide_eq_true (by omega)
  have wu1 : IntKind.u64.wrap (u1 : Int) = (u1 : Int) := by rw [IntKind.wrap_u64]; omega
  have ad1 : bits .and .u64 (u1 : Int) 15 = (d1 : Int) := by rw [and15 u1 (by omega), f1]
  have sh1 : (u1 : Int) / 16 = (u2 : Int) := by omega
  have dr1 : d1 < 16 := by omega
  have g2 : decide ((u2 : Int) ≥ 16) = true := decide_eq_true (by omega)
  have wu2 : IntKind.u64.wrap (u2 : Int) = (u2 : Int) := by rw [IntKind.wrap_u64]; omega
  have ad2 : bits .and .u64 (u2 : Int) 15 = (d2 : Int) := by rw [and15 u2 (by omega), f2]
  have sh2 : (u2 : Int) / 16 = (u3 : Int) := by omega
  have dr2 : d2 < 16 := by omega
  have g3 : decide ((u3 : Int) ≥ 16) = false := decide_eq_false (by omega)
  have wu3 : IntKind.u64.wrap (u3 : Int) = (u3 : Int) := by rw [IntKind.wrap_u64]; omega
  have hres : hexL u = [hexDig u3, hexDig d2, hexDig d1, hexDig d0] := by
    rw [hexL_big (by omega), e1, f0, hexL_big (by omega), e2, f1, hexL_big (by omega), e3, f2, hexL_small (by omega)]
    rfl
  rw [hres, ← strOf_bints]
  have hb0 := digs_hex d0 dr0
  have hb1 := digs_hex d1 dr1
  have hb2 := digs_hex d2 dr2
  have hbl := digs_hex u3 (by omega)
  have w0 : IntKind.u64.wrap 4 = 4 := by decide
  have w1 : IntKind.u64.wrap 16 = 16 := by decide
  have w2 : IntKind.u64.wrap 15 = 15 := by decide
  have w3 : IntKind.i64.wrap 64 = 64 := by decide
  have w5 : IntKind.i64.wrap 63 = 63 := by decide
  have w6 : IntKind.i64.wrap 62 = 62 := by decide
  have w7 : IntKind.i64.wrap 61 = 61 := by decide
  refine spec_of_awp Tryz.func95 rfl (Nat.le_of_ble_eq_true rfl) fun ini => ?_
  simp only [Tryz.ntmps95]
  (repeat (first | refine awp_reg_seq rfl fun k => ?_ | refine awp_seq ?_ | refine awp_true rfl ?_ | refine awp_false rfl ?_ | refine awp_skip (?_ : Awp _ _ _ _ _ _) | refine awp_block ?_ | (apply runk_pure rfl rfl rfl ?_ ?_ ?_ ?_ ?_ ?_ ?_ ?_; rotate_left 6; (· (conv => (lhs; whnf))); (· exact Tryz.func112); (· rfl); (· rfl); (· exact (p)); (· (repeat (first | exact Rens.nil | (refine Rens.cons ?_ ?_; (· ((refine Ren.pureR ?_ rfl; (rfl)))))))); (· rfl)) | (apply runk_pure rfl rfl rfl ?_ ?_ ?_ ?_ ?_ ?_ ?_ ?_; rotate_left 6; (· (conv => (lhs; whnf))); (· exact Tryz.func113); (· rfl); (· rfl); (· exact (t)); (· (repeat (first | exact Rens.nil | (refine Rens.cons ?_ ?_; (· ((refine Ren.pureR ?_ rfl; (rfl)))))))); (· rfl)) | ((refine runk_ung rfl rfl rfl rfl ?_)) | (apply runk0 rfl rfl (opok_move rfl ?_) ?_; rotate_left 1; (· (conv => (lhs; whnf)))) | (apply runk0 rfl rfl (opok_assign rfl ?_) ?_; rotate_left 1; (· (conv => (lhs; whnf)))) | (apply runk0 rfl rfl (opok_bin rfl ?_ ?_ ?_) ?_; rotate_left 3; (· (conv => (lhs; whnf))); (· (conv => (lhs; whnf))); (· (intro w; go_simp; rfl))) | (apply runk0 rfl rfl (opok_conv rfl ?_ ?_) ?_; rotate_left 2; (· (conv => (lhs; whnf))); (· (intro w; go_simp; rfl))) | (apply runk0 rfl rfl (opok_pick rfl ?_ ?_) ?_; rotate_left 2; (· (conv => (lhs; whnf))); (· (exact pick_or))) | (apply runk_alloc rfl rfl rfl ?_ ?_ ?_; rotate_left 2; (· (conv => (lhs; whnf; arg 1; whnf))); (· (conv => (lhs; whnf)))) | refine runk_end (by kernel_rfl) ?_))
  refine awp_rounds 4 ?_
  (repeat (first | refine awp_reg_seq rfl fun k => ?_ | refine awp_reg rfl fun k => ?_ | refine awp_seq ?_ | refine awp_true rfl ?_ | refine awp_false rfl ?_ | refine awp_skip (?_ : Awp _ _ _ _ _ _) | refine awp_block ?_ | refine awp_exit (?_ : Awp _ _ _ _ _ _) | (((apply runk0 rfl rfl (opok_indexP rfl ?_ ?_ rfl ?_ ?_ ?_) ?_; rotate_left 6; (· (conv => (lhs; whnf))); (· (conv => (lhs; whnf))); (· (unfold sizeIs; conv => (lhs; whnf; arg 1; whnf))); (· omega); (· omega)))) | (((apply runk_storeI rfl rfl rfl ?_ ?_ ?_ ?_ ?_ ?_ ?_ ?_ ?_; rotate_left 7; (· (conv => (lhs; whnf))); (· rfl); (· (conv => (lhs; whnf))); (· rfl); (· rfl); (· (unfold sizeIs; conv => (lhs; whnf; arg 1; whnf))); (· ((simp; done))); (· rfl)))) | (((((apply runk0 rfl rfl (opok_sindex rfl ?_ ?_ rfl ?_ ?_) ?_; rotate_left 3; (· ((conv => (lhs; whnf)); try exact rfl)); (· (conv => (lhs; whnf))); (· omega); (· ((simp; omega)))))))) | (apply runk0 rfl rfl (opok_move rfl ?_) ?_; rotate_left 1; (· (conv => (lhs; whnf)))) | (apply runk0 rfl rfl (opok_assign rfl ?_) ?_; rotate_left 1; (· (conv => (lhs; whnf)))) | (apply runk0 rfl rfl (opok_bin rfl ?_ ?_ ?_) ?_; rotate_left 3; (· (conv => (lhs; whnf))); (· (conv => (lhs; whnf))); (· (intro w; go_simp; rfl))) | refine runk_end (by kernel_rfl) ?_))
  refine awp_if rfl (fun hc => by rw [hc] at hap; cases hap) (fun hq => ?_)
  refine awp_skip ?_
  refine awp_seq ?_
  refine awp_less (st' := ⟨[(10, .val (.slice none 0 0)), (12, .ptr 12 ?kk 0), (13, .val (.int .i64 ((61 : Nat) : Int)))], [(12, some (?kk, .box 141 (ints .u8 (List.replicate 61 0 ++ [byteAt digs (u3 : Int), byteAt digs (d2 : Int), byteAt digs (d1 : Int), byteAt digs (d0 : Int)]))))]⟩) ?a ?b
  case a => (refine leB_of ?_ ?_; (· (repeat (first | exact EnvIs.nil | (refine EnvIs.cons ?_ ?_; (· rfl))))); (· (repeat (first | exact ObjsAre.nil | (refine ObjsAre.cons ?_ ?_; (· rfl))))))
  rw [hbl, hb0, hb1, hb2]
  refine awp_frzB 12 _ (ints .u8 (List.replicate 61 0 ++ [((hexDig u3).toNat : Int), ((hexDig d2).toNat : Int), ((hexDig d1).toNat : Int), ((hexDig d0).toNat : Int)])) [(10, .val (.slice none 0 0)), (12, .rref (ints .u8 (List.replicate 61 0 ++ [((hexDig u3).toNat : Int), ((hexDig d2).toNat : Int), ((hexDig d1).toNat : Int), ((hexDig d0).toNat : Int)]))), (13, .val (.int .i64 ((61 : Nat) : Int)))] [] rfl (.cons rfl (.same _) (.cons rfl (.ptr 0) (.cons rfl (.same _) .nil))) .nil ?_
  (repeat (first | refine awp_reg rfl fun k => ?_ | (refine awp_ret ?_; (apply ends_pure ?_ ?_ ?_ ?_ ?_ (.inl rfl); rotate_left 1; (· (exact res_two rfl rfl rfl)); (· rfl); (· rfl); (· rfl); (· rfl))) | (((apply runk0 rfl rfl (opok_arrRoI (lo := 61) (ys := bints [hexDig u3, hexDig d2, hexDig d1, hexDig d0]) rfl ?_ ?_ ?_ ?_ ?_ ?_ ?_) ?_; rotate_left 5; (· (conv => (lhs; whnf))); (· (conv => (lhs; whnf))); (· (conv => (lhs; whnf; arg 1; whnf))); (· (unfold sizeIs; conv => (lhs; whnf; arg 1; whnf))); (· rfl); (· omega); (· rfl)))) | (apply runk0 rfl rfl (opok_move rfl ?_) ?_; rotate_left 1; (· (conv => (lhs; whnf)))) | (apply runk0 rfl rfl (opok_assign rfl ?_) ?_; rotate_left 1; (· (conv => (lhs; whnf)))) | (apply runk0 rfl rfl (opok_text rfl ?_ ?_ ?_ ?_ ?_) ?_; rotate_left 4; (· (conv => (lhs; whnf))); (· (conv => (lhs; whnf; arg 1; whnf))); (· (conv => (lhs; whnf; arg 1; whnf))); (· rfl); (· (exact .ro _))) | refine runk_end (by kernel_rfl) ?_))
theorem fb_spec (u : Nat) (h : u < 65536) : Spec Tryz.prog 95 [.val (.slice none 0 0), .val (.int .u64 (u : Int)), .val (.int .i64 16), .val (.bool false), .val (.bool false)] [] (.tuple [.val (.slice none 0 0), .val (bstr (hexL u))]) [] := by
  by_cases a1 : u < 16
  · exact fb1 false rfl u (Nat.zero_le _) a1
  · by_cases a2 : u < 256
    · exact fb2 false rfl u (by omega) a2
    · by_cases a3 : u < 4096
      · exact fb3 false rfl u (by omega) a3
      · exact fb4 false rfl u (by omega) h
set_option maxHeartbeats 4000000 in
set_option maxRecDepth 100000 in
theorem fmt16_spec (u : Nat) (h : u < 65536) : Spec Tryz.prog 56 [.val (.int .u64 (u : Int)), .val (.int .i64 16)] [] (.val (bstr (hexL u))) [] := by
  have s : Spec Tryz.prog 73 [.val (.int .u64 (u : Int)), .val (.int .i64 16)] [] (.val (bstr (hexL u))) [] := by
    have f := fb_spec u h
    refine spec_of_awp Tryz.func73 rfl (Nat.le_of_ble_eq_true rfl) fun ini => ?_
    simp only [Tryz.ntmps73]
    (repeat (first | refine awp_reg_seq rfl fun k => ?_ | refine awp_seq ?_ | refine awp_false rfl ?_ | refine awp_skip (?_ : Awp _ _ _ _ _ _) | (refine awp_ret ?_; (apply ends_pure ?_ ?_ ?_ ?_ ?_ (.inl rfl); rotate_left 1; (· (exact res_one rfl rfl)); (· rfl); (· rfl); (· rfl); (· rfl))) | (apply runk_pure rfl rfl rfl ?_ ?_ ?_ ?_ ?_ ?_ ?_ ?_; rotate_left 6; (· (conv => (lhs; whnf))); (· exact Tryz.func95); (· rfl); (· rfl); (· exact (f)); (· (repeat (first | exact Rens.nil | (refine Rens.cons ?_ ?_; (· ((refine Ren.pureR ?_ rfl; (rfl)))))))); (· rfl)) | (apply runk0 rfl rfl (opok_move rfl ?_) ?_; rotate_left 1; (· (conv => (lhs; whnf)))) | (apply runk0 rfl rfl (opok_assign rfl ?_) ?_; rotate_left 1; (· (conv => (lhs; whnf)))) | (apply runk0 rfl rfl (opok_bin rfl ?_ ?_ ?_) ?_; rotate_left 3; (· (conv => (lhs; whnf))); (· (conv => (lhs; whnf))); (· (intro w; go_simp; rfl))) | (apply runk0 rfl rfl (opok_extract rfl ?_ ?_) ?_; rotate_left 2; (· (conv => (lhs; whnf))); (· (conv => (lhs; whnf; arg 1; whnf)))) | refine runk_end (by kernel_rfl) ?_))
  refine spec_of_awp Tryz.func56 rfl (Nat.le_of_ble_eq_true rfl) fun ini => ?_
  simp only [Tryz.ntmps56]
  (repeat (first | refine awp_reg_seq rfl fun k => ?_ | (refine awp_ret ?_; (apply ends_pure ?_ ?_ ?_ ?_ ?_ (.inl rfl); rotate_left 1; (· (exact res_one rfl rfl)); (· rfl); (· rfl); (· rfl); (· rfl))) | (apply runk_pure rfl rfl rfl ?_ ?_ ?_ ?_ ?_ ?_ ?_ ?_; rotate_left 6; (· (conv => (lhs; whnf))); (· exact Tryz.func73); (· rfl); (· rfl); (· exact (s)); (· (repeat (first | exact Rens.nil | (refine Rens.cons ?_ ?_; (· ((refine Ren.pureR ?_ rfl; (rfl)))))))); (· rfl)) | (apply runk0 rfl rfl (opok_move rfl ?_) ?_; rotate_left 1; (· (conv => (lhs; whnf)))) | (apply runk0 rfl rfl (opok_assign rfl ?_) ?_; rotate_left 1; (· (conv => (lhs; whnf)))) | refine runk_end (by kernel_rfl) ?_))
set_option maxHeartbeats 4000000 in
set_option maxRecDepth 100000 in
theorem fmt10_spec (i : Nat) (h : i < 100) : Spec Tryz.prog 56 [.val (.int .u64 (i : Int)), .val (.int .i64 10)] [] (.val (bstr (Lib.decDigits i))) [] := by
  have s : Spec Tryz.prog 73 [.val (.int .u64 (i : Int)), .val (.int .i64 10)] [] (.val (bstr (Lib.decDigits i))) [] := by
    have f := small_spec i h
    have d : decide ((i : Int) < 100) = true := decide_eq_true (by omega)
    have w : IntKind.i64.wrap (i : Int) = (i : Int) := by rw [IntKind.wrap_i64]; omega
    generalize Lib.decDigits i = l at *
    refine spec_of_awp Tryz.func73 rfl (Nat.le_of_ble_eq_true rfl) fun ini => ?_
    simp only [Tryz.ntmps73]
    (repeat (first | refine awp_reg_seq rfl fun k => ?_ | refine awp_seq ?_ | refine awp_true rfl ?_ | (refine awp_ret ?_; (apply ends_pure ?_ ?_ ?_ ?_ ?_ (.inl rfl); rotate_left 1; (· (exact res_one rfl rfl)); (· rfl); (· rfl); (· rfl); (· rfl))) | (apply runk_pure rfl rfl rfl ?_ ?_ ?_ ?_ ?_ ?_ ?_ ?_; rotate_left 6; (· (conv => (lhs; whnf))); (· exact Tryz.func92); (· rfl); (· rfl); (· exact (f)); (· (repeat (first | exact Rens.nil | (refine Rens.cons ?_ ?_; (· ((refine Ren.pureR ?_ rfl; (rfl)))))))); (· rfl)) | (apply runk0 rfl rfl (opok_move rfl ?_) ?_; rotate_left 1; (· (conv => (lhs; whnf)))) | (apply runk0 rfl rfl (opok_assign rfl ?_) ?_; rotate_left 1; (· (conv => (lhs; whnf)))) | (apply runk0 rfl rfl (opok_bin rfl ?_ ?_ ?_) ?_; rotate_left 3; (· (conv => (lhs; whnf))); (· (conv => (lhs; whnf))); (· (intro w; go_simp; rfl))) | (apply runk0 rfl rfl (opok_conv rfl ?_ ?_) ?_; rotate_left 2; (· (conv => (lhs; whnf))); (· (intro w; go_simp; rfl))) | refine runk_end (by kernel_rfl) ?_))
  generalize Lib.decDigits i = l at *
  refine spec_of_awp Tryz.func56 rfl (Nat.le_of_ble_eq_true rfl) fun ini => ?_
  simp only [Tryz.ntmps56]
  (repeat (first | refine awp_reg_seq rfl fun k => ?_ | (refine awp_ret ?_; (apply ends_pure ?_ ?_ ?_ ?_ ?_ (.inl rfl); rotate_left 1; (· (exact res_one rfl rfl)); (· rfl); (· rfl); (· rfl); (· rfl))) | (apply runk_pure rfl rfl rfl ?_ ?_ ?_ ?_ ?_ ?_ ?_ ?_; rotate_left 6; (· (conv => (lhs; whnf))); (· exact Tryz.func73); (· rfl); (· rfl); (· exact (s)); (· (repeat (first | exact Rens.nil | (refine Rens.cons ?_ ?_; (· ((refine Ren.pureR ?_ rfl; (rfl)))))))); (· rfl)) | (apply runk0 rfl rfl (opok_move rfl ?_) ?_; rotate_left 1; (· (conv => (lhs; whnf)))) | (apply runk0 rfl rfl (opok_assign rfl ?_) ?_; rotate_left 1; (· (conv => (lhs; whnf)))) | refine runk_end (by kernel_rfl) ?_))

end Go.Proofs.YtboddbheljenhaaGreatDoor
