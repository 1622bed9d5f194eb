/-
  Layer 2's example, out of Parse of any text and Print of any prefix.
-/
import Derived.Test.YtboddbheljenhaaGreatDoorPdp
import Derived.Test.YtboddbheljenhaaGreatDoorPrs
import Derived.Test.YtboddbheljenhaaGreatDoorG21
import Derived.Test.YtboddbheljenhaaGreatDoorG18
import Derived.Test.YtboddbheljenhaaGreatDoorPtx
import Derived.Test.YtboddbheljenhaaGreatDoorG02
import Derived.Test.YtboddbheljenhaaGreatDoorG04
import Derived.WideShapes
import Derived.Test.YtboddbheljenhaaGreatDoorRows
namespace Go.Proofs.YtboddbheljenhaaGreatDoor
open Go.RowKit
theorem fst_24a : fstH false 0 24 = 0 ∧ fstL false 167772160 24 = 167772160 := by decide
theorem fst_24b : fstH false 0 24 = 0 ∧ fstL false 167772416 24 = 167772416 := by decide
theorem fst_8c : fstH false 0 8 = 0 ∧ fstL false 167837696 8 = 167772160 := by decide
theorem fst_23 : fstH false 0 23 = 0 ∧ fstL false 167772160 23 = 167772160 := by decide
theorem pparse_a : Spec Tryz.prog 37 [.val (bstr [49, 48, 46, 48, 46, 48, 46, 48, 47, 50, 52])] [] (.tuple [.agg [.val (.bool false), .val (.int .u64 0), .val (.int .u64 167772160), .val (.int .i64 24)], .val (.int .i64 0)]) [] := by
  have h := pparse_of parse_spec [49, 48, 46, 48, 46, 48, 46, 48, 47, 50, 52] (by decide)
  have e1 : prsA [49, 48, 46, 48, 46, 48, 46, 48] = some (false, 0, 167772160) := by decide +kernel
  have e2 : canD [50, 52] = true := by decide +kernel
  have e3 : numOf 0 [50, 52] = 24 := by decide +kernel
  have e : pfA [49, 48, 46, 48, 46, 48, 46, 48, 47, 50, 52] = pfV [49, 48, 46, 48, 46, 48, 46, 48] [50, 52] := pfA_last [49, 48, 46, 48, 46, 48, 46, 48] [50, 52]
  rw [e] at h
  unfold pfV at h
  rw [e1] at h
  dsimp only at h
  rw [if_pos e2, e3, if_pos (by decide), if_pos (by decide)] at h
  exact h
theorem pparse_b : Spec Tryz.prog 37 [.val (bstr [49, 48, 46, 48, 46, 49, 46, 48, 47, 50, 52])] [] (.tuple [.agg [.val (.bool false), .val (.int .u64 0), .val (.int .u64 167772416), .val (.int .i64 24)], .val (.int .i64 0)]) [] := by
  have h := pparse_of parse_spec [49, 48, 46, 48, 46, 49, 46, 48, 47, 50, 52] (by decide)
  have e1 : prsA [49, 48, 46, 48, 46, 49, 46, 48] = some (false, 0, 167772416) := by decide +kernel
  have e2 : canD [50, 52] = true := by decide +kernel
  have e3 : numOf 0 [50, 52] = 24 := by decide +kernel
  have e : pfA [49, 48, 46, 48, 46, 49, 46, 48, 47, 50, 52] = pfV [49, 48, 46, 48, 46, 49, 46, 48] [50, 52] := pfA_last [49, 48, 46, 48, 46, 49, 46, 48] [50, 52]
  rw [e] at h
  unfold pfV at h
  rw [e1] at h
  dsimp only at h
  rw [if_pos e2, e3, if_pos (by decide), if_pos (by decide)] at h
  exact h
theorem pparse_c : Spec Tryz.prog 37 [.val (bstr [49, 48, 46, 49, 46, 48, 46, 48, 47, 56])] [] (.tuple [.agg [.val (.bool false), .val (.int .u64 0), .val (.int .u64 0), .val (.int .i64 0)], .val (.int .i64 5)]) [] := by
  have h := pparse_of parse_spec [49, 48, 46, 49, 46, 48, 46, 48, 47, 56] (by decide)
  have e1 : prsA [49, 48, 46, 49, 46, 48, 46, 48] = some (false, 0, 167837696) := by decide +kernel
  have e2 : canD [56] = true := by decide +kernel
  have e3 : numOf 0 [56] = 8 := by decide +kernel
  have e : pfA [49, 48, 46, 49, 46, 48, 46, 48, 47, 56] = pfV [49, 48, 46, 49, 46, 48, 46, 48] [56] := pfA_last [49, 48, 46, 49, 46, 48, 46, 48] [56]
  rw [e] at h
  unfold pfV at h
  rw [e1] at h
  dsimp only at h
  rw [if_pos e2, e3, if_pos (by decide), if_neg (by decide)] at h
  exact h
set_option maxHeartbeats 8000000 in
set_option maxRecDepth 100000 in
theorem agree_ex : Spec Tryz.prog 52 [.agg [.val (.bool false), .val (.int .u64 0), .val (.int .u64 167772160)], .agg [.val (.bool false), .val (.int .u64 0), .val (.int .u64 167772416)]] [] (.val (.int .i64 23)) [] := by
  have lz : Spec Tryz.prog 66 [.val (.int .u32 256)] [] (.val (.int .i64 23)) [] :=
    spec_belowV (timeless_val _) fun ψ prot w cargs hV hk hsz hargs => by
      obtain rfl := one_arg hsz hargs
      refine (Tryz.bits_LeadingZeros32 256 w (by decide) (by decide)).mono ?_
      rintro e w' ⟨rfl, rfl⟩
      exact ⟨_, rfl, .val _, Below.refl _ _⟩
  have x : bits .xor .u64 167772160 167772416 = 256 := by decide +kernel
  have wu : IntKind.u32.wrap 256 = 256 := by decide
  refine spec_of_awp Tryz.func52 rfl (Nat.le_of_ble_eq_true rfl) fun ini => ?_
  simp only [Tryz.ntmps52]
  (repeat (first | refine awp_reg_seq rfl fun k => ?_ | refine awp_seq ?_ | refine awp_true rfl ?_ | (refine awp_ret ?_; (apply ends_pure ?_ ?_ ?_ ?_ ?_ (.inl rfl); rotate_left 1; (· (exact res_one rfl rfl)); (· rfl); (· rfl); (· rfl); (· rfl))) | (apply runk_pure rfl rfl rfl ?_ ?_ ?_ ?_ ?_ ?_ ?_ ?_; rotate_left 6; (· (conv => (lhs; whnf))); (· exact Tryz.func66); (· rfl); (· rfl); (· exact (lz)); (· (repeat (first | exact Rens.nil | (refine Rens.cons ?_ ?_; (· ((refine Ren.pureR ?_ rfl; (rfl)))))))); (· rfl)) | (apply runk0 rfl rfl (opok_assign rfl ?_) ?_; rotate_left 1; (· (conv => (lhs; whnf)))) | (apply runk_fa rfl rfl rfl ?_ rfl rfl ?_ ?_ ?_ ?_; rotate_left 5; (· (conv => (lhs; whnf))); (· (unfold sizeIs; conv => (lhs; whnf; arg 1; whnf))); (· rfl); (· (conv => (lhs; whnf)))) | (((apply runk0 rfl rfl (opok_load rfl ?_ ?_ ?_ ?_) ?_; rotate_left 5; (· (conv => (lhs; whnf))); (· (conv => (lhs; whnf; arg 1; whnf; arg 2; whnf))); (· rfl); (· (conv => (lhs; whnf; arg 1; whnf)))))) | (apply runk0 rfl rfl (opok_bin rfl ?_ ?_ ?_) ?_; rotate_left 3; (· (conv => (lhs; whnf))); (· (conv => (lhs; whnf))); (· (intro w; go_simp; rfl))) | (apply runk0 rfl rfl (opok_conv rfl ?_ ?_) ?_; rotate_left 2; (· (conv => (lhs; whnf))); (· (intro w; go_simp; rfl))) | (apply runk0 rfl rfl (opok_un rfl ?_ ?_) ?_; rotate_left 2; (· (conv => (lhs; whnf))); (· (intro w; go_simp; rfl))) | (apply runk_box rfl rfl rfl ?_ ?_ ?_ ?_; rotate_left 2; (· (conv => (lhs; whnf))); (· rfl); (· (conv => (lhs; whnf)))) | refine runk_end (by kernel_rfl) ?_))
set_option maxHeartbeats 8000000 in
set_option maxRecDepth 100000 in
theorem common_ex : Spec Tryz.prog 31 [.agg [.val (.bool false), .val (.int .u64 0), .val (.int .u64 167772160), .val (.int .i64 24)], .agg [.val (.bool false), .val (.int .u64 0), .val (.int .u64 167772416), .val (.int .i64 24)]] [] (.tuple [.agg [.val (.bool false), .val (.int .u64 0), .val (.int .u64 167772160), .val (.int .i64 23)], .val (.int .i64 0)]) [] := by
  have va := pvalid_ok false 0 167772160 24 (by decide) (by decide) (by decide) (by decide) (by decide) (by decide) (by decide) fst_24a.1 fst_24a.2
  have vb := pvalid_ok false 0 167772416 24 (by decide) (by decide) (by decide) (by decide) (by decide) (by decide) (by decide) fst_24b.1 fst_24b.2
  have ag := agree_ex
  have f := first_spec false 0 167772160 23 (by decide) (by decide) (by decide) (by decide)
  rw [fst_23.1, fst_23.2] at f
  have m : min (min (24 : Int) 24) 23 = 23 := by decide
  refine spec_of_awp Tryz.func31 rfl (Nat.le_of_ble_eq_true rfl) fun ini => ?_
  simp only [Tryz.ntmps31]
  (repeat (first | refine awp_reg_seq rfl fun k => ?_ | refine awp_seq ?_ | refine awp_false rfl ?_ | refine awp_skip (?_ : Awp _ _ _ _ _ _) | (refine awp_ret ?_; (apply ends_pure ?_ ?_ ?_ ?_ ?_ (.inl rfl); rotate_left 1; (· (exact res_cell2 rfl rfl rfl rfl rfl rfl)); (· rfl); (· rfl); (· rfl); (· rfl))) | (apply runk_pure rfl rfl rfl ?_ ?_ ?_ ?_ ?_ ?_ ?_ ?_; rotate_left 6; (· (conv => (lhs; whnf))); (· exact Tryz.func13); (· rfl); (· rfl); (· exact (va)); (· (repeat (first | exact Rens.nil | (refine Rens.cons ?_ ?_; (· ((refine Ren.pureR ?_ rfl; (rfl)))))))); (· rfl)) | (apply runk_pure rfl rfl rfl ?_ ?_ ?_ ?_ ?_ ?_ ?_ ?_; rotate_left 6; (· (conv => (lhs; whnf))); (· exact Tryz.func13); (· rfl); (· rfl); (· exact (vb)); (· (repeat (first | exact Rens.nil | (refine Rens.cons ?_ ?_; (· ((refine Ren.pureR ?_ rfl; (rfl)))))))); (· rfl)) | (apply runk_pure rfl rfl rfl ?_ ?_ ?_ ?_ ?_ ?_ ?_ ?_; rotate_left 6; (· (conv => (lhs; whnf))); (· exact Tryz.func52); (· rfl); (· rfl); (· exact (ag)); (· (repeat (first | exact Rens.nil | (refine Rens.cons ?_ ?_; (· ((refine Ren.pureR ?_ rfl; (rfl)))))))); (· rfl)) | (apply runk_pure rfl rfl rfl ?_ ?_ ?_ ?_ ?_ ?_ ?_ ?_; rotate_left 6; (· (conv => (lhs; whnf))); (· exact Tryz.func43); (· rfl); (· rfl); (· exact (f)); (· (repeat (first | exact Rens.nil | (refine Rens.cons ?_ ?_; (· ((refine Ren.pureR ?_ rfl; (rfl)))))))); (· rfl)) | (((apply runk0 rfl rfl (opok_min3 rfl ?_ ?_ ?_) ?_; rotate_left 3; (· (conv => (lhs; whnf))); (· (conv => (lhs; whnf))); (· (conv => (lhs; whnf)))))) | ((refine runk_ung rfl rfl rfl rfl ?_)) | (apply runk0 rfl rfl (opok_move rfl ?_) ?_; rotate_left 1; (· (conv => (lhs; whnf)))) | (apply runk0 rfl rfl (opok_assign rfl ?_) ?_; rotate_left 1; (· (conv => (lhs; whnf)))) | (apply runk_fa rfl rfl rfl ?_ rfl rfl ?_ ?_ ?_ ?_; rotate_left 5; (· (conv => (lhs; whnf))); (· (unfold sizeIs; conv => (lhs; whnf; arg 1; whnf))); (· rfl); (· (conv => (lhs; whnf)))) | (((apply runk0 rfl rfl (opok_load rfl ?_ ?_ ?_ ?_) ?_; rotate_left 5; (· (conv => (lhs; whnf))); (· (conv => (lhs; whnf; arg 1; whnf; arg 2; whnf))); (· rfl); (· (conv => (lhs; whnf; arg 1; whnf)))))) | (apply runk0 rfl rfl (opok_loadA rfl ?_ ?_ ?_ ?_ ?_ ?_) ?_; rotate_left 6; (· (conv => (lhs; whnf))); (· (conv => (lhs; whnf; arg 1; whnf; arg 2; whnf))); (· rfl); (· (unfold sizeIs; conv => (lhs; whnf; arg 1; whnf))); (· (conv => (lhs; repeat (whnf; arg 2)))); (· rfl)) | (apply runk0 rfl rfl (opok_bin rfl ?_ ?_ ?_) ?_; rotate_left 3; (· (conv => (lhs; whnf))); (· (conv => (lhs; whnf))); (· (intro w; go_simp; rfl))) | (apply runk0 rfl rfl (opok_un rfl ?_ ?_) ?_; rotate_left 2; (· (conv => (lhs; whnf))); (· (intro w; go_simp; rfl))) | (apply runk0 rfl rfl (opok_pick rfl ?_ ?_) ?_; rotate_left 2; (· (conv => (lhs; whnf))); (· (exact pick_or))) | (apply runk0 rfl rfl (opok_build rfl ?_ ?_ ?_ ?_ ?_) ?_; rotate_left 5; (· (conv => (lhs; whnf; arg 1; whnf))); (· (conv => (lhs; whnf; arg 1; repeat (whnf; arg 2)))); (· (conv => (lhs; whnf; arg 1; whnf))); (· (repeat (first | exact PartsOf.nil | (apply PartsOf.cons; (· (conv => (lhs; whnf))))))); (· (conv => (lhs; whnf; arg 1; repeat (whnf; arg 2))))) | (apply runk_box rfl rfl rfl ?_ ?_ ?_ ?_; rotate_left 2; (· (conv => (lhs; whnf))); (· rfl); (· (conv => (lhs; whnf)))) | (apply runk_alloc rfl rfl rfl ?_ ?_ ?_; rotate_left 2; (· (conv => (lhs; whnf; arg 1; whnf))); (· (conv => (lhs; whnf)))) | (apply runk_store rfl rfl rfl ?_ ?_ ?_ ?_ ?_ ?_ ?_ ?_ ?_ ?_ ?_; rotate_left 9; (· (conv => (lhs; whnf))); (· (conv => (lhs; whnf))); (· (conv => (lhs; whnf; arg 1; whnf; arg 2; whnf))); (· rfl); (· (conv => (lhs; whnf))); (· rfl); (· (unfold sizeIs; conv => (lhs; whnf; arg 1; whnf))); (· rfl); (· rfl); (· (conv => (lhs; repeat (whnf; arg 2))))) | refine runk_end (by kernel_rfl) ?_))
theorem pprint_ex : Spec Tryz.prog 34 [.agg [.val (.bool false), .val (.int .u64 0), .val (.int .u64 167772160), .val (.int .i64 23)]] [] (.val (bstr [49, 48, 46, 48, 46, 48, 46, 48, 47, 50, 51])) [] := by
  have h := pprint_spec (N := 23) (aok4 (lo := 167772160) (by decide) (by decide)) (by decide) fst_23.1 fst_23.2
  rw [show prP false 0 167772160 23 = [49, 48, 46, 48, 46, 48, 46, 48, 47, 50, 51] by decide +kernel] at h
  exact h
set_option maxHeartbeats 8000000 in
set_option maxRecDepth 100000 in
theorem awake02 : Spec Tryz.prog 21 [] [] (.val (.bool true)) [] := by
  have pa := pparse_a
  have pb := pparse_b
  have pc := pparse_c
  have cm := common_ex
  have pr := pprint_ex
  refine spec_of_awp Tryz.func21 rfl (Nat.le_of_ble_eq_true rfl) fun ini => ?_
  simp only [Tryz.ntmps21]
  (repeat (first | refine awp_reg_seq rfl fun k => ?_ | (refine awp_ret ?_; (apply ends_pure ?_ ?_ ?_ ?_ ?_ (.inl rfl); rotate_left 1; (· (exact res_one rfl rfl)); (· rfl); (· rfl); (· rfl); (· rfl))) | (apply runk_pure rfl rfl rfl ?_ ?_ ?_ ?_ ?_ ?_ ?_ ?_; rotate_left 6; (· (conv => (lhs; whnf))); (· exact Tryz.func37); (· rfl); (· rfl); (· exact (pa)); (· (repeat (first | exact Rens.nil | (refine Rens.cons ?_ ?_; (· ((refine Ren.pureR ?_ rfl; (rfl)))))))); (· rfl)) | (apply runk_pure rfl rfl rfl ?_ ?_ ?_ ?_ ?_ ?_ ?_ ?_; rotate_left 6; (· (conv => (lhs; whnf))); (· exact Tryz.func37); (· rfl); (· rfl); (· exact (pb)); (· (repeat (first | exact Rens.nil | (refine Rens.cons ?_ ?_; (· ((refine Ren.pureR ?_ rfl; (rfl)))))))); (· rfl)) | (apply runk_pure rfl rfl rfl ?_ ?_ ?_ ?_ ?_ ?_ ?_ ?_; rotate_left 6; (· (conv => (lhs; whnf))); (· exact Tryz.func37); (· rfl); (· rfl); (· exact (pc)); (· (repeat (first | exact Rens.nil | (refine Rens.cons ?_ ?_; (· ((refine Ren.pureR ?_ rfl; (rfl)))))))); (· rfl)) | (apply runk_pure rfl rfl rfl ?_ ?_ ?_ ?_ ?_ ?_ ?_ ?_; rotate_left 6; (· (conv => (lhs; whnf))); (· exact Tryz.func31); (· rfl); (· rfl); (· exact (cm)); (· (repeat (first | exact Rens.nil | (refine Rens.cons ?_ ?_; (· ((refine Ren.pureR ?_ rfl; (rfl)))))))); (· rfl)) | (apply runk_guard rfl rfl ?_ rfl ?_ ?_; rotate_left 3; (· (conv => (lhs; whnf))); (· (intro hb; (try rw [hb]); apply opok_pure rfl ?_ ?_ ?_ ?_ ?_ ?_ ?_; rotate_left 6; (· (conv => (lhs; whnf))); (· exact Tryz.func34); (· rfl); (· rfl); (· exact (pr)); (· (repeat (first | exact Rens.nil | (refine Rens.cons ?_ ?_; (· ((refine Ren.pureR ?_ rfl; (rfl)))))))); (· rfl)))) | (((((apply runk_guard rfl rfl ?_ rfl ?_ ?_; rotate_left 3; (· (conv => (lhs; whnf))); (· (intro hb; (try rw [hb]); apply opok_seql rfl ?_ ?_; rotate_left 2; (· ((conv => (lhs; whnf)); try exact rfl)); (· ((conv => (lhs; whnf)); try exact rfl))))))))) | ((refine runk_ung rfl rfl rfl rfl ?_)) | (apply runk0 rfl rfl (opok_move rfl ?_) ?_; rotate_left 1; (· (conv => (lhs; whnf)))) | (apply runk0 rfl rfl (opok_assign rfl ?_) ?_; rotate_left 1; (· (conv => (lhs; whnf)))) | (apply runk0 rfl rfl (opok_loadA rfl ?_ ?_ ?_ ?_ ?_ ?_) ?_; rotate_left 6; (· (conv => (lhs; whnf))); (· (conv => (lhs; whnf; arg 1; whnf; arg 2; whnf))); (· rfl); (· (unfold sizeIs; conv => (lhs; whnf; arg 1; whnf))); (· (conv => (lhs; repeat (whnf; arg 2)))); (· rfl)) | (apply runk0 rfl rfl (opok_bin rfl ?_ ?_ ?_) ?_; rotate_left 3; (· (conv => (lhs; whnf))); (· (conv => (lhs; whnf))); (· (intro w; go_simp; rfl))) | (apply runk0 rfl rfl (opok_pick rfl ?_ ?_) ?_; rotate_left 2; (· (conv => (lhs; whnf))); (· (exact pick_and))) | (apply runk0 rfl rfl (opok_extract rfl ?_ ?_) ?_; rotate_left 2; (· (conv => (lhs; whnf))); (· (conv => (lhs; whnf; arg 1; whnf)))) | (apply runk_alloc rfl rfl rfl ?_ ?_ ?_; rotate_left 2; (· (conv => (lhs; whnf; arg 1; whnf))); (· (conv => (lhs; whnf)))) | (apply runk_store rfl rfl rfl ?_ ?_ ?_ ?_ ?_ ?_ ?_ ?_ ?_ ?_ ?_; rotate_left 9; (· (conv => (lhs; whnf))); (· (conv => (lhs; whnf))); (· (conv => (lhs; whnf; arg 1; whnf; arg 2; whnf))); (· rfl); (· (conv => (lhs; whnf))); (· rfl); (· (unfold sizeIs; conv => (lhs; whnf; arg 1; whnf))); (· rfl); (· rfl); (· (conv => (lhs; repeat (whnf; arg 2))))) | refine runk_end (by kernel_rfl) ?_))
end Go.Proofs.YtboddbheljenhaaGreatDoor
namespace Go.Proofs.YtboddbheljenhaaGreatDoor
open Go.RowKit
theorem prefixTexts_all (s : List UInt8) (v : Bool) (hi lo n : Int) (h : 0 ≤ hi ∧ hi < 18446744073709551616) (g : 0 ≤ lo ∧ lo < 18446744073709551616) (zs : List Int) (hz : zs.length ≤ 9223372036854775807) (at1 by1 : Int) : Spec Tryz.prog 5 [.val (bstr s), .agg [.val (.bool v), .val (.int .u64 hi), .val (.int .u64 lo), .val (.int .i64 n)], .ro (ints .i64 zs), .val (.int .i64 at1), .val (.int .i64 by1)] [] (.val (.bool true)) [] :=
  prefixTexts_of (pparse_of parse_spec) awake02 s v hi lo n h.1 h.2 g.1 g.2 zs hz at1 by1
end Go.Proofs.YtboddbheljenhaaGreatDoor
namespace Go.Proofs.YtboddbheljenhaaGreatDoor
open Go.RowKit
theorem prefixTexts_any (s0 : ByteArray) (e1_0 : Bool) (e1_1 : Int) (e1_2 : Int) (e1_3 : Int) (A2 : Option Addr) (n2 c2 : Nat) (z2 : List Int) (z3 : Int) (z4 : Int) (w : World) (hV : VarsOk (· < w.heap.size) w) (g0 : s0.size ≤ maxLen) (g1 : ∀ z ∈ ([] : List Int), 0 ≤ z ∧ z < 256) (h1 : ∀ z ∈ ([e1_1, e1_2] : List Int), 0 ≤ z ∧ z < 18446744073709551616) (g2 : Ints .i64 w A2 n2 c2 z2) :
    Calls Tryz.prog 5 #[.string s0, .agg #[.bool e1_0, .int .u64 e1_1, .int .u64 e1_2, .int .i64 e1_3], .slice A2 n2 c2, .int .i64 z3, .int .i64 z4] w fun e w' => e = .returned (.bool true) ∧ Below w.heap.size w w' := by
  have l2 : z2.length ≤ 9223372036854775807 := by
    have h1 := g2.len; have h2 := g2.cap; have h3 := g2.max
    simp only [maxLen] at h3
    omega
  refine calls_val (prefixTexts_all s0.data.toList e1_0 e1_1 e1_2 e1_3 (h1 e1_1 (by simp)) (h1 e1_2 (by simp)) z2 l2 z3 z4) rfl (fun j x u h1 h2 => ?_) hV
  match j, h1, h2 with
  | 0, h1, h2 => cases h1; cases h2; exact .val _
  | 1, h1, h2 => cases h1; cases h2; exact VRels.agg VRels.vals
  | 2, h1, h2 => cases h1; cases h2; exact vrel_ints g2
  | 3, h1, h2 => cases h1; cases h2; exact .val _
  | 4, h1, h2 => cases h1; cases h2; exact .val _
  | _ + 5, h1, h2 => cases h1
end Go.Proofs.YtboddbheljenhaaGreatDoor
namespace Go.Proofs.YtboddbheljenhaaGreatDoor
open Go.ChangeShapes Go.WideShapes Go.ChangeAt Go.RowKit
section
variable {P : Program} {W : World} {r : Reach} {base : Nat}
theorem open_cells {t : TypeId} {ts : List TypeId} {v : Value} (ha : (match P.underlying t with | some (.struct _) | some (.array _ _) => true | _ => false) = true) (hts : P.cellTypes P.depth t = some ts) (hc : P.cellsOf t = ts.length) (h : Value.okWide P W r base t v) :
    ∃ cs : List Value, v = .agg cs.toArray ∧ cs.length = ts.length ∧ ∀ (i : Nat) (u : TypeId), ts[i]? = some u → ∃ x : Value, cs[i]? = some x ∧ Cell.okWide P W r base u x := by
  have key : (∃ cs, v = .agg cs ∧ cs.size = P.cellsOf t ∧ Row.okWide P W r base t cs) := by
    unfold Value.okWide at h
    split at h
    · exact h
    · exact h
    · rename_i h1 h2
      exfalso
      split at ha
      · rename_i fs hu; exact h1 fs hu
      · rename_i n e hu; exact h2 n e hu
      · cases ha
  obtain ⟨cs, rfl, hsz, ts', hts', -, hcell⟩ := key
  rw [hts] at hts'
  injection hts' with hts'
  subst hts'
  refine ⟨cs.toList, by simp, by simp [hsz, hc], fun i u hu => ?_⟩
  have hi : i < ts.length := by
    rcases Nat.lt_or_ge i ts.length with h' | h'
    · exact h'
    · rw [List.getElem?_eq_none h'] at hu; cases hu
  have hi' : i < cs.size := by omega
  obtain ⟨u', h1, h2⟩ := hcell i cs[i] (Array.getElem?_eq_getElem hi')
  rw [Nat.mod_eq_of_lt hi, hu] at h1
  injection h1 with h1
  subst h1
  exact ⟨cs[i], by simp [hi'], h2⟩
theorem cell_int {u : TypeId} {k : IntKind} {x : Value} (hu : P.underlying u = some (.int k)) (h : Cell.okWide P W r base u x) : ∃ n, x = .int k n ∧ k.has n := by
  unfold Cell.okWide at h
  rw [hu] at h
  cases x <;> simp [Cell.ok, hu] at h
  obtain ⟨rfl, h⟩ := h
  exact ⟨_, rfl, h⟩
theorem cell_bool {u : TypeId} {x : Value} (hu : P.underlying u = some .bool) (h : Cell.okWide P W r base u x) : ∃ b, x = .bool b := by
  unfold Cell.okWide at h
  rw [hu] at h
  cases x <;> simp [Cell.ok, hu] at h
  exact ⟨_, rfl⟩
theorem has_u64 {n : Int} (h : IntKind.u64.has n) : 0 ≤ n ∧ n < 18446744073709551616 := by
  simp [IntKind.has, IntKind.min, IntKind.max, IntKind.signed, IntKind.bits] at h; omega
end
end Go.Proofs.YtboddbheljenhaaGreatDoor
namespace Go.Proofs.YtboddbheljenhaaGreatDoor
theorem list_pfx {α : Type} {l : List α} (h : l.length = 4) : ∃ x0 x1 x2 x3, l = [x0, x1, x2, x3] := by
  match l, h with
  | [x0, x1, x2, x3], _ => exact ⟨x0, x1, x2, x3, rfl⟩
set_option maxRecDepth 100000 in
theorem open_pfx {W : World} {r : Reach} {base : Nat} {v : Value} (h : Value.okWide Tryz.prog W r base 26 v) : ∃ (e0 : Bool) (e1 : Int) (e2 : Int) (e3 : Int), v = .agg #[.bool e0, .int .u64 e1, .int .u64 e2, .int .i64 e3] ∧ (∀ z ∈ ([] : List Int), 0 ≤ z ∧ z < 256) ∧ (∀ z ∈ ([e1, e2] : List Int), 0 ≤ z ∧ z < 18446744073709551616) := by
  obtain ⟨cs, rfl, hl, hc⟩ := open_cells (ts := [4, 22, 22, 3]) (by kernel_rfl) (by kernel_rfl) (by kernel_rfl) h
  obtain ⟨x0, x1, x2, x3, rfl⟩ := list_pfx hl
  obtain ⟨y0, h0, k0⟩ := hc 0 _ rfl
  obtain ⟨y1, h1, k1⟩ := hc 1 _ rfl
  obtain ⟨y2, h2, k2⟩ := hc 2 _ rfl
  obtain ⟨y3, h3, k3⟩ := hc 3 _ rfl
  simp at h0 h1 h2 h3
  subst h0; subst h1; subst h2; subst h3
  obtain ⟨z0, rfl⟩ := cell_bool Tryz.underlying4 k0
  obtain ⟨z1, rfl, q1⟩ := cell_int Tryz.underlying22 k1
  obtain ⟨z2, rfl, q2⟩ := cell_int Tryz.underlying22 k2
  obtain ⟨z3, rfl, q3⟩ := cell_int Tryz.underlying3 k3
  refine ⟨z0, z1, z2, z3, rfl, fun z hz => ?_, fun z hz => ?_⟩
  · cases hz
  · simp only [List.mem_cons, List.not_mem_nil, or_false] at hz
    rcases hz with rfl | rfl
    · exact has_u64 q1
    · exact has_u64 q2
end Go.Proofs.YtboddbheljenhaaGreatDoor
