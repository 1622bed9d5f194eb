/-
  Print of any address, of both.
-/
import Derived.Test.YtboddbheljenhaaGreatDoorRpr
import Derived.Test.YtboddbheljenhaaGreatDoorAbsLn
import Derived.Test.YtboddbheljenhaaGreatDoorG16
import Derived.Test.YtboddbheljenhaaGreatDoorG18
import Derived.Test.YtboddbheljenhaaGreatDoorG17
import Derived.Test.YtboddbheljenhaaGreatDoorEqG
namespace Go.Proofs.YtboddbheljenhaaGreatDoor
open Go.RowKit
end Go.Proofs.YtboddbheljenhaaGreatDoor
namespace Go.Proofs.YtboddbheljenhaaGreatDoor
open Go.RowKit
def prP (v : Bool) (hi lo : Int) (N : Nat) : List UInt8 := prA v hi lo ++ 47 :: Lib.decDigits N
theorem prP_len {v : Bool} {hi lo : Int} {N : Nat} (ao : AOk v hi lo) (h : N ≤ 128) : (prP v hi lo N).length ≤ 60 := by
  have := prA_len ao
  have d : (Lib.decDigits N).length ≤ 3 := by
    have : ∀ k : Fin 129, (Lib.decDigits k.val).length ≤ 3 := by decide +kernel
    exact this ⟨N, by omega⟩
  unfold prP
  rw [List.length_append, List.length_cons]
  omega
theorem wiN_le (v : Bool) : wiN v ≤ 128 := by unfold wiN; split <;> omega
set_option maxHeartbeats 8000000 in
set_option maxRecDepth 100000 in
theorem pprint_spec {v : Bool} {hi lo : Int} {N : Nat} (ap : AOk v hi lo) (hN : N ≤ wiN v) (eh : fstH v hi N = hi) (el : fstL v lo N = lo) : Spec Tryz.prog 34 [.agg [.val (.bool v), .val (.int .u64 hi), .val (.int .u64 lo), .val (.int .i64 (N : Int))]] [] (.val (bstr (prP v hi lo N))) [] := by
  have va := pvalid_ok v hi lo N (okA_of ap) ap.hi0 ap.hi1 ap.lo0 ap.lo1 (by omega) (by omega) eh el
  have p := print_spec ap
  have hw := wiN_le v
  have it := itoa_spec (N : Int) (by omega) (by omega)
  rw [Lib.itoa_nonneg] at it
  have e : prP v hi lo N = prA v hi lo ++ [47] ++ Lib.decDigits N := by unfold prP; simp
  rw [e]
  have hA := prA_len ap
  have hD : (Lib.decDigits N).length ≤ 3 := by
    have : ∀ k : Fin 129, (Lib.decDigits k.val).length ≤ 3 := by decide +kernel
    exact this ⟨N, by omega⟩
  clear e ap eh el hN hw
  generalize prA v hi lo = A at *
  generalize Lib.decDigits N = D at *
  refine spec_of_awp Tryz.func34 rfl (Nat.le_of_ble_eq_true rfl) fun ini => ?_
  simp only [Tryz.ntmps34]
  (repeat (first | refine awp_reg_seq rfl fun k => ?_ | refine awp_seq ?_ | refine awp_false rfl ?_ | refine awp_skip (?_ : Awp _ _ _ _ _ _) | (refine awp_ret ?_; (apply ends_pure ?_ ?_ ?_ ?_ ?_ (.inl rfl); rotate_left 1; (· (exact res_one rfl rfl)); (· rfl); (· rfl); (· rfl); (· rfl))) | (apply runk_pure rfl rfl rfl ?_ ?_ ?_ ?_ ?_ ?_ ?_ ?_; rotate_left 6; (· (conv => (lhs; whnf))); (· exact Tryz.func13); (· rfl); (· rfl); (· exact (va)); (· (repeat (first | exact Rens.nil | (refine Rens.cons ?_ ?_; (· ((refine Ren.pureR ?_ rfl; (rfl)))))))); (· rfl)) | (apply runk_pure rfl rfl rfl ?_ ?_ ?_ ?_ ?_ ?_ ?_ ?_; rotate_left 6; (· (conv => (lhs; whnf))); (· exact Tryz.func54); (· rfl); (· rfl); (· exact (p)); (· (repeat (first | exact Rens.nil | (refine Rens.cons ?_ ?_; (· ((refine Ren.pureR ?_ rfl; (rfl)))))))); (· rfl)) | (apply runk_pure rfl rfl rfl ?_ ?_ ?_ ?_ ?_ ?_ ?_ ?_; rotate_left 6; (· (conv => (lhs; whnf))); (· exact Tryz.func53); (· rfl); (· rfl); (· exact (it)); (· (repeat (first | exact Rens.nil | (refine Rens.cons ?_ ?_; (· ((refine Ren.pureR ?_ rfl; (rfl)))))))); (· rfl)) | (((((apply runk0 rfl rfl (opok_scat rfl ?_ ?_ ?_) ?_; rotate_left 2; (· ((conv => (lhs; whnf)); try exact rfl)); (· ((conv => (lhs; whnf)); try exact rfl)); (· ((simp; omega)))))))) | (apply runk0 rfl rfl (opok_assign rfl ?_) ?_; rotate_left 1; (· (conv => (lhs; whnf)))) | (apply runk_fa rfl rfl rfl ?_ rfl rfl ?_ ?_ ?_ ?_; rotate_left 5; (· (conv => (lhs; whnf))); (· (unfold sizeIs; conv => (lhs; whnf; arg 1; whnf))); (· rfl); (· (conv => (lhs; whnf)))) | (((apply runk0 rfl rfl (opok_load rfl ?_ ?_ ?_ ?_) ?_; rotate_left 5; (· (conv => (lhs; whnf))); (· (conv => (lhs; whnf; arg 1; whnf; arg 2; whnf))); (· rfl); (· (conv => (lhs; whnf; arg 1; whnf)))))) | (apply runk0 rfl rfl (opok_loadA rfl ?_ ?_ ?_ ?_ ?_ ?_) ?_; rotate_left 6; (· (conv => (lhs; whnf))); (· (conv => (lhs; whnf; arg 1; whnf; arg 2; whnf))); (· rfl); (· (unfold sizeIs; conv => (lhs; whnf; arg 1; whnf))); (· (conv => (lhs; repeat (whnf; arg 2)))); (· rfl)) | (apply runk0 rfl rfl (opok_un rfl ?_ ?_) ?_; rotate_left 2; (· (conv => (lhs; whnf))); (· (intro w; go_simp; rfl))) | (apply runk_box rfl rfl rfl ?_ ?_ ?_ ?_; rotate_left 2; (· (conv => (lhs; whnf))); (· rfl); (· (conv => (lhs; whnf)))) | refine runk_end (by kernel_rfl) ?_))
attribute [local irreducible] eqQ
end Go.Proofs.YtboddbheljenhaaGreatDoor
