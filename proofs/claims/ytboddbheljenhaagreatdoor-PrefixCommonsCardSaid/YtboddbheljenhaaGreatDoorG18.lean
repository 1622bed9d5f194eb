/-
  strconv.FormatUint at base 16, of numbers of 16 bits, by states.
-/
import Derived.Test.YtboddbheljenhaaGreatDoorG17
import Derived.Test.YtboddbheljenhaaGreatDoorG16
import Derived.Test.YtboddbheljenhaaGreatDoorG05
import Derived.Test.YtboddbheljenhaaGreatDoorG06
import Derived.Test.YtboddbheljenhaaGreatDoorG07
namespace Go.Proofs.YtboddbheljenhaaGreatDoor
open Go.RowKit
/-- The digits. -/
def digs : List UInt8 := [48, 49, 50, 51, 52, 53, 54, 55, 56, 57, 97, 98, 99, 100, 101, 102, 103, 104, 105, 106, 107, 108, 109, 110, 111, 112, 113, 114, 115, 116, 117, 118, 119, 120, 121, 122]
theorem digs_hex (v : Nat) (h : v < 16) : byteAt digs (v : Int) = ((hexDig v).toNat : Int) := by
  have : ∀ v : Fin 16, byteAt digs (v.val : Int) = ((hexDig v.val).toNat : Int) := by decide +kernel
  exact this ⟨v, h⟩
theorem and15 (v : Nat) (h : v < 65536) : bits .and .u64 (v : Int) 15 = ((v % 16 : Nat) : Int) := by
  rw [show (15 : Int) = ((15 : Nat) : Int) from rfl, bits_and_u64_nat v 15 (by omega) (by omega)]
  have := Nat.and_two_pow_sub_one_eq_mod v 4
  have h2 : v &&& 15 = v % 16 := by simpa using this
  rw [h2]
set_option maxHeartbeats 4000000 in
set_option maxRecDepth 100000 in
/-- strconv.FormatUint at base 10, of numbers below 100... and of bytes by strconv's small ones. -/
theorem fmt10_spec (i : Nat) (h : i < 100) : Spec Tryz.prog 56 [.val (.int .u64 (i : Int)), .val (.int .i64 10)] [] (.val (bstr (Lib.decDigits i))) [] := by
  have s : Spec Tryz.prog 73 [.val (.int .u64 (i : Int)), .val (.int .i64 10)] [] (.val (bstr (Lib.decDigits i))) [] := by
    have f := small_spec i h
    have d : decide ((i : Int) < 100) = true := decide_eq_true (by omega)
    have w : IntKind.i64.wrap (i : Int) = (i : Int) := by rw [IntKind.wrap_i64]; omega
    generalize Lib.decDigits i = l at *
    refine spec_of_awp Tryz.func73 rfl (Nat.le_of_ble_eq_true rfl) fun ini => ?_
    simp only [Tryz.ntmps73]
    (repeat (first | refine awp_reg_seq rfl fun k => ?_ | refine awp_seq ?_ | refine awp_true rfl ?_ | (refine awp_ret ?_; (apply ends_pure ?_ ?_ ?_ ?_ ?_ (.inl rfl); rotate_left 1; (· first | exact res_one rfl rfl | exact res_two rfl rfl rfl | exact res_none rfl | exact res_three rfl rfl rfl rfl | exact res_cell rfl rfl rfl rfl rfl | exact res_cell2 rfl rfl rfl rfl rfl rfl | exact res3 rfl (rv_cell rfl rfl rfl rfl) (rv_tmp rfl) (rv_tmp rfl) | exact res3 rfl (rv_cell rfl rfl rfl rfl) (rv_cell rfl rfl rfl rfl) (rv_cell rfl rfl rfl rfl)); (· first | rfl | ((conv => (lhs; whnf)); first | rfl | (simp; done))); (· first | rfl | (simp; done) | (simp [AVal.pure, AVal.pures, AObj.pure]; done)); (· rfl); (· rfl))) | (apply runk_pure rfl rfl rfl ?_ ?_ ?_ ?_ ?_ ?_ ?_ ?_; rotate_left 6; (· (conv => (lhs; whnf))); (· exact Tryz.func92); (· rfl); (· rfl); (· exact (f)); (· (repeat (first | exact Rens.nil | (refine Rens.cons ?_ ?_; (· first | exact Ren.own _ _ _ _ _ _ rfl List.mem_cons_self | exact Ren.own _ _ _ _ _ _ rfl (List.mem_cons_of_mem _ List.mem_cons_self) | (refine (Ren.own _ _ _ _ _ _ ?_ List.mem_cons_self); first | rfl | (simp; done)) | (refine (Ren.own _ _ _ _ _ _ ?_ (List.mem_cons_of_mem _ List.mem_cons_self)); first | rfl | (simp; done)) | exact Ren.ptr _ _ _ _ _ List.mem_cons_self | (refine Ren.pureR ?_ rfl; (first | rfl | (simp; done) | (simp [AVal.pure, AVal.pures, AObj.pure]; done)))))))); (· first | rfl | (simp; done) | simp [AVal.pure, AVal.pures, AObj.pure])) | (apply runk0 rfl rfl (opok_move rfl ?_) ?_; rotate_left 1; (· (conv => (lhs; whnf)))) | (apply runk0 rfl rfl (opok_assign rfl ?_) ?_; rotate_left 1; (· (conv => (lhs; whnf)))) | (apply runk0 rfl rfl (opok_bin rfl ?_ ?_ ?_) ?_; rotate_left 3; (· (conv => (lhs; whnf))); (· (conv => (lhs; whnf))); (· (intro w; go_simp; first | done | rfl))) | (apply runk0 rfl rfl (opok_conv rfl ?_ ?_) ?_; rotate_left 2; (· (conv => (lhs; whnf))); (· (intro w; go_simp; first | done | rfl))) | refine runk_end (by kernel_rfl) ?_))
  generalize Lib.decDigits i = l at *
  refine spec_of_awp Tryz.func56 rfl (Nat.le_of_ble_eq_true rfl) fun ini => ?_
  simp only [Tryz.ntmps56]
  (repeat (first | refine awp_reg_seq rfl fun k => ?_ | (refine awp_ret ?_; (apply ends_pure ?_ ?_ ?_ ?_ ?_ (.inl rfl); rotate_left 1; (· first | exact res_one rfl rfl | exact res_two rfl rfl rfl | exact res_none rfl | exact res_three rfl rfl rfl rfl | exact res_cell rfl rfl rfl rfl rfl | exact res_cell2 rfl rfl rfl rfl rfl rfl | exact res3 rfl (rv_cell rfl rfl rfl rfl) (rv_tmp rfl) (rv_tmp rfl) | exact res3 rfl (rv_cell rfl rfl rfl rfl) (rv_cell rfl rfl rfl rfl) (rv_cell rfl rfl rfl rfl)); (· first | rfl | ((conv => (lhs; whnf)); first | rfl | (simp; done))); (· first | rfl | (simp; done) | (simp [AVal.pure, AVal.pures, AObj.pure]; done)); (· rfl); (· rfl))) | (apply runk_pure rfl rfl rfl ?_ ?_ ?_ ?_ ?_ ?_ ?_ ?_; rotate_left 6; (· (conv => (lhs; whnf))); (· exact Tryz.func73); (· rfl); (· rfl); (· exact (s)); (· (repeat (first | exact Rens.nil | (refine Rens.cons ?_ ?_; (· first | exact Ren.own _ _ _ _ _ _ rfl List.mem_cons_self | exact Ren.own _ _ _ _ _ _ rfl (List.mem_cons_of_mem _ List.mem_cons_self) | (refine (Ren.own _ _ _ _ _ _ ?_ List.mem_cons_self); first | rfl | (simp; done)) | (refine (Ren.own _ _ _ _ _ _ ?_ (List.mem_cons_of_mem _ List.mem_cons_self)); first | rfl | (simp; done)) | exact Ren.ptr _ _ _ _ _ List.mem_cons_self | (refine Ren.pureR ?_ rfl; (first | rfl | (simp; done) | (simp [AVal.pure, AVal.pures, AObj.pure]; done)))))))); (· first | rfl | (simp; done) | simp [AVal.pure, AVal.pures, AObj.pure])) | (apply runk0 rfl rfl (opok_move rfl ?_) ?_; rotate_left 1; (· (conv => (lhs; whnf)))) | (apply runk0 rfl rfl (opok_assign rfl ?_) ?_; rotate_left 1; (· (conv => (lhs; whnf)))) | refine runk_end (by kernel_rfl) ?_))

end Go.Proofs.YtboddbheljenhaaGreatDoor
namespace Go.Proofs.YtboddbheljenhaaGreatDoor
open Go.RowKit
theorem pu8_dig (l : List UInt8) (n : Nat) (hl : l.length ≤ 100) (h : Lib.parseUintB 8 l = .ok n) : Spec Tryz.prog 98 [.val (bstr l), .val (.int .i64 10), .val (.int .i64 8)] [] (.tuple [.val (.int .u64 (n : Int)), .val .nilIface]) [] := by
  have s := pu8_spec l (by omega)
  unfold pu8V at s
  rw [h] at s
  exact s
theorem fmt10_dig (i : Nat) (l : List UInt8) (h : i < 100) (e : Lib.decDigits i = l) : Spec Tryz.prog 56 [.val (.int .u64 (i : Int)), .val (.int .i64 10)] [] (.val (bstr l)) [] := e ▸ fmt10_spec i h
end Go.Proofs.YtboddbheljenhaaGreatDoor
namespace Go.Proofs.YtboddbheljenhaaGreatDoor
open Go.RowKit
theorem join_nil (sep : List UInt8) : Spec Tryz.prog 89 [.val (.slice none 0 0), .val (bstr sep)] [] (.val (bstr [])) [] :=
  spec_belowV (timeless_val _) fun ψ prot w cargs hV hk hsz hargs => by
    obtain rfl := two_vals hsz hargs
    refine (Tryz.strings_Join_none none 0 ⟨sep.toArray⟩ w).mono ?_
    rintro e w' ⟨rfl, rfl⟩
    exact ⟨_, rfl, .val _, Below.refl _ _⟩
theorem join_own (ls : List (List UInt8)) (sep : List UInt8) (hN : ls.length ≤ 140737488355328) (hlen : (Lib.join ls sep).length ≤ 140737488355328) : Spec Tryz.prog 89 [.own 0 0 (strL ls).length, .val (bstr sep)] [(0, some (0, .row 9 1 (strL ls)))] (.val (bstr (Lib.join ls sep))) [(0, some (0, .row 9 1 (strL ls)))] :=
  spec_lendT (timeless_val _) (by rfl) (fun i y hi => by
    match i, hi with
    | 0, hi => cases hi; exact ⟨_, rfl, .one (.own _ rfl)⟩
    | 1, hi => cases hi; exact ⟨_, rfl, .one (.same _)⟩) (join_spec ls sep hN hlen)
def nats (xs : List Nat) : List Int := xs.map fun x : Nat => (x : Int)
end Go.Proofs.YtboddbheljenhaaGreatDoor
