/-
  strconv.ParseUint at base 16; addr.parseGroup.
-/
import Derived.Test.YtboddbheljenhaaGreatDoorG08
import Derived.Test.YtboddbheljenhaaGreatDoorG06
import Derived.Test.YtboddbheljenhaaGreatDoorFmt16
import Derived.Test.YtboddbheljenhaaGreatDoorRows
import Derived.Test.YtboddbheljenhaaGreatDoorG01
import Derived.ProofKit
namespace Go.Proofs.YtboddbheljenhaaGreatDoor
open Go.RowKit
theorem all_vals {ψ : Ghost} {prot : Nat → Prop} {w : World} {cargs : Array Value} {vs : List Value} (hsz : cargs.size = (vs.map AVal.val).length) (h : ∀ (i : Nat) (y : AVal) (v : Value), (vs.map AVal.val)[i]? = some y → cargs[i]? = some v → VRel ψ prot w y v) : cargs = vs.toArray := by
  apply Array.ext
  · simpa using hsz
  · intro i h1 h2
    have hi : i < vs.length := by simpa using h2
    have := (h i (.val vs[i]) cargs[i] (by simp [hi]) (by simp [h1])).val_eq
    simpa using this
theorem vars_syncell {prot : Nat → Prop} {w : World} (h : VarsOk prot w) : ∃ ev, w.cell? ⟨2, 0, none⟩ = some ev ∧ ∃ te pe, ev = .iface te pe := by
  obtain ⟨-, cs, t, fr, h2, te, pe, h3⟩ := h (2, fun cs => ∃ te pe, cs = #[.iface te pe]) (by simp [varWants])
  exact ⟨.iface te pe, by simp only [World.cell?, h2, h3]; rfl, te, pe, rfl⟩
theorem toErr_spec (fn l : List UInt8) (hl : l.length ≤ 281474976710656) (a b : Int) : Spec Tryz.prog 80 [.val (bstr fn), .val (bstr l), .val (.int .i64 a), .val (.int .i64 b), .val (.iface 125 (.int .i64 2))] [] (.ifc 128) [] :=
  spec_belowV (timeless_ifc _) fun ψ prot w cargs hV hk hs hargs => by
    obtain rfl := all_vals (vs := [bstr fn, bstr l, .int .i64 a, .int .i64 b, .iface 125 (.int .i64 2)]) hs hargs
    obtain ⟨ev, hv, hev⟩ := vars_syncell hV
    refine (Tryz.strconv_toError_syntax ⟨fn.toArray⟩ ⟨l.toArray⟩ a b ev w hl hv (.inr hev)).mono ?_
    rintro e w' ⟨N, rfl, -, -, hb⟩
    exact ⟨_, rfl, .ifc _ _, hb⟩
def pu16S (l : List UInt8) (t : TypeId) : AVal := match hexP l with
  | some n => .tuple [.val (.int .u64 (n : Int)), .val .nilIface]
  | none => .tuple [.val (.int .u64 0), .ifc t]
set_option maxHeartbeats 8000000 in
set_option maxRecDepth 100000 in
theorem pu16_spec (l : List UInt8) (hl : l.length ≤ 4) : Spec Tryz.prog 98 [.val (bstr l), .val (.int .i64 16), .val (.int .i64 16)] [] (pu16S l 128) [] := by
  have s := ipu16_spec l hl
  have te := toErr_spec [80, 97, 114, 115, 101, 85, 105, 110, 116] l (by omega) 16 16
  unfold pu16V at s
  unfold pu16S
  cases h : hexP l with
  | some n =>
    rw [h] at s
    refine spec_of_awp Tryz.func98 rfl (Nat.le_of_ble_eq_true rfl) fun ini => ?_
    simp only [Tryz.ntmps98]
    (repeat (first | refine awp_reg_seq rfl fun k => ?_ | refine awp_seq ?_ | refine awp_false rfl ?_ | refine awp_skip (?_ : Awp _ _ _ _ _ _) | (refine awp_ret ?_; (apply ends_pure ?_ ?_ ?_ ?_ ?_ (.inl rfl); rotate_left 1; (· (exact res_two rfl rfl rfl)); (· rfl); (· rfl); (· rfl); (· rfl))) | (apply runk_pure rfl rfl rfl ?_ ?_ ?_ ?_ ?_ ?_ ?_ ?_; rotate_left 6; (· (conv => (lhs; whnf))); (· exact Tryz.func119); (· rfl); (· rfl); (· exact (s)); (· (repeat (first | exact Rens.nil | (refine Rens.cons ?_ ?_; (· ((refine Ren.pureR ?_ rfl; (rfl)))))))); (· rfl)) | (apply runk0 rfl rfl (opok_move rfl ?_) ?_; rotate_left 1; (· (conv => (lhs; whnf)))) | (apply runk0 rfl rfl (opok_assign rfl ?_) ?_; rotate_left 1; (· (conv => (lhs; whnf)))) | (apply runk0 rfl rfl (opok_bin rfl ?_ ?_ ?_) ?_; rotate_left 3; (· (conv => (lhs; whnf))); (· (conv => (lhs; whnf))); (· (intro w; go_simp; rfl))) | (apply runk0 rfl rfl (opok_extract rfl ?_ ?_) ?_; rotate_left 2; (· (conv => (lhs; whnf))); (· (conv => (lhs; whnf; arg 1; whnf)))) | refine runk_end (by kernel_rfl) ?_))
  | none =>
    rw [h] at s
    refine spec_of_awp Tryz.func98 rfl (Nat.le_of_ble_eq_true rfl) fun ini => ?_
    simp only [Tryz.ntmps98]
    (repeat (first | refine awp_reg_seq rfl fun k => ?_ | refine awp_seq ?_ | refine awp_true rfl ?_ | (refine awp_ret ?_; (apply ends_pure ?_ ?_ ?_ ?_ ?_ (.inl rfl); rotate_left 1; (· (exact res_two rfl rfl rfl)); (· rfl); (· rfl); (· rfl); (· rfl))) | (apply runk_pure rfl rfl rfl ?_ ?_ ?_ ?_ ?_ ?_ ?_ ?_; rotate_left 6; (· (conv => (lhs; whnf))); (· exact Tryz.func119); (· rfl); (· rfl); (· exact (s)); (· (repeat (first | exact Rens.nil | (refine Rens.cons ?_ ?_; (· ((refine Ren.pureR ?_ rfl; (rfl)))))))); (· rfl)) | (apply runk_pure rfl rfl rfl ?_ ?_ ?_ ?_ ?_ ?_ ?_ ?_; rotate_left 6; (· (conv => (lhs; whnf))); (· exact Tryz.func80); (· rfl); (· rfl); (· exact (te)); (· (repeat (first | exact Rens.nil | (refine Rens.cons ?_ ?_; (· ((refine Ren.pureR ?_ rfl; (rfl)))))))); (· rfl)) | (((apply runk0 rfl rfl (opok_errNeV rfl ?_ ?_ rfl) ?_; rotate_left 2; (· (conv => (lhs; whnf))); (· (conv => (lhs; whnf)))))) | (apply runk0 rfl rfl (opok_move rfl ?_) ?_; rotate_left 1; (· (conv => (lhs; whnf)))) | (apply runk0 rfl rfl (opok_assign rfl ?_) ?_; rotate_left 1; (· (conv => (lhs; whnf)))) | (apply runk0 rfl rfl (opok_extract rfl ?_ ?_) ?_; rotate_left 2; (· (conv => (lhs; whnf))); (· (conv => (lhs; whnf; arg 1; whnf)))) | refine runk_end (by kernel_rfl) ?_))
def grpN (l : List UInt8) : Option Nat := if l.length ≤ 4 then hexP l else none
def grpV (l : List UInt8) : AVal := match grpN l with
  | some n => .tuple [.val (.int .u16 (n : Int)), .val (.bool true)]
  | none => .tuple [.val (.int .u16 0), .val (.bool false)]
theorem hexP_lt {l : List UInt8} {n : Nat} (hl : l.length ≤ 4) (h : hexP l = some n) : n < 65536 := by
  unfold hexP at h
  split at h
  · cases h
  · have := hexN_lt l 0 n h
    have h2 : (16 : Nat) ^ l.length ≤ 16 ^ 4 := Nat.pow_le_pow_right (by decide) hl
    omega
set_option maxHeartbeats 8000000 in
set_option maxRecDepth 100000 in
theorem grp_spec (l : List UInt8) : Spec Tryz.prog 120 [.val (bstr l)] [] (grpV l) [] := by
  have w0 : IntKind.u16.wrap 0 = 0 := by decide
  unfold grpV grpN
  by_cases hl : l.length ≤ 4
  · rw [if_pos hl]
    have g : decide ((l.length : Int) > 4) = false := decide_eq_false (by omega)
    have s := pu16_spec l hl
    unfold pu16S at s
    cases h : hexP l with
    | some n =>
      rw [h] at s
      have hn := hexP_lt hl h
      have w : IntKind.u16.wrap (n : Int) = (n : Int) := by rw [IntKind.wrap_u16]; omega
      refine spec_of_awp Tryz.func120 rfl (Nat.le_of_ble_eq_true rfl) fun ini => ?_
      simp only [Tryz.ntmps120]
      (repeat (first | refine awp_reg_seq rfl fun k => ?_ | refine awp_seq ?_ | refine awp_false rfl ?_ | refine awp_skip (?_ : Awp _ _ _ _ _ _) | (refine awp_ret ?_; (apply ends_pure ?_ ?_ ?_ ?_ ?_ (.inl rfl); rotate_left 1; (· (exact res_two rfl rfl rfl)); (· rfl); (· rfl); (· rfl); (· rfl))) | (apply runk_pure rfl rfl rfl ?_ ?_ ?_ ?_ ?_ ?_ ?_ ?_; rotate_left 6; (· (conv => (lhs; whnf))); (· exact Tryz.func98); (· rfl); (· rfl); (· exact (s)); (· (repeat (first | exact Rens.nil | (refine Rens.cons ?_ ?_; (· ((refine Ren.pureR ?_ rfl; (rfl)))))))); (· rfl)) | (((((apply runk0 rfl rfl (opok_slen rfl ?_ rfl) ?_; rotate_left 1; (· ((conv => (lhs; whnf)); try exact rfl))))))) | (apply runk0 rfl rfl (opok_move rfl ?_) ?_; rotate_left 1; (· (conv => (lhs; whnf)))) | (apply runk0 rfl rfl (opok_assign rfl ?_) ?_; rotate_left 1; (· (conv => (lhs; whnf)))) | (apply runk0 rfl rfl (opok_bin rfl ?_ ?_ ?_) ?_; rotate_left 3; (· (conv => (lhs; whnf))); (· (conv => (lhs; whnf))); (· (intro w; go_simp; rfl))) | (apply runk0 rfl rfl (opok_conv rfl ?_ ?_) ?_; rotate_left 2; (· (conv => (lhs; whnf))); (· (intro w; go_simp; rfl))) | (apply runk0 rfl rfl (opok_extract rfl ?_ ?_) ?_; rotate_left 2; (· (conv => (lhs; whnf))); (· (conv => (lhs; whnf; arg 1; whnf)))) | refine runk_end (by kernel_rfl) ?_))
    | none =>
      rw [h] at s
      refine spec_of_awp Tryz.func120 rfl (Nat.le_of_ble_eq_true rfl) fun ini => ?_
      simp only [Tryz.ntmps120]
      (repeat (first | refine awp_reg_seq rfl fun k => ?_ | refine awp_seq ?_ | refine awp_false rfl ?_ | refine awp_skip (?_ : Awp _ _ _ _ _ _) | (refine awp_ret ?_; (apply ends_pure ?_ ?_ ?_ ?_ ?_ (.inl rfl); rotate_left 1; (· (exact res_two rfl rfl rfl)); (· rfl); (· rfl); (· rfl); (· rfl))) | (apply runk_pure rfl rfl rfl ?_ ?_ ?_ ?_ ?_ ?_ ?_ ?_; rotate_left 6; (· (conv => (lhs; whnf))); (· exact Tryz.func98); (· rfl); (· rfl); (· exact (s)); (· (repeat (first | exact Rens.nil | (refine Rens.cons ?_ ?_; (· ((refine Ren.pureR ?_ rfl; (rfl)))))))); (· rfl)) | (((((apply runk0 rfl rfl (opok_errEq rfl ?_ ?_ rfl) ?_; rotate_left 1; (· (conv => (lhs; whnf))); (· (conv => (lhs; whnf)))))))) | (((((apply runk0 rfl rfl (opok_slen rfl ?_ rfl) ?_; rotate_left 1; (· ((conv => (lhs; whnf)); try exact rfl))))))) | (apply runk0 rfl rfl (opok_move rfl ?_) ?_; rotate_left 1; (· (conv => (lhs; whnf)))) | (apply runk0 rfl rfl (opok_assign rfl ?_) ?_; rotate_left 1; (· (conv => (lhs; whnf)))) | (apply runk0 rfl rfl (opok_bin rfl ?_ ?_ ?_) ?_; rotate_left 3; (· (conv => (lhs; whnf))); (· (conv => (lhs; whnf))); (· (intro w; go_simp; rfl))) | (apply runk0 rfl rfl (opok_conv rfl ?_ ?_) ?_; rotate_left 2; (· (conv => (lhs; whnf))); (· (intro w; go_simp; rfl))) | (apply runk0 rfl rfl (opok_extract rfl ?_ ?_) ?_; rotate_left 2; (· (conv => (lhs; whnf))); (· (conv => (lhs; whnf; arg 1; whnf)))) | refine runk_end (by kernel_rfl) ?_))
  · rw [if_neg hl]
    have g : decide ((l.length : Int) > 4) = true := decide_eq_true (by omega)
    refine spec_of_awp Tryz.func120 rfl (Nat.le_of_ble_eq_true rfl) fun ini => ?_
    simp only [Tryz.ntmps120]
    (repeat (first | refine awp_reg_seq rfl fun k => ?_ | refine awp_seq ?_ | refine awp_true rfl ?_ | (refine awp_ret ?_; (apply ends_pure ?_ ?_ ?_ ?_ ?_ (.inl rfl); rotate_left 1; (· (exact res_two rfl rfl rfl)); (· rfl); (· rfl); (· rfl); (· rfl))) | (((((apply runk0 rfl rfl (opok_slen rfl ?_ rfl) ?_; rotate_left 1; (· ((conv => (lhs; whnf)); try exact rfl))))))) | (apply runk0 rfl rfl (opok_move rfl ?_) ?_; rotate_left 1; (· (conv => (lhs; whnf)))) | (apply runk0 rfl rfl (opok_assign rfl ?_) ?_; rotate_left 1; (· (conv => (lhs; whnf)))) | (apply runk0 rfl rfl (opok_bin rfl ?_ ?_ ?_) ?_; rotate_left 3; (· (conv => (lhs; whnf))); (· (conv => (lhs; whnf))); (· (intro w; go_simp; rfl))) | refine runk_end (by kernel_rfl) ?_))
end Go.Proofs.YtboddbheljenhaaGreatDoor
namespace Go.Proofs.YtboddbheljenhaaGreatDoor
open Go.RowKit Go.Sort Go.Lib
set_option maxHeartbeats 6400000 in
set_option maxRecDepth 100000 in
theorem ifu10_big (u : Nat) (h0 : 100 ≤ u) (hu64 : u < 18446744073709551616) (w : World) (htab : Lib.TabIs Tryz.prog w "internal/strconv.uint64pow10" .u64 Lib.pow10Tab) :
    Calls Tryz.prog 73 #[.int .u64 u, .int .i64 10] w fun e w' => e = .returned (.string ⟨(Lib.decDigits u).toArray⟩) ∧ ∃ k os, w' = grow (w.drewN k) os := by
  have hu1 : 1 ≤ u := by omega
  have hnd20 : Lib.nDigits u ≤ 20 := by have := Lib.numDigits_eq u hu1 hu64; split at this <;> omega
  have hb3 : Lib.nDigits u ≤ 24 := by omega
  have hal : Tryz.prog.arrayLen 116 = 24 := by kernel_rfl
  have hsl1 : ∀ W, (Instr.sliceAt 116 (.pointer (some ⟨w.heap.size, 0, none⟩)) none (some (.int .i64 (Lib.nDigits u : Int))) none).run Tryz.prog W = .ok (.slice (some ⟨w.heap.size, 0, none⟩) (Lib.nDigits u) 24) W := fun W => by
    rw [run_sliceAt_array_h W 116 ⟨w.heap.size, 0, none⟩ (by kernel_rfl) .i64 (Lib.nDigits u : Int) (by omega) (by rw [hal]; omega), hal]
    go_simp
  have hH0 := Lib.holds_zero0 w 116 (Lib.nDigits u) (by omega)
  have hfmt := Tryz.internal_strconv_formatBase10 w.heap.size 0 24 u (Array.replicate (Lib.nDigits u) 0) (w.alloc (.cells Lib.zeros24 116)) hH0 (by rw [Array.size_replicate]; exact Lib.lt_pow_nDigits u) hu64 (by rw [Array.size_replicate]; omega)
  rw [Array.size_replicate] at hfmt
  have HH0 := Lib.hid hH0
  have d1 : decide ((u : Int) < 100) = false := decide_eq_false (by omega)
  have d2 : decide (u < 100) = false := decide_eq_false (by omega)
  clear hH0 hal
  go_enter Tryz.func73, Tryz.ntmps73
  go_wp2_with (fail)
  have hn := Tryz.internal_strconv_numDigits u hu1 hu64 (w.alloc (.cells Lib.zeros24 116)) (Lib.tabIs_alloc htab _)
  refine hn.mono ?_
  rintro e w' ⟨rfl, rfl⟩
  go_wp2_with (fail)
  refine hfmt.mono ?_
  rintro e w' ⟨rfl, k, v', dk, rfl, hF⟩
  have hcv : (convert 54 9 (.slice (some ⟨w.heap.size, 0, none⟩) (Lib.nDigits u) 24)).run Tryz.prog ((putRow (fun (b : UInt8) => Value.int .u8 (b.toNat : Int)) (w.alloc (.cells Lib.zeros24 116)) w.heap.size 0 dk).drewN k) = .ok (.string ⟨(Lib.decDigits u).toArray⟩) ((putRow (fun (b : UInt8) => Value.int .u8 (b.toNat : Int)) (w.alloc (.cells Lib.zeros24 116)) w.heap.size 0 dk).drewN k) := by
    have h := run_convert_bytes_back (P := Tryz.prog) ((putRow (fun (b : UInt8) => Value.int .u8 (b.toNat : Int)) (w.alloc (.cells Lib.zeros24 116)) w.heap.size 0 dk).drewN k) 54 9 5 ⟨w.heap.size, 0, none⟩ 24 (Lib.decDigits u) (by kernel_rfl) (by kernel_rfl) (by kernel_rfl) (fun j hj => by
      rw [Lib.row_is_numeral hF j hj, Lib.add_plain, World.cell?_drewN]
      exact cell?_putRow (fun (b : UInt8) => Value.int .u8 (b.toNat : Int)) _ w.heap.size 0 _ dk HH0.out (by rw [hF.size, Array.size_replicate]) j (by rw [hF.size]; rw [Lib.decDigits_length] at hj; exact hj))
    rw [Lib.decDigits_length] at h
    exact h
  go_wp2
  go_ret
  obtain ⟨os, eo⟩ := Lib.fin_at w (.cells Lib.zeros24 116) dk k 0
  exact ⟨rfl, k, os, eo⟩
theorem ifu10_spec (u : Nat) (h0 : 100 ≤ u) (hu64 : u < 18446744073709551616) : Spec Tryz.prog 73 [.val (.int .u64 (u : Int)), .val (.int .i64 10)] [] (.val (bstr (Lib.decDigits u))) [] :=
  spec_belowV (timeless_val _) fun ψ prot w cargs hV hk hsz hargs => by
    obtain rfl := all_vals (vs := [.int .u64 u, .int .i64 10]) hsz hargs
    refine (ifu10_big u h0 hu64 w (vars_pow10 hV)).mono ?_
    rintro e w' ⟨rfl, k, os, rfl⟩
    exact ⟨_, rfl, .val _, Lib.below_grow _ w (Nat.le_refl _) k os⟩
set_option maxHeartbeats 6400000 in
set_option maxRecDepth 100000 in
theorem fu10_spec (u : Nat) (hu64 : u < 18446744073709551616) : Spec Tryz.prog 56 [.val (.int .u64 (u : Int)), .val (.int .i64 10)] [] (.val (bstr (Lib.decDigits u))) [] := by
  by_cases h : u < 100
  · exact fmt10_spec u h
  · have s := ifu10_spec u (by omega) hu64
    refine spec_of_awp Tryz.func56 rfl (Nat.le_of_ble_eq_true rfl) fun ini => ?_
    simp only [Tryz.ntmps56]
    (repeat (first | refine awp_reg_seq rfl fun k => ?_ | (refine awp_ret ?_; (apply ends_pure ?_ ?_ ?_ ?_ ?_ (.inl rfl); rotate_left 1; (· (exact res_one rfl rfl)); (· rfl); (· rfl); (· rfl); (· rfl))) | (apply runk_pure rfl rfl rfl ?_ ?_ ?_ ?_ ?_ ?_ ?_ ?_; rotate_left 6; (· (conv => (lhs; whnf))); (· exact Tryz.func73); (· rfl); (· rfl); (· exact (s)); (· (repeat (first | exact Rens.nil | (refine Rens.cons ?_ ?_; (· ((refine Ren.pureR ?_ rfl; (rfl)))))))); (· rfl)) | (apply runk0 rfl rfl (opok_move rfl ?_) ?_; rotate_left 1; (· (conv => (lhs; whnf)))) | (apply runk0 rfl rfl (opok_assign rfl ?_) ?_; rotate_left 1; (· (conv => (lhs; whnf)))) | refine runk_end (by kernel_rfl) ?_))
end Go.Proofs.YtboddbheljenhaaGreatDoor
namespace Go.Proofs.YtboddbheljenhaaGreatDoor
open Go.RowKit

theorem tmod_mod (v n : Int) (h : 0 < n) : v.tmod n % n = v % n := by
  rw [Int.tmod_eq_emod]
  split
  · simp
  · rw [show (n.natAbs : Int) = n by omega]; simp
theorem tmod_neg (v n : Int) (h : 0 < n) (hr : v.tmod n < 0) : v.tmod n + n = v % n := by
  have h3 := Int.lt_tmod_of_pos v h
  rw [← tmod_mod v n h, ← Int.add_emod_right, Int.emod_eq_of_lt] <;> omega
theorem tmod_pos (v n : Int) (h : 0 < n) (hr : 0 ≤ v.tmod n) : v.tmod n = v % n := by
  have h3 := Int.tmod_lt_of_pos v h
  rw [← tmod_mod v n h, Int.emod_eq_of_lt] <;> omega
set_option maxHeartbeats 400000 in
theorem mod_any (v n : Int) (w : World) (h0 : 0 < n) (h1 : n ≤ 9223372036854775807) :
    Calls Tryz.prog 12 #[.int .i64 v, .int .i64 n] w fun e w' => e = .returned (.int .i64 (v % n)) ∧ w = w' := by
  have hlo : -n < v.tmod n := Int.lt_tmod_of_pos v h0
  have hhi := Int.tmod_lt_of_pos v h0
  by_cases hr : v.tmod n < 0
  · have h2 := Lib.hid (tmod_neg v n h0 hr)
    have hd : IntKind.i64.wrap (v.tmod n + n) = v.tmod n + n := IntWalk.i64_in _ (by omega)
    go_enter Tryz.func12, Tryz.ntmps12
    go_wp2
    go_ret
    exact ⟨ret_int h2.out, rfl⟩
  · have h2 := Lib.hid (tmod_pos v n h0 (by omega))
    have hr' : 0 ≤ v.tmod n := by omega
    clear hr
    go_enter Tryz.func12, Tryz.ntmps12
    go_wp2
    go_ret
    exact ⟨ret_int h2.out, rfl⟩

end Go.Proofs.YtboddbheljenhaaGreatDoor
