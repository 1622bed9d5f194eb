/-
  strconv.ParseUint at base 16 of at most four bytes, in 16 bits, by states.
-/
import Derived.Test.YtboddbheljenhaaGreatDoorG20
import Derived.Test.YtboddbheljenhaaGreatDoorG19
import Derived.Test.YtboddbheljenhaaGreatDoorShelfSeven7
import Derived.Test.YtboddbheljenhaaGreatDoorG05
import Derived.Test.YtboddbheljenhaaGreatDoorG06
import Derived.Test.YtboddbheljenhaaGreatDoorG07
namespace Go.Proofs.YtboddbheljenhaaGreatDoor
open Go.RowKit
def lowZ (c : Int) : Int := bits .or .u8 c 32
def letZ (c : Int) : Int := IntKind.u8.wrap (IntKind.u8.wrap (lowZ c - 97) + 10)
/-- What a byte is, as the program asks. -/
def clsB (x : Nat) : Bool :=
  let c : Int := (x : Int)
  match hexV (UInt8.ofNat x) with
  | some d => (decide (48 ≤ c) && decide (c ≤ 57) && decide (IntKind.u8.wrap (c - 48) = (d : Int))) || (!(decide (48 ≤ c) && decide (c ≤ 57)) && decide (97 ≤ lowZ c) && decide (lowZ c ≤ 122) && decide (letZ c = (d : Int)))
  | none => !(decide (48 ≤ c) && decide (c ≤ 57)) && (!(decide (97 ≤ lowZ c) && decide (lowZ c ≤ 122)) || decide (16 ≤ letZ c))
theorem cls_all : ∀ x : Fin 256, clsB x.val = true := by decide +kernel
theorem cls (x : UInt8) : clsB x.toNat = true := cls_all ⟨x.toNat, x.toNat_lt⟩
theorem cls_some {x : UInt8} {d : Nat} (h : hexV x = some d) : (decide (48 ≤ (x.toNat : Int)) = true ∧ decide ((x.toNat : Int) ≤ 57) = true ∧ IntKind.u8.wrap ((x.toNat : Int) - 48) = (d : Int)) ∨
    ((decide (48 ≤ (x.toNat : Int)) = false ∨ decide (48 ≤ (x.toNat : Int)) = true ∧ decide ((x.toNat : Int) ≤ 57) = false) ∧ decide (97 ≤ lowZ (x.toNat : Int)) = true ∧ decide (lowZ (x.toNat : Int) ≤ 122) = true ∧ letZ (x.toNat : Int) = (d : Int)) := by
  have hc := cls x
  unfold clsB at hc
  simp only [UInt8.ofNat_toNat, h] at hc
  cases b1 : decide (48 ≤ (x.toNat : Int)) <;> cases b2 : decide ((x.toNat : Int) ≤ 57) <;> cases b3 : decide (97 ≤ lowZ (x.toNat : Int)) <;> cases b4 : decide (lowZ (x.toNat : Int) ≤ 122) <;> simp [b1, b2, b3, b4] at hc ⊢ <;> exact hc
theorem cls_none {x : UInt8} (h : hexV x = none) : (decide (48 ≤ (x.toNat : Int)) = false ∨ decide (48 ≤ (x.toNat : Int)) = true ∧ decide ((x.toNat : Int) ≤ 57) = false) ∧
    (decide (97 ≤ lowZ (x.toNat : Int)) = false ∨ decide (97 ≤ lowZ (x.toNat : Int)) = true ∧ decide (lowZ (x.toNat : Int) ≤ 122) = false ∨ decide (97 ≤ lowZ (x.toNat : Int)) = true ∧ decide (lowZ (x.toNat : Int) ≤ 122) = true ∧ decide (letZ (x.toNat : Int) ≥ 16) = true) := by
  have hc := cls x
  unfold clsB at hc
  simp only [UInt8.ofNat_toNat, h] at hc
  cases b1 : decide (48 ≤ (x.toNat : Int)) <;> cases b2 : decide ((x.toNat : Int) ≤ 57) <;> cases b3 : decide (97 ≤ lowZ (x.toNat : Int)) <;> cases b4 : decide (lowZ (x.toNat : Int) ≤ 122) <;> simp [b1, b2, b3, b4] at hc ⊢ <;> exact hc
theorem lower_spec (c : Int) : Spec Tryz.prog 131 [.val (.int .u8 c)] [] (.val (.int .u8 (lowZ c))) [] :=
  spec_belowV (timeless_val _) fun ψ prot w cargs hV hk hsz hargs => by
    obtain rfl := one_arg hsz hargs
    refine (Tryz.internal_strconv_lower c w).mono ?_
    rintro e w' ⟨rfl, rfl⟩
    exact ⟨_, rfl, .val _, Below.refl _ _⟩
/-- What digits of base 16 spell; none if there is none, or a byte that is no digit. -/
def hexP (l : List UInt8) : Option Nat := if l = [] then none else hexN 0 l
/-- What strconv answers. -/
def pu16V (l : List UInt8) : AVal := match hexP l with
  | some n => .tuple [.val (.int .u64 (n : Int)), .val .nilIface]
  | none => .tuple [.val (.int .u64 0), .val (.iface 125 (.int .i64 2))]
theorem hexN_bad {l : List UInt8} {i : Nat} (hi : i < l.length) (h : hexV l[i] = none) : hexN 0 l = none := by
  conv => lhs; rw [← List.take_append_drop i l]
  rw [hexN_append, List.drop_eq_getElem_cons hi]
  cases hexN 0 (l.take i) with
  | none => rfl
  | some n => simp [hexN, h]
theorem hexN_step {l : List UInt8} {i n d : Nat} (hi : i < l.length) (hn : hexN 0 (l.take i) = some n) (h : hexV l[i] = some d) : hexN 0 (l.take (i + 1)) = some (n * 16 + d) := by
  rw [List.take_add_one, List.getElem?_eq_getElem hi, hexN_append, hn]
  simp [hexN, h]
end Go.Proofs.YtboddbheljenhaaGreatDoor
namespace Go.Proofs.YtboddbheljenhaaGreatDoor
open Go.RowKit
theorem all_vals {ψ : Ghost} {prot : Nat → Prop} {w : World} {cargs : Array Value} {vs : List Value} (hsz : cargs.size = (vs.map AVal.val).length) (h : ∀ (i : Nat) (y : AVal) (v : Value), (vs.map AVal.val)[i]? = some y → cargs[i]? = some v → VRel ψ prot w y v) : cargs = vs.toArray := by
  apply Array.ext
  · simpa using hsz
  · intro i h1 h2
    have hi : i < vs.length := by simpa using h2
    have := (h i (.val vs[i]) cargs[i] (by simp [hi]) (by simp [h1])).val_eq
    simpa using this
theorem vars_syncell {prot : Nat → Prop} {w : World} (h : VarsOk prot w) : ∃ ev, w.cell? ⟨2, 0, none⟩ = some ev ∧ ∃ te pe, ev = .iface te pe := by
  obtain ⟨-, cs, t, fr, h2, te, pe, h3⟩ := h (2, fun cs => ∃ te pe, cs = #[.iface te pe]) (by simp [varWants])
  exact ⟨.iface te pe, by simp only [World.cell?, h2, h3]; rfl, te, pe, rfl⟩
theorem toErr_spec (fn l : List UInt8) (hl : l.length ≤ 281474976710656) (a b : Int) : Spec Tryz.prog 80 [.val (bstr fn), .val (bstr l), .val (.int .i64 a), .val (.int .i64 b), .val (.iface 125 (.int .i64 2))] [] (.ifc 128) [] :=
  spec_belowV (timeless_ifc _) fun ψ prot w cargs hV hk hs hargs => by
    obtain rfl := all_vals (vs := [bstr fn, bstr l, .int .i64 a, .int .i64 b, .iface 125 (.int .i64 2)]) hs hargs
    obtain ⟨ev, hv, hev⟩ := vars_syncell hV
    refine (Tryz.strconv_toError_syntax ⟨fn.toArray⟩ ⟨l.toArray⟩ a b ev w hl hv (.inr hev)).mono ?_
    rintro e w' ⟨N, rfl, -, -, hb⟩
    exact ⟨_, rfl, .ifc _ _, hb⟩
/-- What strconv.ParseUint(l, 16, 16) answers. -/
def pu16S (l : List UInt8) (t : TypeId) : AVal := match hexP l with
  | some n => .tuple [.val (.int .u64 (n : Int)), .val .nilIface]
  | none => .tuple [.val (.int .u64 0), .ifc t]
/-- What addr.parseGroup answers. -/
def grpN (l : List UInt8) : Option Nat := if l.length ≤ 4 then hexP l else none
def grpV (l : List UInt8) : AVal := match grpN l with
  | some n => .tuple [.val (.int .u16 (n : Int)), .val (.bool true)]
  | none => .tuple [.val (.int .u16 0), .val (.bool false)]
theorem hexP_lt {l : List UInt8} {n : Nat} (hl : l.length ≤ 4) (h : hexP l = some n) : n < 65536 := by
  unfold hexP at h
  split at h
  · cases h
  · have := hexN_lt l 0 n h
    have h2 : (16 : Nat) ^ l.length ≤ 16 ^ 4 := Nat.pow_le_pow_right (by decide) hl
    omega
end Go.Proofs.YtboddbheljenhaaGreatDoor
namespace Go.Proofs.YtboddbheljenhaaGreatDoor
open Go.RowKit Go.Sort
theorem vars_bruijn {prot : Nat → Prop} {w : World} (h : VarsOk prot w) : w.cell? ⟨5, 15, none⟩ = some (.int .u8 4) := by
  obtain ⟨-, cs, t, fr, h2, h3⟩ := h (5, fun cs => cs[15]? = some (.int .u8 4)) (by simp [varWants])
  simp only [World.cell?, h2]
  exact h3
theorem tz64_16 : Spec Tryz.prog 126 [.val (.int .u64 16)] [] (.val (.int .i64 4)) [] :=
  spec_belowV (timeless_val _) fun ψ prot w cargs hV hk hsz hargs => by
    obtain rfl := one_arg hsz hargs
    refine (Any7.tz64_core (ρ := Tryz.lays7_27_ren) { Tryz.lays7_27 with } 16 4 15 w rfl (by decide +kernel) (by omega) (by omega) (vars_bruijn hV)).mono ?_
    rintro e w' ⟨rfl, rfl⟩
    exact ⟨_, rfl, .val _, Below.refl _ _⟩
set_option maxHeartbeats 4000000 in
set_option maxRecDepth 100000 in
theorem tz_16 : Spec Tryz.prog 113 [.val (.int .u64 16)] [] (.val (.int .i64 4)) [] := by
  have s := tz64_16
  refine spec_of_awp Tryz.func113 rfl (Nat.le_of_ble_eq_true rfl) fun ini => ?_
  simp only [Tryz.ntmps113]
  (repeat (first | refine awp_reg_seq rfl fun k => ?_ | refine awp_seq ?_ | refine awp_false rfl ?_ | refine awp_skip (?_ : Awp _ _ _ _ _ _) | (refine awp_ret ?_; (apply ends_pure ?_ ?_ ?_ ?_ ?_ (.inl rfl); rotate_left 1; (· first | exact res_one rfl rfl | exact res_two rfl rfl rfl | exact res_none rfl | exact res_three rfl rfl rfl rfl | exact res_cell rfl rfl rfl rfl rfl | exact res_cell2 rfl rfl rfl rfl rfl rfl | exact res3 rfl (rv_cell rfl rfl rfl rfl) (rv_tmp rfl) (rv_tmp rfl) | exact res3 rfl (rv_cell rfl rfl rfl rfl) (rv_cell rfl rfl rfl rfl) (rv_cell rfl rfl rfl rfl)); (· first | rfl | ((conv => (lhs; whnf)); first | rfl | (simp; done))); (· first | rfl | (simp; done) | (simp [AVal.pure, AVal.pures, AObj.pure]; done)); (· rfl); (· rfl))) | (apply runk_pure rfl rfl rfl ?_ ?_ ?_ ?_ ?_ ?_ ?_ ?_; rotate_left 6; (· (conv => (lhs; whnf))); (· exact Tryz.func126); (· rfl); (· rfl); (· exact (s)); (· (repeat (first | exact Rens.nil | (refine Rens.cons ?_ ?_; (· first | exact Ren.own _ _ _ _ _ _ rfl List.mem_cons_self | exact Ren.own _ _ _ _ _ _ rfl (List.mem_cons_of_mem _ List.mem_cons_self) | (refine (Ren.own _ _ _ _ _ _ ?_ List.mem_cons_self); first | rfl | (simp; done)) | (refine (Ren.own _ _ _ _ _ _ ?_ (List.mem_cons_of_mem _ List.mem_cons_self)); first | rfl | (simp; done)) | exact Ren.ptr _ _ _ _ _ List.mem_cons_self | (refine Ren.pureR ?_ rfl; (first | rfl | (simp; done) | (simp [AVal.pure, AVal.pures, AObj.pure]; done)))))))); (· first | rfl | (simp; done) | simp [AVal.pure, AVal.pures, AObj.pure])) | (apply runk0 rfl rfl (opok_move rfl ?_) ?_; rotate_left 1; (· (conv => (lhs; whnf)))) | (apply runk0 rfl rfl (opok_assign rfl ?_) ?_; rotate_left 1; (· (conv => (lhs; whnf)))) | refine runk_end (by kernel_rfl) ?_))
set_option maxHeartbeats 4000000 in
set_option maxRecDepth 100000 in
theorem pow2_16 : Spec Tryz.prog 112 [.val (.int .i64 16)] [] (.val (.bool true)) [] := by
  refine spec_of_awp Tryz.func112 rfl (Nat.le_of_ble_eq_true rfl) fun ini => ?_
  simp only [Tryz.ntmps112]
  (repeat (first | refine awp_reg_seq rfl fun k => ?_ | (refine awp_ret ?_; (apply ends_pure ?_ ?_ ?_ ?_ ?_ (.inl rfl); rotate_left 1; (· first | exact res_one rfl rfl | exact res_two rfl rfl rfl | exact res_none rfl | exact res_three rfl rfl rfl rfl | exact res_cell rfl rfl rfl rfl rfl | exact res_cell2 rfl rfl rfl rfl rfl rfl | exact res3 rfl (rv_cell rfl rfl rfl rfl) (rv_tmp rfl) (rv_tmp rfl) | exact res3 rfl (rv_cell rfl rfl rfl rfl) (rv_cell rfl rfl rfl rfl) (rv_cell rfl rfl rfl rfl)); (· first | rfl | ((conv => (lhs; whnf)); first | rfl | (simp; done))); (· first | rfl | (simp; done) | (simp [AVal.pure, AVal.pures, AObj.pure]; done)); (· rfl); (· rfl))) | (apply runk0 rfl rfl (opok_move rfl ?_) ?_; rotate_left 1; (· (conv => (lhs; whnf)))) | (apply runk0 rfl rfl (opok_assign rfl ?_) ?_; rotate_left 1; (· (conv => (lhs; whnf)))) | (apply runk0 rfl rfl (opok_bin rfl ?_ ?_ ?_) ?_; rotate_left 3; (· (conv => (lhs; whnf))); (· (conv => (lhs; whnf))); (· (intro w; go_simp; first | done | rfl))) | refine runk_end (by kernel_rfl) ?_))
end Go.Proofs.YtboddbheljenhaaGreatDoor
namespace Go.Proofs.YtboddbheljenhaaGreatDoor
open Go.RowKit
/-- The digits. -/
def digs : List UInt8 := [48, 49, 50, 51, 52, 53, 54, 55, 56, 57, 97, 98, 99, 100, 101, 102, 103, 104, 105, 106, 107, 108, 109, 110, 111, 112, 113, 114, 115, 116, 117, 118, 119, 120, 121, 122]
theorem digs_hex (v : Nat) (h : v < 16) : byteAt digs (v : Int) = ((hexDig v).toNat : Int) := by
  have : ∀ v : Fin 16, byteAt digs (v.val : Int) = ((hexDig v.val).toNat : Int) := by decide +kernel
  exact this ⟨v, h⟩
theorem and15 (v : Nat) (h : v < 65536) : bits .and .u64 (v : Int) 15 = ((v % 16 : Nat) : Int) := by
  rw [show (15 : Int) = ((15 : Nat) : Int) from rfl, bits_and_u64_nat v 15 (by omega) (by omega)]
  have := Nat.and_two_pow_sub_one_eq_mod v 4
  have h2 : v &&& 15 = v % 16 := by simpa using this
  rw [h2]
set_option maxHeartbeats 4000000 in
set_option maxRecDepth 100000 in
/-- strconv.FormatUint at base 10, of numbers below 100... and of bytes by strconv's small ones. -/
theorem fmt10_spec (i : Nat) (h : i < 100) : Spec Tryz.prog 56 [.val (.int .u64 (i : Int)), .val (.int .i64 10)] [] (.val (bstr (Lib.decDigits i))) [] := by
  have s : Spec Tryz.prog 73 [.val (.int .u64 (i : Int)), .val (.int .i64 10)] [] (.val (bstr (Lib.decDigits i))) [] := by
    have f := small_spec i h
    have d : decide ((i : Int) < 100) = true := decide_eq_true (by omega)
    have w : IntKind.i64.wrap (i : Int) = (i : Int) := by rw [IntKind.wrap_i64]; omega
    generalize Lib.decDigits i = l at *
    refine spec_of_awp Tryz.func73 rfl (Nat.le_of_ble_eq_true rfl) fun ini => ?_
    simp only [Tryz.ntmps73]
    (repeat (first | refine awp_reg_seq rfl fun k => ?_ | refine awp_seq ?_ | refine awp_true rfl ?_ | (refine awp_ret ?_; (apply ends_pure ?_ ?_ ?_ ?_ ?_ (.inl rfl); rotate_left 1; (· first | exact res_one rfl rfl | exact res_two rfl rfl rfl | exact res_none rfl | exact res_three rfl rfl rfl rfl | exact res_cell rfl rfl rfl rfl rfl | exact res_cell2 rfl rfl rfl rfl rfl rfl | exact res3 rfl (rv_cell rfl rfl rfl rfl) (rv_tmp rfl) (rv_tmp rfl) | exact res3 rfl (rv_cell rfl rfl rfl rfl) (rv_cell rfl rfl rfl rfl) (rv_cell rfl rfl rfl rfl)); (· first | rfl | ((conv => (lhs; whnf)); first | rfl | (simp; done))); (· first | rfl | (simp; done) | (simp [AVal.pure, AVal.pures, AObj.pure]; done)); (· rfl); (· rfl))) | (apply runk_pure rfl rfl rfl ?_ ?_ ?_ ?_ ?_ ?_ ?_ ?_; rotate_left 6; (· (conv => (lhs; whnf))); (· exact Tryz.func92); (· rfl); (· rfl); (· exact (f)); (· (repeat (first | exact Rens.nil | (refine Rens.cons ?_ ?_; (· first | exact Ren.own _ _ _ _ _ _ rfl List.mem_cons_self | exact Ren.own _ _ _ _ _ _ rfl (List.mem_cons_of_mem _ List.mem_cons_self) | (refine (Ren.own _ _ _ _ _ _ ?_ List.mem_cons_self); first | rfl | (simp; done)) | (refine (Ren.own _ _ _ _ _ _ ?_ (List.mem_cons_of_mem _ List.mem_cons_self)); first | rfl | (simp; done)) | exact Ren.ptr _ _ _ _ _ List.mem_cons_self | (refine Ren.pureR ?_ rfl; (first | rfl | (simp; done) | (simp [AVal.pure, AVal.pures, AObj.pure]; done)))))))); (· first | rfl | (simp; done) | simp [AVal.pure, AVal.pures, AObj.pure])) | (apply runk0 rfl rfl (opok_move rfl ?_) ?_; rotate_left 1; (· (conv => (lhs; whnf)))) | (apply runk0 rfl rfl (opok_assign rfl ?_) ?_; rotate_left 1; (· (conv => (lhs; whnf)))) | (apply runk0 rfl rfl (opok_bin rfl ?_ ?_ ?_) ?_; rotate_left 3; (· (conv => (lhs; whnf))); (· (conv => (lhs; whnf))); (· (intro w; go_simp; first | done | rfl))) | (apply runk0 rfl rfl (opok_conv rfl ?_ ?_) ?_; rotate_left 2; (· (conv => (lhs; whnf))); (· (intro w; go_simp; first | done | rfl))) | refine runk_end (by kernel_rfl) ?_))
  generalize Lib.decDigits i = l at *
  refine spec_of_awp Tryz.func56 rfl (Nat.le_of_ble_eq_true rfl) fun ini => ?_
  simp only [Tryz.ntmps56]
  (repeat (first | refine awp_reg_seq rfl fun k => ?_ | (refine awp_ret ?_; (apply ends_pure ?_ ?_ ?_ ?_ ?_ (.inl rfl); rotate_left 1; (· first | exact res_one rfl rfl | exact res_two rfl rfl rfl | exact res_none rfl | exact res_three rfl rfl rfl rfl | exact res_cell rfl rfl rfl rfl rfl | exact res_cell2 rfl rfl rfl rfl rfl rfl | exact res3 rfl (rv_cell rfl rfl rfl rfl) (rv_tmp rfl) (rv_tmp rfl) | exact res3 rfl (rv_cell rfl rfl rfl rfl) (rv_cell rfl rfl rfl rfl) (rv_cell rfl rfl rfl rfl)); (· first | rfl | ((conv => (lhs; whnf)); first | rfl | (simp; done))); (· first | rfl | (simp; done) | (simp [AVal.pure, AVal.pures, AObj.pure]; done)); (· rfl); (· rfl))) | (apply runk_pure rfl rfl rfl ?_ ?_ ?_ ?_ ?_ ?_ ?_ ?_; rotate_left 6; (· (conv => (lhs; whnf))); (· exact Tryz.func73); (· rfl); (· rfl); (· exact (s)); (· (repeat (first | exact Rens.nil | (refine Rens.cons ?_ ?_; (· first | exact Ren.own _ _ _ _ _ _ rfl List.mem_cons_self | exact Ren.own _ _ _ _ _ _ rfl (List.mem_cons_of_mem _ List.mem_cons_self) | (refine (Ren.own _ _ _ _ _ _ ?_ List.mem_cons_self); first | rfl | (simp; done)) | (refine (Ren.own _ _ _ _ _ _ ?_ (List.mem_cons_of_mem _ List.mem_cons_self)); first | rfl | (simp; done)) | exact Ren.ptr _ _ _ _ _ List.mem_cons_self | (refine Ren.pureR ?_ rfl; (first | rfl | (simp; done) | (simp [AVal.pure, AVal.pures, AObj.pure]; done)))))))); (· first | rfl | (simp; done) | simp [AVal.pure, AVal.pures, AObj.pure])) | (apply runk0 rfl rfl (opok_move rfl ?_) ?_; rotate_left 1; (· (conv => (lhs; whnf)))) | (apply runk0 rfl rfl (opok_assign rfl ?_) ?_; rotate_left 1; (· (conv => (lhs; whnf)))) | refine runk_end (by kernel_rfl) ?_))

end Go.Proofs.YtboddbheljenhaaGreatDoor
namespace Go.Proofs.YtboddbheljenhaaGreatDoor
open Go.RowKit
theorem pu8_dig (l : List UInt8) (n : Nat) (hl : l.length ≤ 100) (h : Lib.parseUintB 8 l = .ok n) : Spec Tryz.prog 98 [.val (bstr l), .val (.int .i64 10), .val (.int .i64 8)] [] (.tuple [.val (.int .u64 (n : Int)), .val .nilIface]) [] := by
  have s := pu8_spec l (by omega)
  unfold pu8V at s
  rw [h] at s
  exact s
theorem fmt10_dig (i : Nat) (l : List UInt8) (h : i < 100) (e : Lib.decDigits i = l) : Spec Tryz.prog 56 [.val (.int .u64 (i : Int)), .val (.int .i64 10)] [] (.val (bstr l)) [] := e ▸ fmt10_spec i h
end Go.Proofs.YtboddbheljenhaaGreatDoor
namespace Go.Proofs.YtboddbheljenhaaGreatDoor
open Go.RowKit
theorem join_nil (sep : List UInt8) : Spec Tryz.prog 89 [.val (.slice none 0 0), .val (bstr sep)] [] (.val (bstr [])) [] :=
  spec_belowV (timeless_val _) fun ψ prot w cargs hV hk hsz hargs => by
    obtain rfl := two_vals hsz hargs
    refine (Tryz.strings_Join_none none 0 ⟨sep.toArray⟩ w).mono ?_
    rintro e w' ⟨rfl, rfl⟩
    exact ⟨_, rfl, .val _, Below.refl _ _⟩
theorem join_own (ls : List (List UInt8)) (sep : List UInt8) (hN : ls.length ≤ 140737488355328) (hlen : (Lib.join ls sep).length ≤ 140737488355328) : Spec Tryz.prog 89 [.own 0 0 (strL ls).length, .val (bstr sep)] [(0, some (0, .row 9 1 (strL ls)))] (.val (bstr (Lib.join ls sep))) [(0, some (0, .row 9 1 (strL ls)))] :=
  spec_lendT (timeless_val _) (by rfl) (fun i y hi => by
    match i, hi with
    | 0, hi => cases hi; exact ⟨_, rfl, .one (.own _ rfl)⟩
    | 1, hi => cases hi; exact ⟨_, rfl, .one (.same _)⟩) (join_spec ls sep hN hlen)
def nats (xs : List Nat) : List Int := xs.map fun x : Nat => (x : Int)
end Go.Proofs.YtboddbheljenhaaGreatDoor
