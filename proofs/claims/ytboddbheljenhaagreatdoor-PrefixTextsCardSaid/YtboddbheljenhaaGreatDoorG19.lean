/-
  Layer 2: the reference's digits, of any text.
-/
import Derived.Test.YtboddbheljenhaaGreatDoorG18
import Derived.Test.YtboddbheljenhaaGreatDoorG06
import Derived.Test.YtboddbheljenhaaGreatDoorG17
namespace Go.Proofs.YtboddbheljenhaaGreatDoor
open Go.RowKit
set_option maxHeartbeats 16000000 in
set_option maxRecDepth 100000 in
theorem rdigits_spec (l : List UInt8) (hl : l.length ≤ 100000) : Spec Tryz.prog 62 [.val (bstr l)] [] (.val (.bool (canD l))) [] := by
  by_cases c : l = []
  · subst c
    have e : canD [] = false := rfl
    rw [e]
    refine spec_of_awp Tryz.func62 rfl (Nat.le_of_ble_eq_true rfl) fun ini => ?_
    simp only [Tryz.ntmps62]
    (repeat (first | refine awp_reg_seq rfl fun k => ?_ | refine awp_seq ?_ | refine awp_block ?_ | (((((apply runk0 rfl rfl (opok_slen rfl ?_ rfl) ?_; rotate_left 1; (· ((conv => (lhs; whnf)); try exact rfl))))))) | (apply runk0 rfl rfl (opok_move rfl ?_) ?_; rotate_left 1; (· (conv => (lhs; whnf)))) | (apply runk0 rfl rfl (opok_assign rfl ?_) ?_; rotate_left 1; (· (conv => (lhs; whnf)))) | refine runk_end (by kernel_rfl) ?_))
    refine awp_rounds 1 ?_
    (repeat (first | refine awp_reg_seq rfl fun k => ?_ | refine awp_seq ?_ | refine awp_false rfl ?_ | refine awp_exit (?_ : Awp _ _ _ _ _ _) | (refine awp_ret ?_; (apply ends_pure ?_ ?_ ?_ ?_ ?_ (.inl rfl); rotate_left 1; (· (exact res_one rfl rfl)); (· rfl); (· rfl); (· rfl); (· rfl))) | (((((apply runk0 rfl rfl (opok_sneq rfl ?_ ?_) ?_; rotate_left 2; (· ((conv => (lhs; whnf)); try exact rfl)); (· ((conv => (lhs; whnf)); try exact rfl))))))) | (first | refine runk_off rfl rfl rfl rfl rfl ?_ | refine runk_offU rfl rfl rfl rfl ?_) | (apply runk0 rfl rfl (opok_move rfl ?_) ?_; rotate_left 1; (· (conv => (lhs; whnf)))) | (apply runk0 rfl rfl (opok_assign rfl ?_) ?_; rotate_left 1; (· (conv => (lhs; whnf)))) | (apply runk0 rfl rfl (opok_bin rfl ?_ ?_ ?_) ?_; rotate_left 3; (· (conv => (lhs; whnf))); (· (conv => (lhs; whnf))); (· (intro w; go_simp; rfl))) | (apply runk0 rfl rfl (opok_pick rfl ?_ ?_) ?_; rotate_left 2; (· (conv => (lhs; whnf))); (· ((conv => (lhs; whnf))))) | refine runk_end (by kernel_rfl) ?_))
  · obtain ⟨y, r, hyr⟩ : ∃ y r, l = y :: r := by
      cases l with
      | nil => exact absurd rfl c
      | cons y r => exact ⟨y, r, rfl⟩
    have eC : canD l = ((r.isEmpty || y != 48) && l.all isDig) := by rw [hyr]; rfl
    have d0 : (l == []) = false := by rw [hyr]; rfl
    have hy0 : l[0]? = some y := by rw [hyr]; rfl
    have hb0 : byteAt l 0 = (y.toNat : Int) := byteAt_get hy0
    have hpos : 0 < l.length := by rw [hyr]; simp
    have e48 : (l == [48]) = (r.isEmpty && y == 48) := by
      rw [hyr]
      cases r with
      | nil => simp [List.isEmpty]
      | cons a b => simp [List.isEmpty]
    have e2 : ((y.toNat : Int) == 48) = (y == 48) := by
      rw [Bool.eq_iff_iff, beq_iff_eq, beq_iff_eq]
      constructor
      · intro h; exact UInt8.toNat_inj.1 (by have : (48 : UInt8).toNat = 48 := rfl; omega)
      · rintro rfl; rfl
    have fin : (r.isEmpty || y != 48) = (((y.toNat : Int) != 48) || (l == [48])) := by
      unfold bne
      rw [e2, e48]
      cases r.isEmpty <;> cases h : (y == 48) <;> simp [h]
    rw [fin] at eC
    have hyp : Nonempty (PLift (l = y :: r)) := ⟨⟨hyr⟩⟩
    clear c hy0 e48 e2 hyr fin
    have y256 : y.toNat < 256 := y.toNat_lt
    generalize (y.toNat : Int) = Y at *
    refine spec_of_awp Tryz.func62 rfl (Nat.le_of_ble_eq_true rfl) fun ini => ?_
    simp only [Tryz.ntmps62]
    (repeat (first | refine awp_reg_seq rfl fun k => ?_ | refine awp_seq ?_ | refine awp_block ?_ | (((((apply runk0 rfl rfl (opok_slen rfl ?_ rfl) ?_; rotate_left 1; (· ((conv => (lhs; whnf)); try exact rfl))))))) | (apply runk0 rfl rfl (opok_move rfl ?_) ?_; rotate_left 1; (· (conv => (lhs; whnf)))) | (apply runk0 rfl rfl (opok_assign rfl ?_) ?_; rotate_left 1; (· (conv => (lhs; whnf)))) | refine runk_end (by kernel_rfl) ?_))
    refine awp_loop (fun m st => ∃ i : Nat, i + m = l.length ∧ (l.take i).all isDig = true ∧ st.leB ⟨[(0, .val (bstr l)), (2, .val (.bool false)), (5, .val (.int .i64 (l.length : Int))), (6, .val (.int .i64 (i : Int)))], []⟩) l.length ⟨0, by omega, rfl, by (refine leB_of ?_ ?_; (· (repeat (first | exact EnvIs.nil | (refine EnvIs.cons ?_ ?_; (· rfl))))); (· (repeat ((exact ObjsAre.nil)))))⟩ ?_
    rintro m st ⟨i, him, hall, hle⟩
    refine awp_less hle ?_
    clear hle st
    have wi : IntKind.i64.wrap ((i : Int) + 1) = ((i + 1 : Nat) : Int) := by rw [IntKind.wrap_i64]; omega
    obtain ⟨j, hj⟩ : ∃ j, i + 1 = j := ⟨_, rfl⟩
    rw [hj] at wi
    (repeat (first | refine awp_reg_seq rfl fun k => ?_ | refine awp_seq ?_ | (apply runk0 rfl rfl (opok_bin rfl ?_ ?_ ?_) ?_; rotate_left 3; (· (conv => (lhs; whnf))); (· (conv => (lhs; whnf))); (· (intro w; go_simp; first | done | rfl))) | refine runk_end (by kernel_rfl) ?_))
    refine awp_if rfl (fun hc => ?_) (fun hc => ?_)
    · have hil : i < l.length := by simp at hc; omega
      clear hc
      obtain ⟨x, hx⟩ : ∃ x, l[i]? = some x := ⟨_, List.getElem?_eq_getElem hil⟩
      have hb := byteAt_get hx
      have x256 : x.toNat < 256 := x.toNat_lt
      clear hb0 hpos
      by_cases a1 : x.toNat < 48
      · have hd : isDig x = false := by unfold isDig; simp; omega
        have d1 : decide ((x.toNat : Int) < 48) = true := decide_eq_true (by omega)
        have d1' : decide (x.toNat < 48) = true := decide_eq_true a1
        rw [dig_no_all hx hd] at eC
        try rw [Bool.and_false] at eC
        rw [eC]
        generalize (x.toNat : Int) = X at *
        (repeat (first | refine awp_reg_seq rfl fun k => ?_ | refine awp_seq ?_ | refine awp_true rfl ?_ | refine awp_skip (?_ : Awp _ _ _ _ _ _) | refine awp_block ?_ | (refine awp_ret ?_; (apply ends_pure ?_ ?_ ?_ ?_ ?_ (.inl rfl); rotate_left 1; (· (exact res_one rfl rfl)); (· rfl); (· rfl); (· rfl); (· rfl))) | (((((apply runk0 rfl rfl (opok_sindex rfl ?_ ?_ rfl ?_ ?_) ?_; rotate_left 3; (· ((conv => (lhs; whnf)); try exact rfl)); (· (conv => (lhs; whnf))); (· omega); (· omega)))))) | ((refine runk_off rfl rfl rfl rfl rfl ?_)) | (apply runk0 rfl rfl (opok_move rfl ?_) ?_; rotate_left 1; (· (conv => (lhs; whnf)))) | (apply runk0 rfl rfl (opok_assign rfl ?_) ?_; rotate_left 1; (· (conv => (lhs; whnf)))) | (apply runk0 rfl rfl (opok_bin rfl ?_ ?_ ?_) ?_; rotate_left 3; (· (conv => (lhs; whnf))); (· (conv => (lhs; whnf))); (· (intro w; go_simp; rfl))) | (apply runk0 rfl rfl (opok_pick rfl ?_ ?_) ?_; rotate_left 2; (· (conv => (lhs; whnf))); (· ((conv => (lhs; whnf))))) | refine runk_end (by kernel_rfl) ?_))
      · by_cases a2 : 57 < x.toNat
        · have hd : isDig x = false := by unfold isDig; simp; omega
          have d1 : decide ((x.toNat : Int) < 48) = false := decide_eq_false (by omega)
          have d2 : decide (57 < (x.toNat : Int)) = true := decide_eq_true (by omega)
          have d3 : decide ((x.toNat : Int) > 57) = true := decide_eq_true (by omega)
          rw [dig_no_all hx hd] at eC
          try rw [Bool.and_false] at eC
          rw [eC]
          generalize (x.toNat : Int) = X at *
          (repeat (first | refine awp_reg_seq rfl fun k => ?_ | refine awp_seq ?_ | refine awp_true rfl ?_ | refine awp_skip (?_ : Awp _ _ _ _ _ _) | refine awp_block ?_ | (refine awp_ret ?_; (apply ends_pure ?_ ?_ ?_ ?_ ?_ (.inl rfl); rotate_left 1; (· (exact res_one rfl rfl)); (· rfl); (· rfl); (· rfl); (· rfl))) | (((((apply runk0 rfl rfl (opok_sindex rfl ?_ ?_ rfl ?_ ?_) ?_; rotate_left 3; (· ((conv => (lhs; whnf)); try exact rfl)); (· (conv => (lhs; whnf))); (· omega); (· omega)))))) | (((((apply runk_guard rfl rfl ?_ rfl ?_ ?_; rotate_left 3; (· (conv => (lhs; whnf))); (· (intro hb; (try rw [hb]); apply opok_sindex rfl ?_ ?_ rfl ?_ ?_; rotate_left 3; (· ((conv => (lhs; whnf)); try exact rfl)); (· (conv => (lhs; whnf))); (· omega); (· omega)))))))) | ((refine runk_ung rfl rfl rfl rfl ?_)) | (apply runk0 rfl rfl (opok_move rfl ?_) ?_; rotate_left 1; (· (conv => (lhs; whnf)))) | (apply runk0 rfl rfl (opok_assign rfl ?_) ?_; rotate_left 1; (· (conv => (lhs; whnf)))) | (apply runk0 rfl rfl (opok_bin rfl ?_ ?_ ?_) ?_; rotate_left 3; (· (conv => (lhs; whnf))); (· (conv => (lhs; whnf))); (· (intro w; go_simp; rfl))) | (apply runk0 rfl rfl (opok_pick rfl ?_ ?_) ?_; rotate_left 2; (· (conv => (lhs; whnf))); (· (exact pick_or))) | refine runk_end (by kernel_rfl) ?_))
        · have hd : isDig x = true := by unfold isDig; simp; omega
          have hstep := dig_step hx hd hall
          rw [hj] at hstep
          have d1 : decide ((x.toNat : Int) < 48) = false := decide_eq_false (by omega)
          have d2 : decide (57 < (x.toNat : Int)) = false := decide_eq_false (by omega)
          have d3 : decide ((x.toNat : Int) > 57) = false := decide_eq_false (by omega)
          generalize (x.toNat : Int) = X at *
          (repeat (first | refine awp_reg_seq rfl fun k => ?_ | refine awp_reg rfl fun k => ?_ | refine awp_seq ?_ | refine awp_false rfl ?_ | refine awp_skip (?_ : Awp _ _ _ _ _ _) | refine awp_block ?_ | (((((apply runk0 rfl rfl (opok_sindex rfl ?_ ?_ rfl ?_ ?_) ?_; rotate_left 3; (· ((conv => (lhs; whnf)); try exact rfl)); (· (conv => (lhs; whnf))); (· omega); (· omega)))))) | (((((apply runk_guard rfl rfl ?_ rfl ?_ ?_; rotate_left 3; (· (conv => (lhs; whnf))); (· (intro hb; (try rw [hb]); apply opok_sindex rfl ?_ ?_ rfl ?_ ?_; rotate_left 3; (· ((conv => (lhs; whnf)); try exact rfl)); (· (conv => (lhs; whnf))); (· omega); (· omega)))))))) | ((refine runk_ung rfl rfl rfl rfl ?_)) | (apply runk0 rfl rfl (opok_move rfl ?_) ?_; rotate_left 1; (· (conv => (lhs; whnf)))) | (apply runk0 rfl rfl (opok_assign rfl ?_) ?_; rotate_left 1; (· (conv => (lhs; whnf)))) | (apply runk0 rfl rfl (opok_bin rfl ?_ ?_ ?_) ?_; rotate_left 3; (· (conv => (lhs; whnf))); (· (conv => (lhs; whnf))); (· (intro w; go_simp; rfl))) | (apply runk0 rfl rfl (opok_pick rfl ?_ ?_) ?_; rotate_left 2; (· (conv => (lhs; whnf))); (· (exact pick_or))) | refine runk_end (by kernel_rfl) ?_))
          exact ⟨l.length - j, by omega, j, by omega, hstep, by (refine leB_of ?_ ?_; (· (repeat (first | exact EnvIs.nil | (refine EnvIs.cons ?_ ?_; (· rfl))))); (· (repeat ((exact ObjsAre.nil)))))⟩
    · have hil : i = l.length := by simp at hc; omega
      subst hil
      rw [List.take_length] at hall
      rw [hall, Bool.and_true] at eC
      rw [eC]
      clear hc eC wi him hj hl
      obtain ⟨⟨hyr⟩⟩ := hyp
      subst hyr
      (repeat (first | refine awp_reg_seq rfl fun k => ?_ | refine awp_exit (?_ : Awp _ _ _ _ _ _) | (refine awp_ret ?_; (apply ends_pure ?_ ?_ ?_ ?_ ?_ (.inl rfl); rotate_left 1; (· (exact res_one rfl rfl)); (· rfl); (· rfl); (· rfl); (· rfl))) | (((((apply runk0 rfl rfl (opok_sneq rfl ?_ ?_) ?_; rotate_left 2; (· ((conv => (lhs; whnf)); try exact rfl)); (· ((conv => (lhs; whnf)); try exact rfl))))))) | (((first | (apply runk_guard rfl rfl ?_ rfl ?_ ?_; rotate_left 3; (· (conv => (lhs; whnf))); (· (intro hb; (try rw [hb]); apply opok_seql rfl ?_ ?_; rotate_left 2; (· ((conv => (lhs; whnf)); try exact rfl)); (· ((conv => (lhs; whnf)); try exact rfl))))) | (apply runk_guard rfl rfl ?_ rfl ?_ ?_; rotate_left 3; (· (conv => (lhs; whnf))); (· (intro hb; (try rw [hb]); apply opok_sindex rfl ?_ ?_ rfl ?_ ?_; rotate_left 3; (· ((conv => (lhs; whnf)); try exact rfl)); (· (conv => (lhs; whnf))); (· omega); (· omega))))))) | ((refine runk_ung rfl rfl rfl rfl ?_)) | (apply runk0 rfl rfl (opok_move rfl ?_) ?_; rotate_left 1; (· (conv => (lhs; whnf)))) | (apply runk0 rfl rfl (opok_assign rfl ?_) ?_; rotate_left 1; (· (conv => (lhs; whnf)))) | (apply runk0 rfl rfl (opok_bin rfl ?_ ?_ ?_) ?_; rotate_left 3; (· (conv => (lhs; whnf))); (· (conv => (lhs; whnf))); (· (intro w; go_simp; rfl))) | (apply runk_guard rfl rfl ?_ rfl ?_ ?_; rotate_left 3; (· (conv => (lhs; whnf))); (· (intro hb; (try rw [hb]); apply opok_move rfl ?_; rotate_left 1; (· (conv => (lhs; whnf)))))) | (apply runk0 rfl rfl (opok_pick rfl ?_ ?_) ?_; rotate_left 2; (· (conv => (lhs; whnf))); (· first | exact pick_or | exact pick_and)) | refine runk_end (by kernel_rfl) ?_))
end Go.Proofs.YtboddbheljenhaaGreatDoor
namespace Go.Proofs.YtboddbheljenhaaGreatDoor
open Go.RowKit Go.Sort
def atoiV (l : List UInt8) (t : TypeId) : AVal := match Lib.atoiAll l with
  | .ok v => .tuple [.val (.int .i64 v), .val .nilIface]
  | .syntax => .tuple [.val (.int .i64 0), .ifc t]
  | .range => .tuple [.val (.int .i64 (Lib.atoiSat l)), .ifc t]
theorem atoi_spec (l : List UInt8) (hl : l.length ≤ 281474976710656) : Spec Tryz.prog 60 [.val (bstr l)] [] (atoiV l 128) [] := by
  have hsz : (⟨l.toArray⟩ : ByteArray).size = l.length := rfl
  unfold atoiV
  cases h : Lib.atoiAll l with
  | ok v =>
    exact spec_belowV (timeless_two (timeless_val _) (timeless_val _)) fun ψ prot w cargs hV hk hs hargs => by
      obtain rfl := one_arg hs hargs
      refine (Tryz.strconv_Atoi_ok ⟨l.toArray⟩ (by rw [hsz]; omega) v h w).mono ?_
      rintro e w' ⟨rfl, hw⟩
      refine ⟨_, rfl, vrel_two (.val _) (.val _), ?_⟩
      rcases hw with rfl | ⟨t, rfl⟩
      · exact Below.refl _ _
      · exact Lib.bytesWorld_below w _ t
  | «syntax» =>
    exact spec_belowV (timeless_two (timeless_val _) (timeless_ifc _)) fun ψ prot w cargs hV hk hs hargs => by
      obtain rfl := one_arg hs hargs
      obtain ⟨tp, p, hv⟩ := vars_syntax hV
      refine (Tryz.strconv_Atoi_syntax_var ⟨l.toArray⟩ (by rw [hsz]; exact hl) h tp p w hv).mono ?_
      rintro e w' ⟨N, rfl, -, -, hb⟩
      exact ⟨_, rfl, vrel_two (.val _) (.ifc _ _), hb⟩
  | range =>
    exact spec_belowV (timeless_two (timeless_val _) (timeless_ifc _)) fun ψ prot w cargs hV hk hs hargs => by
      obtain rfl := one_arg hs hargs
      obtain ⟨tp, p, hv⟩ := vars_range hV
      refine (Tryz.strconv_Atoi_range_var ⟨l.toArray⟩ (by rw [hsz]; exact hl) h tp p w hv).mono ?_
      rintro e w' ⟨N, rfl, -, -, hb⟩
      exact ⟨_, rfl, vrel_two (.val _) (.ifc _ _), hb⟩
end Go.Proofs.YtboddbheljenhaaGreatDoor
namespace Go.Proofs.YtboddbheljenhaaGreatDoor
open Go.RowKit
def bitA (v : Bool) (hi lo : Int) (i : Nat) : Int := if v = true then (if i < 64 then bitZ hi (63 - i) else bitZ lo (127 - i)) else bitZ lo (31 - i)
theorem bitZ_rng (x : Int) (b : Nat) : 0 ≤ bitZ x b ∧ bitZ x b < 2 := by unfold bitZ; omega
set_option maxHeartbeats 4000000 in
set_option maxRecDepth 100000 in
theorem pvalid_in (v : Bool) (hi lo n : Int) (hv : okA' v hi lo = true) (h0 : 0 ≤ hi) (h1 : hi < 18446744073709551616) (g0 : 0 ≤ lo) (g1 : lo < 18446744073709551616) (n0 : 0 ≤ n) (n1 : n ≤ (wiN v : Int)) : Spec Tryz.prog 13 [.agg [.val (.bool v), .val (.int .u64 hi), .val (.int .u64 lo), .val (.int .i64 n)]] [] (.val (.bool (eqQ v hi lo v (fstH v hi n) (fstL v lo n)))) [] := by
  have va := avalid_spec v hi lo
  rw [hv] at va
  have w := width_spec v hi lo
  have f := first_spec v hi lo n h0 h1 g0 g1
  have d1 : decide (n ≥ 0) = true := decide_eq_true n0
  have d2 : decide (n ≤ (wiN v : Int)) = true := decide_eq_true n1
  generalize fstH v hi n = FH at *
  generalize fstL v lo n = FL at *
  generalize (wiN v : Int) = W at *
  refine spec_of_awp Tryz.func13 rfl (Nat.le_of_ble_eq_true rfl) fun ini => ?_
  simp only [Tryz.ntmps13]
  (repeat (first | refine awp_reg_seq rfl fun k => ?_ | (refine awp_ret ?_; (apply ends_pure ?_ ?_ ?_ ?_ ?_ (.inl rfl); rotate_left 1; (· (exact res_one rfl rfl)); (· rfl); (· rfl); (· rfl); (· rfl))) | (apply runk_pure rfl rfl rfl ?_ ?_ ?_ ?_ ?_ ?_ ?_ ?_; rotate_left 6; (· (conv => (lhs; whnf))); (· exact Tryz.func41); (· rfl); (· rfl); (· exact (va)); (· (repeat (first | exact Rens.nil | (refine Rens.cons ?_ ?_; (· ((refine Ren.pureR ?_ rfl; (rfl)))))))); (· rfl)) | (apply runk_guard rfl rfl ?_ rfl ?_ ?_; rotate_left 3; (· (conv => (lhs; whnf))); (· (intro hb; (try rw [hb]); apply opok_pure rfl ?_ ?_ ?_ ?_ ?_ ?_ ?_; rotate_left 6; (· (conv => (lhs; whnf))); (· exact Tryz.func42); (· rfl); (· rfl); (· exact (w)); (· (repeat (first | exact Rens.nil | (refine Rens.cons ?_ ?_; (· ((refine Ren.pureR ?_ rfl; (rfl)))))))); (· rfl)))) | (apply runk_guard rfl rfl ?_ rfl ?_ ?_; rotate_left 3; (· (conv => (lhs; whnf))); (· (intro hb; (try rw [hb]); apply opok_pure rfl ?_ ?_ ?_ ?_ ?_ ?_ ?_; rotate_left 6; (· (conv => (lhs; whnf))); (· exact Tryz.func43); (· rfl); (· rfl); (· exact (f)); (· (repeat (first | exact Rens.nil | (refine Rens.cons ?_ ?_; (· ((refine Ren.pureR ?_ rfl; (rfl)))))))); (· rfl)))) | (((((apply runk_guard rfl rfl ?_ rfl ?_ ?_; rotate_left 3; (· (conv => (lhs; whnf))); (· (intro hb; (try rw [hb]); apply opok_eqQd rfl ?_ ?_; rotate_left 6; (· ((conv => (lhs; whnf)); try exact rfl)); (· ((conv => (lhs; whnf)); try exact rfl))))))))) | ((refine runk_ung rfl rfl rfl rfl ?_)) | (apply runk0 rfl rfl (opok_move rfl ?_) ?_; rotate_left 1; (· (conv => (lhs; whnf)))) | (apply runk0 rfl rfl (opok_assign rfl ?_) ?_; rotate_left 1; (· (conv => (lhs; whnf)))) | (apply runk_fa rfl rfl rfl ?_ rfl rfl ?_ ?_ ?_ ?_; rotate_left 5; (· (conv => (lhs; whnf))); (· (unfold sizeIs; conv => (lhs; whnf; arg 1; whnf))); (· rfl); (· (conv => (lhs; whnf)))) | (((apply runk0 rfl rfl (opok_load rfl ?_ ?_ ?_ ?_) ?_; rotate_left 5; (· (conv => (lhs; whnf))); (· (conv => (lhs; whnf; arg 1; whnf; arg 2; whnf))); (· rfl); (· (conv => (lhs; whnf; arg 1; whnf)))))) | (apply runk0 rfl rfl (opok_loadA rfl ?_ ?_ ?_ ?_ ?_ ?_) ?_; rotate_left 6; (· (conv => (lhs; whnf))); (· (conv => (lhs; whnf; arg 1; whnf; arg 2; whnf))); (· rfl); (· (unfold sizeIs; conv => (lhs; whnf; arg 1; whnf))); (· (conv => (lhs; repeat (whnf; arg 2)))); (· rfl)) | (apply runk0 rfl rfl (opok_bin rfl ?_ ?_ ?_) ?_; rotate_left 3; (· (conv => (lhs; whnf))); (· (conv => (lhs; whnf))); (· (intro w; go_simp; rfl))) | (apply runk0 rfl rfl (opok_pick rfl ?_ ?_) ?_; rotate_left 2; (· (conv => (lhs; whnf))); (· (exact pick_and))) | (apply runk_box rfl rfl rfl ?_ ?_ ?_ ?_; rotate_left 2; (· (conv => (lhs; whnf))); (· rfl); (· (conv => (lhs; whnf)))) | refine runk_end (by kernel_rfl) ?_))
theorem pvalid_ok (v : Bool) (hi lo n : Int) (hv : okA' v hi lo = true) (h0 : 0 ≤ hi) (h1 : hi < 18446744073709551616) (g0 : 0 ≤ lo) (g1 : lo < 18446744073709551616) (n0 : 0 ≤ n) (n1 : n ≤ (wiN v : Int)) (eh : fstH v hi n = hi) (el : fstL v lo n = lo) : Spec Tryz.prog 13 [.agg [.val (.bool v), .val (.int .u64 hi), .val (.int .u64 lo), .val (.int .i64 n)]] [] (.val (.bool true)) [] := by
  have s := pvalid_in v hi lo n hv h0 h1 g0 g1 n0 n1
  rw [eh, el, show eqQ v hi lo v hi lo = true by simp [eqQ]] at s
  exact s
end Go.Proofs.YtboddbheljenhaaGreatDoor
namespace Go.Proofs.YtboddbheljenhaaGreatDoor
open Go.RowKit
theorem fstH_idem (v : Bool) (hi n : Int) : fstH v (fstH v hi n) n = fstH v hi n := cutZ_idem _ _
theorem fstL_idem (v : Bool) (lo n : Int) : fstL v (fstL v lo n) n = fstL v lo n := cutZ_idem _ _
theorem cl_of {v : Bool} {N : Nat} (h : N ≤ wiN v) : clN v (N : Int) = N := by have := clN_in v (N : Int) (by omega) (by omega); omega
theorem okA_of {v : Bool} {hi lo : Int} (h : AOk v hi lo) : okA' v hi lo = true := by
  obtain ⟨h0, h1, h2, h3, h4⟩ := h
  unfold okA'
  cases v with
  | true => rfl
  | false =>
    obtain ⟨rfl, h5⟩ := h4 rfl
    simp; omega
theorem aok_first {v : Bool} {hi lo : Int} (n : Int) (h : AOk v hi lo) : AOk v (fstH v hi n) (fstL v lo n) := by
  obtain ⟨h0, h1, h2, h3, h4⟩ := h
  have a := cutZ_bd (khN v (clN v n)) h0
  have b := cutZ_bd (klN v (clN v n)) h2
  refine ⟨a.1, by unfold fstH; omega, b.1, by unfold fstL; omega, fun hv => ?_⟩
  obtain ⟨rfl, h5⟩ := h4 hv
  unfold fstH fstL
  omega
end Go.Proofs.YtboddbheljenhaaGreatDoor
