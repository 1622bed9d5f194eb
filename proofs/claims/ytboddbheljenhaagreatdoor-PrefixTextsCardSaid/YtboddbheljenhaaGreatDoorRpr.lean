/-
  The reference's Print of an address (ref01.Print).
-/
import Derived.Test.YtboddbheljenhaaGreatDoorRpt
import Derived.Test.YtboddbheljenhaaGreatDoorBz
import Derived.Test.YtboddbheljenhaaGreatDoorFmt16
import Derived.Test.YtboddbheljenhaaGreatDoorG04
namespace Go.Proofs.YtboddbheljenhaaGreatDoor
open Go.RowKit
theorem a16_get (hi lo : Nat) (i : Nat) (h : i < 8) : (a16 (hi : Int) (lo : Int))[2 * i]? = some (((grps hi lo).getD i 1 / 256 : Nat) : Int) ∧ (a16 (hi : Int) (lo : Int))[2 * i + 1]? = some (((grps hi lo).getD i 1 % 256 : Nat) : Int) := by
  have : i = 0 ∨ i = 1 ∨ i = 2 ∨ i = 3 ∨ i = 4 ∨ i = 5 ∨ i = 6 ∨ i = 7 := by omega
  rcases this with rfl | rfl | rfl | rfl | rfl | rfl | rfl | rfl <;> simp [a16, by8, grps, List.range, List.range.loop] <;> omega
theorem suffix_spec (l p : List UInt8) (hl : l.length ≤ 9223372036854775807) : Spec Tryz.prog 55 [.val (bstr l), .val (bstr p)] [] (.val (.bool (Lib.hasSuffix l p))) [] :=
  spec_belowV (timeless_val _) fun ψ prot w cargs hV hk hsz hargs => by
    obtain rfl := two_vals hsz hargs
    refine (Tryz.strings_HasSuffix ⟨l.toArray⟩ ⟨p.toArray⟩ w hl).mono ?_
    rintro e w' ⟨rfl, rfl⟩
    exact ⟨_, rfl, .val _, Below.refl _ _⟩
theorem zr_get {xs : List Nat} {t x : Nat} (h : xs[t]? = some x) : zr (xs.drop t) = if x = 0 then zr (xs.drop (t + 1)) + 1 else 0 := by
  have ht : t < xs.length := by
    rcases Nat.lt_or_ge t xs.length with h' | h'
    · exact h'
    · rw [List.getElem?_eq_none h'] at h; cases h
  rw [List.getElem?_eq_getElem ht] at h
  rw [List.drop_eq_getElem_cons ht, Option.some.inj h, zr]
theorem or8n (a b r : Nat) (h2 : a < 256) (h4 : b < 256) (hr : r = a * 256 + b) : bits .or .u64 ((a : Int) * 256) (b : Int) = (r : Int) := by
  have e := bits_or_u64_nat (a * 256) b (by omega) (by omega)
  rw [show ((a * 256 : Nat) : Int) = (a : Int) * 256 by omega] at e
  rw [e, hr]
  congr 1
  have h := Nat.two_pow_add_eq_or_of_lt (i := 8) (b := b) (by simpa using h4) a
  rw [show (2 : Nat) ^ 8 = 256 by decide] at h
  rw [Nat.mul_comm a 256, ← h]
theorem pst_len {xs : List Nat} (h8 : xs.length = 8) (hb : ∀ x ∈ xs, x < 65536) (F Z i : Nat) : (pst xs F Z i).length ≤ 100 := by
  unfold pst
  split
  · have h1 := hexJ_len (xs.take i) fun x hx => hb x (List.mem_of_mem_take hx)
    rw [List.length_take] at h1
    omega
  · have h1 := hexJ_len (xs.take F) fun x hx => hb x (List.mem_of_mem_take hx)
    have h2 := hexJ_len ((xs.drop (F + Z)).take (i - F - Z)) fun x hx => hb x (List.mem_of_mem_drop (List.mem_of_mem_take hx))
    rw [List.length_take] at h1 h2
    rw [List.length_drop] at h2
    simp only [List.length_append, List.length_cons, List.length_nil]
    omega
set_option maxHeartbeats 16000000 in
set_option maxRecDepth 100000 in
theorem rprint_six (H L : Nat) : Spec Tryz.prog 36 [.agg [.val (.bool true), .val (.int .u64 (H : Int)), .val (.int .u64 (L : Int))]] [] (.val (bstr (p6 (grps H L)))) [] := by
  have by' := rbytes_v6 (H : Int) (L : Int)
  have hBl : (a16 (H : Int) (L : Int)).length = 16 := by simp [a16, by8]
  have hB := a16_get H L
  have h8 := grps_len H L
  have hlt := grps_lt H L
  have hP := pst_p6 h8
  have hR := rls_lrs (grps H L) 8
  have hPl := pst_len h8 hlt
  generalize a16 (H : Int) (L : Int) = B at *
  generalize hXS : grps H L = XS at *
  clear hXS
  have hx : ∀ i, i < 8 → ∃ x, XS[i]? = some x ∧ x < 65536 ∧ XS.getD i 1 = x := fun i hi => by
    refine ⟨XS[i]'(by omega), List.getElem?_eq_getElem (by omega), hlt _ (List.getElem_mem _), ?_⟩
    rw [List.getD_eq_getElem?_getD, List.getElem?_eq_getElem (by omega)]
    rfl
  have z8 : zr (XS.drop 8) = 0 := by rw [List.drop_of_length_le (by omega)]; rfl
  have hzl : ∀ i, zr (XS.drop i) ≤ 8 - i := fun i => by have := zr_le (XS.drop i); rw [List.length_drop] at this; omega
  have hrb := rls_bd XS
  have hru : ∀ i, i ≤ 8 → (rls XS i).2 ≤ 8 ∧ (rls XS i).1 ≤ 8 := fun i hi => by
    have h := lrs_bd XS h8 i hi
    rcases rls_lrs XS i with ⟨-, e⟩ | ⟨-, e⟩
    · rw [e]; exact ⟨by decide, by decide⟩
    · rw [e]
      dsimp only
      omega
  refine spec_of_awp Tryz.func36 rfl (Nat.le_of_ble_eq_true rfl) fun ini => ?_
  simp only [Tryz.ntmps36]
  (repeat (first | refine awp_reg_seq rfl fun k => ?_ | refine awp_seq ?_ | refine awp_false rfl ?_ | refine awp_skip (?_ : Awp _ _ _ _ _ _) | refine awp_block ?_ | (apply runk_made rfl rfl rfl ?_ ?_ ?_ ?_ ?_ ?_ ?_ ?_ ?_; rotate_left 8; (· (conv => (lhs; whnf))); (· exact Tryz.func46); (· rfl); (· rfl); (· exact (by')); (· (repeat (first | exact Rens.nil | (refine Rens.cons ?_ ?_; (· ((refine Ren.pureR ?_ rfl; (rfl)))))))); (· (exact .one (.own _ _ _ _ _ _ rfl List.mem_cons_self))); (· (simp [AVal.pure, AVal.pures, AObj.pure]))) | (apply runk0 rfl rfl (opok_move rfl ?_) ?_; rotate_left 1; (· (conv => (lhs; whnf)))) | (apply runk_assignOwn rfl rfl rfl ?_ ?_ ?_; rotate_left 4; (· (conv => (lhs; whnf))); (· (conv => (lhs; whnf; arg 1; whnf)))) | (apply runk0 rfl rfl (opok_assign rfl ?_) ?_; rotate_left 1; (· (conv => (lhs; whnf)))) | (apply runk_fa rfl rfl rfl ?_ rfl rfl ?_ ?_ ?_ ?_; rotate_left 5; (· (conv => (lhs; whnf))); (· (unfold sizeIs; conv => (lhs; whnf; arg 1; whnf))); (· rfl); (· (conv => (lhs; whnf)))) | (((apply runk0 rfl rfl (opok_load rfl ?_ ?_ ?_ ?_) ?_; rotate_left 5; (· (conv => (lhs; whnf))); (· (conv => (lhs; whnf; arg 1; whnf; arg 2; whnf))); (· rfl); (· (conv => (lhs; whnf; arg 1; whnf)))))) | (apply runk0 rfl rfl (opok_loadA rfl ?_ ?_ ?_ ?_ ?_ ?_) ?_; rotate_left 6; (· (conv => (lhs; whnf))); (· (conv => (lhs; whnf; arg 1; whnf; arg 2; whnf))); (· rfl); (· (unfold sizeIs; conv => (lhs; whnf; arg 1; whnf))); (· (conv => (lhs; repeat (whnf; arg 2)))); (· rfl)) | (apply runk0 rfl rfl (opok_bin rfl ?_ ?_ ?_) ?_; rotate_left 3; (· (conv => (lhs; whnf))); (· (conv => (lhs; whnf))); (· (intro w; go_simp; rfl))) | (apply runk0 rfl rfl (opok_un rfl ?_ ?_) ?_; rotate_left 2; (· (conv => (lhs; whnf))); (· (intro w; go_simp; rfl))) | (((apply runk0 rfl rfl (opok_lenO rfl ?_ ?_ ?_) ?_; rotate_left 5; (· (conv => (lhs; whnf))); (· (conv => (lhs; whnf; arg 1; whnf))); (· rfl)))) | (apply runk_box rfl rfl rfl ?_ ?_ ?_ ?_; rotate_left 2; (· (conv => (lhs; whnf))); (· rfl); (· (conv => (lhs; whnf)))) | refine runk_end (by kernel_rfl) ?_))
  rename_i k0 k1 k2 k4 k6
  refine awp_less (st' := ⟨[(3, .own 3 k1 16), (4, .val (.int .i64 (-1))), (5, .val (.int .i64 1)), (44, .val (.int .i64 0))], [(3, some (k1, .row 5 1 (ints .u8 B)))]⟩) (by (refine leB_of ?_ ?_; (· (repeat (first | exact EnvIs.nil | (refine EnvIs.cons ?_ ?_; (· rfl))))); (· (repeat (first | exact ObjsAre.nil | (refine ObjsAre.cons ?_ ?_; (· rfl))))))) ?_
  (refine awp_frz 3 _ (ints .u8 B) ([(3, .ro (ints .u8 B)), (4, .val (.int .i64 (-1))), (5, .val (.int .i64 1)), (44, .val (.int .i64 0))]) ([]) rfl ?_ ?_ ?_; (· (repeat (first | exact EnvFrz.nil | (refine EnvFrz.cons rfl ?_ ?_; (· first | exact .one (.same _) | (refine .one (.own _ ?_); ((simp only [length_ints]; omega)))))))); (· (repeat ((exact ObjsFrz.nil)))))
  clear by'
  refine awp_loop (fun m st => ∃ i : Nat, i + m = 8 ∧ st.leB ⟨[(3, .ro (ints .u8 B)), (4, .val (.int .i64 (rls XS i).1)), (5, .val (.int .i64 ((rls XS i).2 : Int))), (44, .val (.int .i64 (i : Int)))], []⟩) 8 ⟨0, by omega, by (refine leB_of ?_ ?_; (· (repeat (first | exact EnvIs.nil | (refine EnvIs.cons ?_ ?_; (· rfl))))); (· (repeat ((exact ObjsAre.nil)))))⟩ ?_
  rintro m st ⟨i, him, hle⟩
  refine awp_less hle ?_
  clear hle st
  have wi : IntKind.i64.wrap ((i : Int) + 1) = ((i + 1 : Nat) : Int) := by rw [IntKind.wrap_i64]; omega
  obtain ⟨j, hj⟩ : ∃ j, i + 1 = j := ⟨_, rfl⟩
  rw [hj] at wi
  (repeat (first | refine awp_reg_seq rfl fun k => ?_ | refine awp_seq ?_ | (apply runk0 rfl rfl (opok_bin rfl ?_ ?_ ?_) ?_; rotate_left 3; (· (conv => (lhs; whnf))); (· (conv => (lhs; whnf))); (· (intro w; go_simp; first | done | rfl))) | refine runk_end (by kernel_rfl) ?_))
  refine awp_if rfl (fun hc => ?_) (fun hc => ?_)
  · have hi8 : i < 8 := by simp at hc; omega
    clear hc
    have hrj : rls XS j = if zr (XS.drop i) > (rls XS i).2 then ((i : Int), zr (XS.drop i)) else rls XS i := by subst hj; rfl
    have hr1 := (hrb i).1
    have hr2 := (hru i (by omega)).1
    generalize hri : rls XS i = P at *
    obtain ⟨at1, mo⟩ := P
    dsimp only at *
    clear hri
    (repeat (first | refine awp_reg_seq rfl fun k => ?_ | refine awp_seq ?_ | refine awp_skip (?_ : Awp _ _ _ _ _ _) | refine awp_block ?_ | (apply runk0 rfl rfl (opok_move rfl ?_) ?_; rotate_left 1; (· (conv => (lhs; whnf)))) | (apply runk0 rfl rfl (opok_assign rfl ?_) ?_; rotate_left 1; (· (conv => (lhs; whnf)))) | refine runk_end (by kernel_rfl) ?_))
    refine awp_loop (fun m st => ∃ n : Nat, n + m = 8 ∧ n + zr (XS.drop (i + n)) = zr (XS.drop i) ∧ st.leB ⟨[(3, .ro (ints .u8 B)), (4, .val (.int .i64 at1)), (5, .val (.int .i64 (mo : Int))), (44, .val (.int .i64 (i : Int))), (6, .val (.int .i64 (i : Int))), (7, .val (.int .i64 (n : Int)))], []⟩) 8 ⟨0, by omega, by simp, by (refine leB_of ?_ ?_; (· (repeat (first | exact EnvIs.nil | (refine EnvIs.cons ?_ ?_; (· rfl))))); (· (repeat ((exact ObjsAre.nil)))))⟩ ?_
    rintro m' st ⟨n, hnm, hnz, hle⟩
    refine awp_less hle ?_
    clear hle st
    have hz1 := hzl i
    obtain ⟨t, ht⟩ : ∃ t, i + n = t := ⟨_, rfl⟩
    have wt : IntKind.i64.wrap ((i : Int) + (n : Int)) = (t : Int) := by rw [IntKind.wrap_i64]; omega
    rw [ht] at hnz
    obtain ⟨n', hn'⟩ : ∃ n', n + 1 = n' := ⟨_, rfl⟩
    have wn : IntKind.i64.wrap ((n : Int) + 1) = (n' : Int) := by rw [IntKind.wrap_i64]; omega
    obtain ⟨t2, ht2⟩ : ∃ t2, 2 * t = t2 := ⟨_, rfl⟩
    obtain ⟨t3, ht3⟩ : ∃ t3, t2 + 1 = t3 := ⟨_, rfl⟩
    have wt2 : IntKind.i64.wrap (2 * (t : Int)) = (t2 : Int) := by rw [IntKind.wrap_i64]; omega
    have wt3 : IntKind.i64.wrap ((t2 : Int) + 1) = (t3 : Int) := by rw [IntKind.wrap_i64]; omega
    by_cases ht8 : t < 8
    · have dt1 : decide ((t : Int) < 8) = true := decide_eq_true (by omega)
      have dt2 : decide (t < 8) = true := decide_eq_true ht8
      obtain ⟨x, hxg, hxl, hxd⟩ := hx t ht8
      obtain ⟨b1, b2⟩ := hB t ht8
      rw [hxd, ht2] at b1 b2
      rw [ht3] at b2
      have hX : (ints .u8 B)[t2]? = some (.val (.int .u8 ((x / 256 : Nat) : Int))) := by rw [ints_get, b1]; rfl
      have hY : (ints .u8 B)[t3]? = some (.val (.int .u8 ((x % 256 : Nat) : Int))) := by rw [ints_get, b2]; rfl
      have hzt := zr_get hxg
      have ht16 : t2 < 16 := by omega
      have hu16 : t3 < 16 := by omega
      by_cases hz : x = 0
      · subst hz
        rw [if_pos rfl] at hzt
        rw [show (((0 : Nat) / 256 : Nat) : Int) = 0 from rfl] at hX
        rw [show (((0 : Nat) % 256 : Nat) : Int) = 0 from rfl] at hY
        (repeat (first | refine awp_reg_seq rfl fun k => ?_ | refine awp_reg rfl fun k => ?_ | refine awp_seq ?_ | refine awp_true rfl ?_ | refine awp_skip (?_ : Awp _ _ _ _ _ _) | refine awp_block ?_ | ((refine runk_ung rfl rfl rfl rfl ?_)) | (apply runk0 rfl rfl (opok_move rfl ?_) ?_; rotate_left 1; (· (conv => (lhs; whnf)))) | (apply runk0 rfl rfl (opok_assign rfl ?_) ?_; rotate_left 1; (· (conv => (lhs; whnf)))) | (((apply runk0 rfl rfl (opok_loadR rfl ?_ ?_ ?_) ?_; rotate_left 2; (· (conv => (lhs; whnf))); (· rfl); (· (conv => (lhs; whnf; arg 1; whnf)))))) | (apply runk0 rfl rfl (opok_bin rfl ?_ ?_ ?_) ?_; rotate_left 3; (· (conv => (lhs; whnf))); (· (conv => (lhs; whnf))); (· (intro w; go_simp; rfl))) | (apply runk0 rfl rfl (opok_pick rfl ?_ ?_) ?_; rotate_left 2; (· (conv => (lhs; whnf))); (· (exact pick_and))) | refine runk_end (by kernel_rfl) ?_ | (apply runk0 rfl rfl (opok_index_ro rfl ?_ ?_ ?_ ?_ ?_ ?_ ?_) ?_; rotate_left 6; (· (conv => (lhs; whnf))); (· (conv => (lhs; whnf))); (· (conv => (lhs; whnf; arg 1; whnf))); (· (unfold sizeIs; conv => (lhs; whnf; arg 1; whnf))); (· (exact widths_ints _ _)); (· omega); (· assumption))))
        exact ⟨8 - n', by omega, n', by omega, by rw [show i + n' = t + 1 by omega]; omega, by (refine leB_of ?_ ?_; (· (repeat (first | exact EnvIs.nil | (refine EnvIs.cons ?_ ?_; (· rfl))))); (· (repeat ((exact ObjsAre.nil)))))⟩
      · rw [if_neg hz] at hzt
        have hnn : zr (XS.drop i) = n := by omega
        rw [hnn] at hrj
        obtain ⟨X, hXe⟩ : ∃ X, x / 256 = X := ⟨_, rfl⟩
        obtain ⟨Y, hYe⟩ : ∃ Y, x % 256 = Y := ⟨_, rfl⟩
        have hxy : X = 0 → Y ≠ 0 := by omega
        rw [hXe] at hX
        rw [hYe] at hY
        clear hnz hzt hzl hXe hYe
        cases dx : ((X : Int) == 0) with
        | true =>
          have hx0 : X = 0 := by simpa using dx
          have dy : ((Y : Int) == 0) = false := by have := hxy hx0; simp; omega
          by_cases hm : n > mo
          · rw [if_pos hm] at hrj
            have d1 : decide ((n : Int) > (mo : Int)) = true := decide_eq_true (by omega)
            have d2 : decide ((mo : Int) < (n : Int)) = true := decide_eq_true (by omega)
            have d3 : decide (mo < n) = true := decide_eq_true (by omega)
            (repeat (first | refine awp_reg_seq rfl fun k => ?_ | refine awp_reg rfl fun k => ?_ | refine awp_seq ?_ | refine awp_true rfl ?_ | refine awp_false rfl ?_ | refine awp_exit (?_ : Awp _ _ _ _ _ _) | ((refine runk_ung rfl rfl rfl rfl ?_)) | (apply runk0 rfl rfl (opok_move rfl ?_) ?_; rotate_left 1; (· (conv => (lhs; whnf)))) | (apply runk0 rfl rfl (opok_assign rfl ?_) ?_; rotate_left 1; (· (conv => (lhs; whnf)))) | (((apply runk0 rfl rfl (opok_loadR rfl ?_ ?_ ?_) ?_; rotate_left 2; (· (conv => (lhs; whnf))); (· rfl); (· (conv => (lhs; whnf; arg 1; whnf)))))) | (apply runk0 rfl rfl (opok_bin rfl ?_ ?_ ?_) ?_; rotate_left 3; (· (conv => (lhs; whnf))); (· (conv => (lhs; whnf))); (· (intro w; go_simp; rfl))) | (apply runk0 rfl rfl (opok_pick rfl ?_ ?_) ?_; rotate_left 2; (· (conv => (lhs; whnf))); (· (exact pick_and))) | refine runk_end (by kernel_rfl) ?_ | (apply runk0 rfl rfl (opok_index_ro rfl ?_ ?_ ?_ ?_ ?_ ?_ ?_) ?_; rotate_left 6; (· (conv => (lhs; whnf))); (· (conv => (lhs; whnf))); (· (conv => (lhs; whnf; arg 1; whnf))); (· (unfold sizeIs; conv => (lhs; whnf; arg 1; whnf))); (· (exact widths_ints _ _)); (· omega); (· assumption))))
            exact ⟨8 - j, by omega, j, by omega, by rw [hrj]; (refine leB_of ?_ ?_; (· (repeat (first | exact EnvIs.nil | (refine EnvIs.cons ?_ ?_; (· rfl))))); (· (repeat ((exact ObjsAre.nil)))))⟩
          · rw [if_neg hm] at hrj
            have d1 : decide ((n : Int) > (mo : Int)) = false := decide_eq_false (by omega)
            have d2 : decide ((mo : Int) < (n : Int)) = false := decide_eq_false (by omega)
            have d3 : decide (mo < n) = false := decide_eq_false (by omega)
            (repeat (first | refine awp_reg_seq rfl fun k => ?_ | refine awp_reg rfl fun k => ?_ | refine awp_seq ?_ | refine awp_false rfl ?_ | refine awp_skip (?_ : Awp _ _ _ _ _ _) | refine awp_exit (?_ : Awp _ _ _ _ _ _) | ((refine runk_ung rfl rfl rfl rfl ?_)) | (apply runk0 rfl rfl (opok_move rfl ?_) ?_; rotate_left 1; (· (conv => (lhs; whnf)))) | (((apply runk0 rfl rfl (opok_loadR rfl ?_ ?_ ?_) ?_; rotate_left 2; (· (conv => (lhs; whnf))); (· rfl); (· (conv => (lhs; whnf; arg 1; whnf)))))) | (apply runk0 rfl rfl (opok_bin rfl ?_ ?_ ?_) ?_; rotate_left 3; (· (conv => (lhs; whnf))); (· (conv => (lhs; whnf))); (· (intro w; go_simp; rfl))) | (apply runk0 rfl rfl (opok_pick rfl ?_ ?_) ?_; rotate_left 2; (· (conv => (lhs; whnf))); (· (exact pick_and))) | refine runk_end (by kernel_rfl) ?_ | (apply runk0 rfl rfl (opok_index_ro rfl ?_ ?_ ?_ ?_ ?_ ?_ ?_) ?_; rotate_left 6; (· (conv => (lhs; whnf))); (· (conv => (lhs; whnf))); (· (conv => (lhs; whnf; arg 1; whnf))); (· (unfold sizeIs; conv => (lhs; whnf; arg 1; whnf))); (· (exact widths_ints _ _)); (· omega); (· assumption))))
            exact ⟨8 - j, by omega, j, by omega, by rw [hrj]; (refine leB_of ?_ ?_; (· (repeat (first | exact EnvIs.nil | (refine EnvIs.cons ?_ ?_; (· rfl))))); (· (repeat ((exact ObjsAre.nil)))))⟩
        | false =>
          by_cases hm : n > mo
          · rw [if_pos hm] at hrj
            have d1 : decide ((n : Int) > (mo : Int)) = true := decide_eq_true (by omega)
            have d2 : decide ((mo : Int) < (n : Int)) = true := decide_eq_true (by omega)
            have d3 : decide (mo < n) = true := decide_eq_true (by omega)
            (repeat (first | refine awp_reg_seq rfl fun k => ?_ | refine awp_reg rfl fun k => ?_ | refine awp_seq ?_ | refine awp_true rfl ?_ | refine awp_false rfl ?_ | refine awp_exit (?_ : Awp _ _ _ _ _ _) | ((refine runk_ung rfl rfl rfl rfl ?_)) | ((refine runk_off rfl rfl rfl rfl rfl ?_)) | (apply runk0 rfl rfl (opok_move rfl ?_) ?_; rotate_left 1; (· (conv => (lhs; whnf)))) | (apply runk0 rfl rfl (opok_assign rfl ?_) ?_; rotate_left 1; (· (conv => (lhs; whnf)))) | (((apply runk0 rfl rfl (opok_loadR rfl ?_ ?_ ?_) ?_; rotate_left 2; (· (conv => (lhs; whnf))); (· rfl); (· (conv => (lhs; whnf; arg 1; whnf)))))) | (apply runk0 rfl rfl (opok_bin rfl ?_ ?_ ?_) ?_; rotate_left 3; (· (conv => (lhs; whnf))); (· (conv => (lhs; whnf))); (· (intro w; go_simp; rfl))) | (apply runk0 rfl rfl (opok_pick rfl ?_ ?_) ?_; rotate_left 2; (· (conv => (lhs; whnf))); (· first | exact pick_and | (conv => (lhs; whnf)))) | refine runk_end (by kernel_rfl) ?_ | (apply runk0 rfl rfl (opok_index_ro rfl ?_ ?_ ?_ ?_ ?_ ?_ ?_) ?_; rotate_left 6; (· (conv => (lhs; whnf))); (· (conv => (lhs; whnf))); (· (conv => (lhs; whnf; arg 1; whnf))); (· (unfold sizeIs; conv => (lhs; whnf; arg 1; whnf))); (· (exact widths_ints _ _)); (· omega); (· assumption))))
            exact ⟨8 - j, by omega, j, by omega, by rw [hrj]; (refine leB_of ?_ ?_; (· (repeat (first | exact EnvIs.nil | (refine EnvIs.cons ?_ ?_; (· rfl))))); (· (repeat ((exact ObjsAre.nil)))))⟩
          · rw [if_neg hm] at hrj
            have d1 : decide ((n : Int) > (mo : Int)) = false := decide_eq_false (by omega)
            have d2 : decide ((mo : Int) < (n : Int)) = false := decide_eq_false (by omega)
            have d3 : decide (mo < n) = false := decide_eq_false (by omega)
            (repeat (first | refine awp_reg_seq rfl fun k => ?_ | refine awp_reg rfl fun k => ?_ | refine awp_seq ?_ | refine awp_false rfl ?_ | refine awp_skip (?_ : Awp _ _ _ _ _ _) | refine awp_exit (?_ : Awp _ _ _ _ _ _) | ((refine runk_ung rfl rfl rfl rfl ?_)) | ((refine runk_off rfl rfl rfl rfl rfl ?_)) | (apply runk0 rfl rfl (opok_move rfl ?_) ?_; rotate_left 1; (· (conv => (lhs; whnf)))) | (((apply runk0 rfl rfl (opok_loadR rfl ?_ ?_ ?_) ?_; rotate_left 2; (· (conv => (lhs; whnf))); (· rfl); (· (conv => (lhs; whnf; arg 1; whnf)))))) | (apply runk0 rfl rfl (opok_bin rfl ?_ ?_ ?_) ?_; rotate_left 3; (· (conv => (lhs; whnf))); (· (conv => (lhs; whnf))); (· (intro w; go_simp; rfl))) | (apply runk0 rfl rfl (opok_pick rfl ?_ ?_) ?_; rotate_left 2; (· (conv => (lhs; whnf))); (· first | exact pick_and | (conv => (lhs; whnf)))) | refine runk_end (by kernel_rfl) ?_ | (apply runk0 rfl rfl (opok_index_ro rfl ?_ ?_ ?_ ?_ ?_ ?_ ?_) ?_; rotate_left 6; (· (conv => (lhs; whnf))); (· (conv => (lhs; whnf))); (· (conv => (lhs; whnf; arg 1; whnf))); (· (unfold sizeIs; conv => (lhs; whnf; arg 1; whnf))); (· (exact widths_ints _ _)); (· omega); (· assumption))))
            exact ⟨8 - j, by omega, j, by omega, by rw [hrj]; (refine leB_of ?_ ?_; (· (repeat (first | exact EnvIs.nil | (refine EnvIs.cons ?_ ?_; (· rfl))))); (· (repeat ((exact ObjsAre.nil)))))⟩
    · have dt1 : decide ((t : Int) < 8) = false := decide_eq_false (by omega)
      have dt2 : decide (t < 8) = false := decide_eq_false ht8
      have ht9 : t = 8 := by omega
      have hnn : zr (XS.drop i) = n := by rw [ht9, z8] at hnz; omega
      rw [hnn] at hrj
      clear hnz hzl
      by_cases hm : n > mo
      · rw [if_pos hm] at hrj
        have d1 : decide ((n : Int) > (mo : Int)) = true := decide_eq_true (by omega)
        have d2 : decide ((mo : Int) < (n : Int)) = true := decide_eq_true (by omega)
        have d3 : decide (mo < n) = true := decide_eq_true (by omega)
        (repeat (first | refine awp_reg_seq rfl fun k => ?_ | refine awp_reg rfl fun k => ?_ | refine awp_seq ?_ | refine awp_true rfl ?_ | refine awp_false rfl ?_ | refine awp_exit (?_ : Awp _ _ _ _ _ _) | ((refine runk_off rfl rfl rfl rfl rfl ?_)) | (apply runk0 rfl rfl (opok_move rfl ?_) ?_; rotate_left 1; (· (conv => (lhs; whnf)))) | (apply runk0 rfl rfl (opok_assign rfl ?_) ?_; rotate_left 1; (· (conv => (lhs; whnf)))) | (apply runk0 rfl rfl (opok_bin rfl ?_ ?_ ?_) ?_; rotate_left 3; (· (conv => (lhs; whnf))); (· (conv => (lhs; whnf))); (· (intro w; go_simp; rfl))) | (apply runk0 rfl rfl (opok_pick rfl ?_ ?_) ?_; rotate_left 2; (· (conv => (lhs; whnf))); (· ((conv => (lhs; whnf))))) | refine runk_end (by kernel_rfl) ?_))
        exact ⟨8 - j, by omega, j, by omega, by rw [hrj]; (refine leB_of ?_ ?_; (· (repeat (first | exact EnvIs.nil | (refine EnvIs.cons ?_ ?_; (· rfl))))); (· (repeat ((exact ObjsAre.nil)))))⟩
      · rw [if_neg hm] at hrj
        have d1 : decide ((n : Int) > (mo : Int)) = false := decide_eq_false (by omega)
        have d2 : decide ((mo : Int) < (n : Int)) = false := decide_eq_false (by omega)
        have d3 : decide (mo < n) = false := decide_eq_false (by omega)
        (repeat (first | refine awp_reg_seq rfl fun k => ?_ | refine awp_reg rfl fun k => ?_ | refine awp_seq ?_ | refine awp_false rfl ?_ | refine awp_skip (?_ : Awp _ _ _ _ _ _) | refine awp_exit (?_ : Awp _ _ _ _ _ _) | ((refine runk_off rfl rfl rfl rfl rfl ?_)) | (apply runk0 rfl rfl (opok_move rfl ?_) ?_; rotate_left 1; (· (conv => (lhs; whnf)))) | (apply runk0 rfl rfl (opok_bin rfl ?_ ?_ ?_) ?_; rotate_left 3; (· (conv => (lhs; whnf))); (· (conv => (lhs; whnf))); (· (intro w; go_simp; rfl))) | (apply runk0 rfl rfl (opok_pick rfl ?_ ?_) ?_; rotate_left 2; (· (conv => (lhs; whnf))); (· ((conv => (lhs; whnf))))) | refine runk_end (by kernel_rfl) ?_))
        exact ⟨8 - j, by omega, j, by omega, by rw [hrj]; (refine leB_of ?_ ?_; (· (repeat (first | exact EnvIs.nil | (refine EnvIs.cons ?_ ?_; (· rfl))))); (· (repeat ((exact ObjsAre.nil)))))⟩
  · have hi8 : i = 8 := by simp at hc; omega
    subst hi8
    clear hc wi hj hru hrb hzl z8
    obtain ⟨F, Z, hF0, hFZ, hat, hp6, hcase⟩ : ∃ F Z : Nat, 1 ≤ Z ∧ F + Z ≤ 9 ∧ (rls XS 8 = ((F : Int), Z) ∧ F + Z ≤ 8 ∨ rls XS 8 = (-1, 1) ∧ F = 8 ∧ Z = 1) ∧ p6 XS = pst XS F Z 8 ∧ True := by
      rcases hP with ⟨h1, h2⟩ | ⟨h1, h2, h3⟩
      · rcases hR with ⟨h4, h5⟩ | ⟨h4, h5⟩
        · exact ⟨8, 1, by decide, by decide, .inr ⟨h5, rfl, rfl⟩, h2, trivial⟩
        · omega
      · rcases hR with ⟨h4, h5⟩ | ⟨h4, h5⟩
        · omega
        · exact ⟨_, _, by omega, by omega, .inl ⟨h5, h2⟩, h3, trivial⟩
    rw [hp6]
    clear hP hR hp6 hcase
    obtain ⟨at1, mo, hrl, hmo, hcs⟩ : ∃ (at1 : Int) (mo : Nat), rls XS 8 = (at1, mo) ∧ mo = Z ∧ (at1 = (F : Int) ∧ F + Z ≤ 8 ∨ at1 = -1 ∧ F = 8) := by
      rcases hat with ⟨h, h2⟩ | ⟨h, h2, h3⟩
      · exact ⟨_, _, h, rfl, .inl ⟨rfl, h2⟩⟩
      · exact ⟨_, _, h, h3.symm, .inr ⟨rfl, h2⟩⟩
    rw [hrl]
    dsimp only
    subst hmo
    clear hat hrl
    (repeat (first | refine awp_reg_seq rfl fun k => ?_ | refine awp_seq ?_ | refine awp_block ?_ | refine awp_exit (?_ : Awp _ _ _ _ _ _) | (apply runk0 rfl rfl (opok_assign rfl ?_) ?_; rotate_left 1; (· (conv => (lhs; whnf)))) | refine runk_end (by kernel_rfl) ?_))
    refine awp_loop (fun m st => ∃ i : Nat, i + m = 8 ∧ (i ≤ F ∨ F + mo ≤ i) ∧ st.leB ⟨[(3, .ro (ints .u8 B)), (4, .val (.int .i64 at1)), (5, .val (.int .i64 (mo : Int))), (8, .val (bstr (pst XS F mo i))), (9, .val (.int .i64 (i : Int)))], []⟩) 8 ⟨0, by omega, by omega, by rw [pst_zero]; (refine leB_of ?_ ?_; (· (repeat (first | exact EnvIs.nil | (refine EnvIs.cons ?_ ?_; (· rfl))))); (· (repeat ((exact ObjsAre.nil)))))⟩ ?_
    rintro m st ⟨i, him, hiF, hle⟩
    refine awp_less hle ?_
    clear hle st
    have wi : IntKind.i64.wrap ((i : Int) + 1) = ((i + 1 : Nat) : Int) := by rw [IntKind.wrap_i64]; omega
    obtain ⟨j, hj⟩ : ∃ j, i + 1 = j := ⟨_, rfl⟩
    rw [hj] at wi
    (repeat (first | refine awp_reg_seq rfl fun k => ?_ | refine awp_seq ?_ | (apply runk0 rfl rfl (opok_move rfl ?_) ?_; rotate_left 1; (· (conv => (lhs; whnf)))) | (apply runk0 rfl rfl (opok_bin rfl ?_ ?_ ?_) ?_; rotate_left 3; (· (conv => (lhs; whnf))); (· (conv => (lhs; whnf))); (· (intro w; go_simp; rfl))) | refine runk_end (by kernel_rfl) ?_))
    refine awp_if rfl (fun hc => ?_) (fun hc => ?_)
    · have hi8 : i < 8 := by simp at hc; omega
      clear hc
      by_cases hF : (i : Int) = at1
      · have dF : ((i : Int) == at1) = true := by rw [beq_iff_eq]; exact hF
        have hiF2 : i = F := by omega
        have hrun : pst XS F mo i ++ [58, 58] = pst XS F mo (i + mo) := by rw [hiF2]; exact pst_run XS F mo hF0
        have hSl := hPl F mo i
        have hFj : F + mo ≤ i + mo := by omega
        have hij : i < i + mo := by omega
        obtain ⟨mm, hmm⟩ : ∃ mm, mo - 1 = mm := ⟨_, rfl⟩
        have w1 : IntKind.i64.wrap ((mo : Int) - 1) = (mm : Int) := by rw [IntKind.wrap_i64]; omega
        obtain ⟨q, hq⟩ : ∃ q, i + mm = q := ⟨_, rfl⟩
        have w2 : IntKind.i64.wrap ((i : Int) + (mm : Int)) = (q : Int) := by rw [IntKind.wrap_i64]; omega
        have w3 : IntKind.i64.wrap ((q : Int) + 1) = ((i + mo : Nat) : Int) := by rw [IntKind.wrap_i64]; omega
        have hi9 : i + mo ≤ 8 := by omega
        generalize hj2 : i + mo = j2 at *
        clear hj2
        generalize hS : pst XS F mo i = S at *
        clear hS wi hiF2 hF hcs hiF
        (repeat (first | refine awp_reg_seq rfl fun k => ?_ | refine awp_reg rfl fun k => ?_ | refine awp_seq ?_ | refine awp_true rfl ?_ | refine awp_skip (?_ : Awp _ _ _ _ _ _) | refine awp_block ?_ | refine awp_exit (?_ : Awp _ _ _ _ _ _) | (((((apply runk0 rfl rfl (opok_scat rfl ?_ ?_ ?_) ?_; rotate_left 2; (· ((conv => (lhs; whnf)); try exact rfl)); (· ((conv => (lhs; whnf)); try exact rfl)); (· ((simp; omega)))))))) | (apply runk0 rfl rfl (opok_move rfl ?_) ?_; rotate_left 1; (· (conv => (lhs; whnf)))) | (apply runk0 rfl rfl (opok_assign rfl ?_) ?_; rotate_left 1; (· (conv => (lhs; whnf)))) | (apply runk0 rfl rfl (opok_bin rfl ?_ ?_ ?_) ?_; rotate_left 3; (· (conv => (lhs; whnf))); (· (conv => (lhs; whnf))); (· (intro w; go_simp; rfl))) | refine runk_end (by kernel_rfl) ?_))
        exact ⟨8 - j2, by omega, j2, by omega, .inr hFj, by rw [← hrun]; (refine leB_of ?_ ?_; (· (repeat (first | exact EnvIs.nil | (refine EnvIs.cons ?_ ?_; (· rfl))))); (· (repeat ((exact ObjsAre.nil)))))⟩
      · have dF : ((i : Int) == at1) = false := by rw [beq_eq_false_iff_ne]; exact hF
        obtain ⟨x, hxg, hxl, hxd⟩ := hx i hi8
        obtain ⟨b1, b2⟩ := hB i hi8
        have hstep := pst_step XS F mo i x hxg (by omega)
        have hSl := hPl F mo i
        obtain ⟨t2, ht2⟩ : ∃ t2, 2 * i = t2 := ⟨_, rfl⟩
        obtain ⟨t3, ht3⟩ : ∃ t3, t2 + 1 = t3 := ⟨_, rfl⟩
        rw [hxd, ht2] at b1 b2
        rw [ht3] at b2
        have wt2 : IntKind.i64.wrap (2 * (i : Int)) = (t2 : Int) := by rw [IntKind.wrap_i64]; omega
        have wt3 : IntKind.i64.wrap ((t2 : Int) + 1) = (t3 : Int) := by rw [IntKind.wrap_i64]; omega
        obtain ⟨X, hXe⟩ : ∃ X, x / 256 = X := ⟨_, rfl⟩
        obtain ⟨Y, hYe⟩ : ∃ Y, x % 256 = Y := ⟨_, rfl⟩
        rw [hXe] at b1
        rw [hYe] at b2
        have hX : (ints .u8 B)[t2]? = some (.val (.int .u8 (X : Int))) := by rw [ints_get, b1]; rfl
        have hY : (ints .u8 B)[t3]? = some (.val (.int .u8 (Y : Int))) := by rw [ints_get, b2]; rfl
        have ht16 : t2 < 16 := by omega
        have hu16 : t3 < 16 := by omega
        have wX : IntKind.u64.wrap (X : Int) = (X : Int) := by rw [IntKind.wrap_u64]; omega
        have wY : IntKind.u64.wrap (Y : Int) = (Y : Int) := by rw [IntKind.wrap_u64]; omega
        have wXs : IntKind.u64.wrap ((X : Int) * 256) = (X : Int) * 256 := by rw [IntKind.wrap_u64]; omega
        have hor := or8n X Y x (by omega) (by omega) (by omega)
        have fm := fmt16_spec x hxl
        have hWl := hexL_len 3 x hxl
        have hiF2 : j ≤ F ∨ F + mo ≤ j := by omega
        rw [hj] at hstep
        have hs := suffix_spec (pst XS F mo i) [58] (by omega)
        unfold addG at hstep
        generalize hS : pst XS F mo i = S at *
        generalize hexL x = W at *
        clear hS b1 b2 hXe hYe hxg hxd hx hB hiF hF
        cases S with
        | nil =>
          rw [if_pos (.inl rfl)] at hstep
          (repeat (first | refine awp_reg_seq rfl fun k => ?_ | refine awp_reg rfl fun k => ?_ | refine awp_seq ?_ | refine awp_false rfl ?_ | refine awp_skip (?_ : Awp _ _ _ _ _ _) | refine awp_block ?_ | (apply runk_pure rfl rfl rfl ?_ ?_ ?_ ?_ ?_ ?_ ?_ ?_; rotate_left 6; (· (conv => (lhs; whnf))); (· exact Tryz.func56); (· rfl); (· rfl); (· exact (fm)); (· (repeat (first | exact Rens.nil | (refine Rens.cons ?_ ?_; (· ((refine Ren.pureR ?_ rfl; (rfl)))))))); (· rfl)) | (((first | (apply runk0 rfl rfl (opok_sneq rfl ?_ ?_) ?_; rotate_left 2; (· ((conv => (lhs; whnf)); try exact rfl)); (· ((conv => (lhs; whnf)); try exact rfl))) | (apply runk0 rfl rfl (opok_scat rfl ?_ ?_ ?_) ?_; rotate_left 2; (· ((conv => (lhs; whnf)); try exact rfl)); (· ((conv => (lhs; whnf)); try exact rfl)); (· omega))))) | ((refine runk_off rfl rfl rfl rfl rfl ?_)) | (apply runk0 rfl rfl (opok_move rfl ?_) ?_; rotate_left 1; (· (conv => (lhs; whnf)))) | (apply runk0 rfl rfl (opok_assign rfl ?_) ?_; rotate_left 1; (· (conv => (lhs; whnf)))) | (((apply runk0 rfl rfl (opok_loadR rfl ?_ ?_ ?_) ?_; rotate_left 2; (· (conv => (lhs; whnf))); (· rfl); (· (conv => (lhs; whnf; arg 1; whnf)))))) | (apply runk0 rfl rfl (opok_bin rfl ?_ ?_ ?_) ?_; rotate_left 3; (· (conv => (lhs; whnf))); (· (conv => (lhs; whnf))); (· (intro w; go_simp; rfl))) | (apply runk0 rfl rfl (opok_conv rfl ?_ ?_) ?_; rotate_left 2; (· (conv => (lhs; whnf))); (· (intro w; go_simp; rfl))) | (apply runk0 rfl rfl (opok_pick rfl ?_ ?_) ?_; rotate_left 2; (· (conv => (lhs; whnf))); (· ((conv => (lhs; whnf))))) | refine runk_end (by kernel_rfl) ?_ | (apply runk0 rfl rfl (opok_index_ro rfl ?_ ?_ ?_ ?_ ?_ ?_ ?_) ?_; rotate_left 6; (· (conv => (lhs; whnf))); (· (conv => (lhs; whnf))); (· (conv => (lhs; whnf; arg 1; whnf))); (· (unfold sizeIs; conv => (lhs; whnf; arg 1; whnf))); (· (exact widths_ints _ _)); (· omega); (· assumption))))
          exact ⟨8 - j, by omega, j, by omega, hiF2, by rw [← hstep]; (refine leB_of ?_ ?_; (· (repeat (first | exact EnvIs.nil | (refine EnvIs.cons ?_ ?_; (· rfl))))); (· (repeat ((exact ObjsAre.nil)))))⟩
        | cons s0 sr =>
          have e1 : (s0 :: sr == []) = false := rfl
          have hSl' : sr.length + 1 ≤ 100 := by simpa using hSl
          cases e2 : Lib.hasSuffix (s0 :: sr) [58] with
          | true =>
            rw [if_pos (.inr e2)] at hstep
            rw [e2] at hs
            (repeat (first | refine awp_reg_seq rfl fun k => ?_ | refine awp_reg rfl fun k => ?_ | refine awp_seq ?_ | refine awp_false rfl ?_ | refine awp_skip (?_ : Awp _ _ _ _ _ _) | refine awp_block ?_ | (apply runk_guard rfl rfl ?_ rfl ?_ ?_; rotate_left 3; (· (conv => (lhs; whnf))); (· (intro hb; (try rw [hb]); apply opok_pure rfl ?_ ?_ ?_ ?_ ?_ ?_ ?_; rotate_left 6; (· (conv => (lhs; whnf))); (· exact Tryz.func55); (· rfl); (· rfl); (· exact (hs)); (· (repeat (first | exact Rens.nil | (refine Rens.cons ?_ ?_; (· ((refine Ren.pureR ?_ rfl; (rfl)))))))); (· rfl)))) | (apply runk_pure rfl rfl rfl ?_ ?_ ?_ ?_ ?_ ?_ ?_ ?_; rotate_left 6; (· (conv => (lhs; whnf))); (· exact Tryz.func56); (· rfl); (· rfl); (· exact (fm)); (· (repeat (first | exact Rens.nil | (refine Rens.cons ?_ ?_; (· ((refine Ren.pureR ?_ rfl; (rfl)))))))); (· rfl)) | (((first | (apply runk0 rfl rfl (opok_sneq rfl ?_ ?_) ?_; rotate_left 2; (· ((conv => (lhs; whnf)); try exact rfl)); (· ((conv => (lhs; whnf)); try exact rfl))) | (apply runk0 rfl rfl (opok_scat rfl ?_ ?_ ?_) ?_; rotate_left 2; (· ((conv => (lhs; whnf)); try exact rfl)); (· ((conv => (lhs; whnf)); try exact rfl)); (· omega))))) | ((refine runk_ung rfl rfl rfl rfl ?_)) | (apply runk0 rfl rfl (opok_move rfl ?_) ?_; rotate_left 1; (· (conv => (lhs; whnf)))) | (apply runk0 rfl rfl (opok_assign rfl ?_) ?_; rotate_left 1; (· (conv => (lhs; whnf)))) | (((apply runk0 rfl rfl (opok_loadR rfl ?_ ?_ ?_) ?_; rotate_left 2; (· (conv => (lhs; whnf))); (· rfl); (· (conv => (lhs; whnf; arg 1; whnf)))))) | (apply runk0 rfl rfl (opok_bin rfl ?_ ?_ ?_) ?_; rotate_left 3; (· (conv => (lhs; whnf))); (· (conv => (lhs; whnf))); (· (intro w; go_simp; rfl))) | (apply runk0 rfl rfl (opok_conv rfl ?_ ?_) ?_; rotate_left 2; (· (conv => (lhs; whnf))); (· (intro w; go_simp; rfl))) | (apply runk0 rfl rfl (opok_un rfl ?_ ?_) ?_; rotate_left 2; (· (conv => (lhs; whnf))); (· (intro w; go_simp; rfl))) | (apply runk0 rfl rfl (opok_pick rfl ?_ ?_) ?_; rotate_left 2; (· (conv => (lhs; whnf))); (· (exact pick_and))) | refine runk_end (by kernel_rfl) ?_ | (apply runk0 rfl rfl (opok_index_ro rfl ?_ ?_ ?_ ?_ ?_ ?_ ?_) ?_; rotate_left 6; (· (conv => (lhs; whnf))); (· (conv => (lhs; whnf))); (· (conv => (lhs; whnf; arg 1; whnf))); (· (unfold sizeIs; conv => (lhs; whnf; arg 1; whnf))); (· (exact widths_ints _ _)); (· omega); (· assumption))))
            exact ⟨8 - j, by omega, j, by omega, hiF2, by rw [← hstep]; (refine leB_of ?_ ?_; (· (repeat (first | exact EnvIs.nil | (refine EnvIs.cons ?_ ?_; (· rfl))))); (· (repeat ((exact ObjsAre.nil)))))⟩
          | false =>
            rw [if_neg (by rw [e1, e2]; simp)] at hstep
            rw [e2] at hs
            (repeat (first | refine awp_reg_seq rfl fun k => ?_ | refine awp_reg rfl fun k => ?_ | refine awp_seq ?_ | refine awp_true rfl ?_ | refine awp_false rfl ?_ | refine awp_skip (?_ : Awp _ _ _ _ _ _) | refine awp_block ?_ | (apply runk_guard rfl rfl ?_ rfl ?_ ?_; rotate_left 3; (· (conv => (lhs; whnf))); (· (intro hb; (try rw [hb]); apply opok_pure rfl ?_ ?_ ?_ ?_ ?_ ?_ ?_; rotate_left 6; (· (conv => (lhs; whnf))); (· exact Tryz.func55); (· rfl); (· rfl); (· exact (hs)); (· (repeat (first | exact Rens.nil | (refine Rens.cons ?_ ?_; (· ((refine Ren.pureR ?_ rfl; (rfl)))))))); (· rfl)))) | (apply runk_pure rfl rfl rfl ?_ ?_ ?_ ?_ ?_ ?_ ?_ ?_; rotate_left 6; (· (conv => (lhs; whnf))); (· exact Tryz.func56); (· rfl); (· rfl); (· exact (fm)); (· (repeat (first | exact Rens.nil | (refine Rens.cons ?_ ?_; (· ((refine Ren.pureR ?_ rfl; (rfl)))))))); (· rfl)) | (((first | (apply runk0 rfl rfl (opok_sneq rfl ?_ ?_) ?_; rotate_left 2; (· ((conv => (lhs; whnf)); try exact rfl)); (· ((conv => (lhs; whnf)); try exact rfl))) | (apply runk0 rfl rfl (opok_scat rfl ?_ ?_ ?_) ?_; rotate_left 2; (· ((conv => (lhs; whnf)); try exact rfl)); (· ((conv => (lhs; whnf)); try exact rfl)); (· ((simp; omega))))))) | ((refine runk_ung rfl rfl rfl rfl ?_)) | (apply runk0 rfl rfl (opok_move rfl ?_) ?_; rotate_left 1; (· (conv => (lhs; whnf)))) | (apply runk0 rfl rfl (opok_assign rfl ?_) ?_; rotate_left 1; (· (conv => (lhs; whnf)))) | (((apply runk0 rfl rfl (opok_loadR rfl ?_ ?_ ?_) ?_; rotate_left 2; (· (conv => (lhs; whnf))); (· rfl); (· (conv => (lhs; whnf; arg 1; whnf)))))) | (apply runk0 rfl rfl (opok_bin rfl ?_ ?_ ?_) ?_; rotate_left 3; (· (conv => (lhs; whnf))); (· (conv => (lhs; whnf))); (· (intro w; go_simp; rfl))) | (apply runk0 rfl rfl (opok_conv rfl ?_ ?_) ?_; rotate_left 2; (· (conv => (lhs; whnf))); (· (intro w; go_simp; rfl))) | (apply runk0 rfl rfl (opok_un rfl ?_ ?_) ?_; rotate_left 2; (· (conv => (lhs; whnf))); (· (intro w; go_simp; rfl))) | (apply runk0 rfl rfl (opok_pick rfl ?_ ?_) ?_; rotate_left 2; (· (conv => (lhs; whnf))); (· (exact pick_and))) | refine runk_end (by kernel_rfl) ?_ | (apply runk0 rfl rfl (opok_index_ro rfl ?_ ?_ ?_ ?_ ?_ ?_ ?_) ?_; rotate_left 6; (· (conv => (lhs; whnf))); (· (conv => (lhs; whnf))); (· (conv => (lhs; whnf; arg 1; whnf))); (· (unfold sizeIs; conv => (lhs; whnf; arg 1; whnf))); (· (exact widths_ints _ _)); (· omega); (· assumption))))
            exact ⟨8 - j, by omega, j, by omega, hiF2, by rw [← hstep]; (refine leB_of ?_ ?_; (· (repeat (first | exact EnvIs.nil | (refine EnvIs.cons ?_ ?_; (· rfl))))); (· (repeat ((exact ObjsAre.nil)))))⟩
    · have hi8 : i = 8 := by simp at hc; omega
      subst hi8
      clear hc
      (repeat (first | refine awp_reg_seq rfl fun k => ?_ | refine awp_exit (?_ : Awp _ _ _ _ _ _) | (refine awp_ret ?_; (apply ends_pure ?_ ?_ ?_ ?_ ?_ (.inl rfl); rotate_left 1; (· (exact res_one rfl rfl)); (· rfl); (· rfl); (· rfl); (· rfl))) | (apply runk0 rfl rfl (opok_move rfl ?_) ?_; rotate_left 1; (· (conv => (lhs; whnf)))) | (apply runk0 rfl rfl (opok_assign rfl ?_) ?_; rotate_left 1; (· (conv => (lhs; whnf)))) | refine runk_end (by kernel_rfl) ?_))
theorem by4_quad (L : Nat) (h : L < 4294967296) : by4 (L : Int) 0 = nats [L / 16777216 % 256, L / 65536 % 256, L / 256 % 256, L % 256] := by
  simp [by4, nats, List.range, List.range.loop]
set_option maxHeartbeats 16000000 in
set_option maxRecDepth 100000 in
theorem rprint_four (L : Nat) (h : L < 4294967296) : Spec Tryz.prog 36 [.agg [.val (.bool false), .val (.int .u64 0), .val (.int .u64 (L : Int))]] [] (.val (bstr (quad L))) [] := by
  have by' := rbytes_v4 (L : Int) (by omega)
  rw [by4_quad L h] at by'
  have d : ∀ k : Nat, k < 256 → (Lib.decDigits k).length ≤ 3 := by
    have : ∀ k : Fin 256, (Lib.decDigits k.val).length ≤ 3 := by decide +kernel
    exact fun k hk => this ⟨k, hk⟩
  rw [quad_join]
  obtain ⟨a, ha⟩ : ∃ a, L / 16777216 % 256 = a := ⟨_, rfl⟩
  obtain ⟨b, hb⟩ : ∃ a, L / 65536 % 256 = a := ⟨_, rfl⟩
  obtain ⟨c, hc⟩ : ∃ a, L / 256 % 256 = a := ⟨_, rfl⟩
  obtain ⟨e, he⟩ : ∃ a, L % 256 = a := ⟨_, rfl⟩
  rw [ha, hb, hc, he] at by' ⊢
  have la0 : a < 256 := by omega
  have lb0 : b < 256 := by omega
  have lc0 : c < 256 := by omega
  have le0 : e < 256 := by omega
  have ia := itoa_spec (a : Int) (by omega) (by omega)
  have ib := itoa_spec (b : Int) (by omega) (by omega)
  have ic := itoa_spec (c : Int) (by omega) (by omega)
  have ie := itoa_spec (e : Int) (by omega) (by omega)
  rw [Lib.itoa_nonneg] at ia ib ic ie
  have la := d a (by omega)
  have lb := d b (by omega)
  have lc := d c (by omega)
  have le' := d e (by omega)
  have wa : IntKind.i64.wrap (a : Int) = (a : Int) := by rw [IntKind.wrap_i64]; omega
  have wb : IntKind.i64.wrap (b : Int) = (b : Int) := by rw [IntKind.wrap_i64]; omega
  have wc : IntKind.i64.wrap (c : Int) = (c : Int) := by rw [IntKind.wrap_i64]; omega
  have we : IntKind.i64.wrap (e : Int) = (e : Int) := by rw [IntKind.wrap_i64]; omega
  have fin : joinC 46 [Lib.decDigits a, Lib.decDigits b, Lib.decDigits c, Lib.decDigits e] = Lib.decDigits a ++ [46] ++ Lib.decDigits b ++ [46] ++ Lib.decDigits c ++ [46] ++ Lib.decDigits e := by simp [joinC]
  rw [fin]
  clear ha hb hc he d fin
  generalize Lib.decDigits a = TA at *
  generalize Lib.decDigits b = TB at *
  generalize Lib.decDigits c = TC at *
  generalize Lib.decDigits e = TE at *
  have w0 : IntKind.i64.wrap 0 = 0 := by decide
  have w1 : IntKind.i64.wrap 1 = 1 := by decide
  have w2 : IntKind.i64.wrap 2 = 2 := by decide
  have w3 : IntKind.i64.wrap 3 = 3 := by decide
  refine spec_of_awp Tryz.func36 rfl (Nat.le_of_ble_eq_true rfl) fun ini => ?_
  simp only [Tryz.ntmps36]
  (repeat (first | refine awp_reg_seq rfl fun k => ?_ | refine awp_seq ?_ | refine awp_true rfl ?_ | refine awp_false rfl ?_ | refine awp_skip (?_ : Awp _ _ _ _ _ _) | (refine awp_ret ?_; (apply ends_pure ?_ ?_ ?_ ?_ ?_ (.inl rfl); rotate_left 1; (· (exact res_one rfl rfl)); (· rfl); (· rfl); (· rfl); (· rfl))) | (apply runk_made rfl rfl rfl ?_ ?_ ?_ ?_ ?_ ?_ ?_ ?_ ?_; rotate_left 8; (· (conv => (lhs; whnf))); (· exact Tryz.func46); (· rfl); (· rfl); (· exact (by')); (· (repeat (first | exact Rens.nil | (refine Rens.cons ?_ ?_; (· ((refine Ren.pureR ?_ rfl; (rfl)))))))); (· (exact .one (.own _ _ _ _ _ _ rfl List.mem_cons_self))); (· rfl)) | (apply runk_pure rfl rfl rfl ?_ ?_ ?_ ?_ ?_ ?_ ?_ ?_; rotate_left 6; (· (conv => (lhs; whnf))); (· exact Tryz.func53); (· rfl); (· rfl); (· exact (ia)); (· (repeat (first | exact Rens.nil | (refine Rens.cons ?_ ?_; (· ((refine Ren.pureR ?_ rfl; (rfl)))))))); (· rfl)) | (apply runk_pure rfl rfl rfl ?_ ?_ ?_ ?_ ?_ ?_ ?_ ?_; rotate_left 6; (· (conv => (lhs; whnf))); (· exact Tryz.func53); (· rfl); (· rfl); (· exact (ib)); (· (repeat (first | exact Rens.nil | (refine Rens.cons ?_ ?_; (· ((refine Ren.pureR ?_ rfl; (rfl)))))))); (· rfl)) | (apply runk_pure rfl rfl rfl ?_ ?_ ?_ ?_ ?_ ?_ ?_ ?_; rotate_left 6; (· (conv => (lhs; whnf))); (· exact Tryz.func53); (· rfl); (· rfl); (· exact (ic)); (· (repeat (first | exact Rens.nil | (refine Rens.cons ?_ ?_; (· ((refine Ren.pureR ?_ rfl; (rfl)))))))); (· rfl)) | (apply runk_pure rfl rfl rfl ?_ ?_ ?_ ?_ ?_ ?_ ?_ ?_; rotate_left 6; (· (conv => (lhs; whnf))); (· exact Tryz.func53); (· rfl); (· rfl); (· exact (ie)); (· (repeat (first | exact Rens.nil | (refine Rens.cons ?_ ?_; (· ((refine Ren.pureR ?_ rfl; (rfl)))))))); (· rfl)) | (((((apply runk0 rfl rfl (opok_scat rfl ?_ ?_ ?_) ?_; rotate_left 2; (· ((conv => (lhs; whnf)); try exact rfl)); (· ((conv => (lhs; whnf)); try exact rfl)); (· ((simp; omega)))))))) | (apply runk0 rfl rfl (opok_move rfl ?_) ?_; rotate_left 1; (· (conv => (lhs; whnf)))) | (apply runk_assignOwn rfl rfl rfl ?_ ?_ ?_; rotate_left 4; (· (conv => (lhs; whnf))); (· (conv => (lhs; whnf; arg 1; whnf)))) | (apply runk0 rfl rfl (opok_assign rfl ?_) ?_; rotate_left 1; (· (conv => (lhs; whnf)))) | (apply runk_fa rfl rfl rfl ?_ rfl rfl ?_ ?_ ?_ ?_; rotate_left 5; (· (conv => (lhs; whnf))); (· (unfold sizeIs; conv => (lhs; whnf; arg 1; whnf))); (· rfl); (· (conv => (lhs; whnf)))) | (((apply runk0 rfl rfl (opok_load rfl ?_ ?_ ?_ ?_) ?_; rotate_left 5; (· (conv => (lhs; whnf))); (· (conv => (lhs; whnf; arg 1; whnf; arg 2; whnf))); (· rfl); (· (conv => (lhs; whnf; arg 1; whnf)))))) | (apply runk0 rfl rfl (opok_loadA rfl ?_ ?_ ?_ ?_ ?_ ?_) ?_; rotate_left 6; (· (conv => (lhs; whnf))); (· (conv => (lhs; whnf; arg 1; whnf; arg 2; whnf))); (· rfl); (· (unfold sizeIs; conv => (lhs; whnf; arg 1; whnf))); (· (conv => (lhs; repeat (whnf; arg 2)))); (· rfl)) | (apply runk0 rfl rfl (opok_bin rfl ?_ ?_ ?_) ?_; rotate_left 3; (· (conv => (lhs; whnf))); (· (conv => (lhs; whnf))); (· (intro w; go_simp; rfl))) | (apply runk0 rfl rfl (opok_conv rfl ?_ ?_) ?_; rotate_left 2; (· (conv => (lhs; whnf))); (· (intro w; go_simp; rfl))) | (apply runk0 rfl rfl (opok_un rfl ?_ ?_) ?_; rotate_left 2; (· (conv => (lhs; whnf))); (· (intro w; go_simp; rfl))) | (((apply runk0 rfl rfl (opok_lenO rfl ?_ ?_ ?_) ?_; rotate_left 5; (· (conv => (lhs; whnf))); (· (conv => (lhs; whnf; arg 1; whnf))); (· rfl)))) | (apply runk0 rfl rfl (opok_index_own rfl ?_ ?_ ?_ ?_ ?_ ?_ ?_ ?_) ?_; rotate_left 10; (· (conv => (lhs; whnf))); (· (conv => (lhs; whnf; arg 1; whnf; arg 2; whnf))); (· (conv => (lhs; whnf))); (· (conv => (lhs; whnf; arg 1; whnf))); (· (unfold sizeIs; conv => (lhs; whnf; arg 1; whnf))); (· omega); (· omega); (· rfl)) | (apply runk_box rfl rfl rfl ?_ ?_ ?_ ?_; rotate_left 2; (· (conv => (lhs; whnf))); (· rfl); (· (conv => (lhs; whnf)))) | refine runk_end (by kernel_rfl) ?_))
theorem rprint_spec {v : Bool} {hi lo : Int} (h : AOk v hi lo) : Spec Tryz.prog 36 [.agg [.val (.bool v), .val (.int .u64 hi), .val (.int .u64 lo)]] [] (.val (bstr (prA v hi lo))) [] := by
  obtain ⟨h0, h1, g0, g1, h4⟩ := h
  obtain ⟨H, rfl⟩ := Int.eq_ofNat_of_zero_le h0
  obtain ⟨L, rfl⟩ := Int.eq_ofNat_of_zero_le g0
  unfold prA
  rw [Int.toNat_natCast, Int.toNat_natCast]
  cases v with
  | true => rw [if_pos rfl]; exact rprint_six H L
  | false =>
    obtain ⟨hz, hl⟩ := h4 rfl
    rw [if_neg (by decide), hz]
    exact rprint_four L (by omega)
end Go.Proofs.YtboddbheljenhaaGreatDoor
