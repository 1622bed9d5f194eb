/-
  ref01.groups of any text.
-/
import Derived.Test.YtboddbheljenhaaGreatDoorG13
namespace Go.Proofs.YtboddbheljenhaaGreatDoor
open Go.RowKit
def fourV (l : List UInt8) : AVal := match fourN l with
  | some xs => .tuple [.ro (ints .u8 (nats xs)), .val (.bool true)]
  | none => .tuple [.val (.slice none 0 0), .val (.bool false)]
set_option maxHeartbeats 16000000 in
set_option maxRecDepth 100000 in
theorem rfour_spec (l : List UInt8) (hl : l.length ≤ 100000) : Spec Tryz.prog 82 [.val (bstr l)] [] (fourV l) [] := by
  unfold fourV fourN
  by_cases h4 : (splitC 46 l).length = 4
  · rw [if_pos h4]
    cases h : octL (splitC 46 l) with
    | none => exact rfour_no l hl h4 h
    | some xs => exact (rfour_ok l hl h4 h).frz2 (by simp [nats])
  · rw [if_neg h4]
    have sp := split_spec l 46 (by omega)
    generalize splitC 46 l = ps at *
    have d4 : ((ps.length : Int) != 4) = true := by simp; omega
    have hl4 : (strL ps).length = ps.length := by simp [strL]
    refine spec_of_awp Tryz.func82 rfl (Nat.le_of_ble_eq_true rfl) fun ini => ?_
    simp only [Tryz.ntmps82]
    (repeat (first | refine awp_reg_seq rfl fun k => ?_ | refine awp_seq ?_ | refine awp_true rfl ?_ | (refine awp_ret ?_; (apply ends_pure ?_ ?_ ?_ ?_ ?_ (.inl rfl); rotate_left 1; (· (exact res_two rfl rfl rfl)); (· rfl); (· rfl); (· rfl); (· rfl))) | (apply runk_pure rfl rfl rfl ?_ ?_ ?_ ?_ ?_ ?_ ?_ ?_; rotate_left 6; (· (conv => (lhs; whnf))); (· exact Tryz.func97); (· rfl); (· rfl); (· exact (sp)); (· (repeat (first | exact Rens.nil | (refine Rens.cons ?_ ?_; (· ((refine Ren.pureR ?_ rfl; (rfl)))))))); (· ((simp; done)))) | (apply runk0 rfl rfl (opok_move rfl ?_) ?_; rotate_left 1; (· (conv => (lhs; whnf)))) | (apply runk0 rfl rfl (opok_assign rfl ?_) ?_; rotate_left 1; (· (conv => (lhs; whnf)))) | (apply runk0 rfl rfl (opok_bin rfl ?_ ?_ ?_) ?_; rotate_left 3; (· (conv => (lhs; whnf))); (· (conv => (lhs; whnf))); (· (intro w; go_simp; rfl))) | (((apply runk0 rfl rfl (opok_len rfl ?_ ?_ ?_) ?_; rotate_left 3; (· (conv => (lhs; whnf))); (· (conv => (lhs; whnf; arg 1; whnf))); (· rfl)))) | refine runk_end (by kernel_rfl) ?_))
set_option maxHeartbeats 16000000 in
set_option maxRecDepth 100000 in
theorem rgs_ok (l : List UInt8) (hl : l.length ≤ 100000) (hne : l ≠ []) {xs : List Nat} (hx : rgF (splitC 58 l) = some xs) : Spec Tryz.prog 84 [.val (bstr l)] [] (.tuple [.own 1000 0 xs.length, .val (.bool true)]) [(1000, some (0, .row 5 1 (ints .u8 (nats xs))))] := by
  have sp := split_spec l 58 (by omega)
  have hw : ∀ p ∈ splitC 58 l, p.length ≤ l.length := fun p hp => splitC_word 58 l p hp
  have hln := splitC_len 58 l
  generalize splitC 58 l = ps at *
  have dl : (l == []) = false := by cases l with
    | nil => exact absurd rfl hne
    | cons a b => rfl
  have hl4 : (strL ps).length = ps.length := by simp [strL]
  refine spec_of_awp Tryz.func84 rfl (Nat.le_of_ble_eq_true rfl) fun ini => ?_
  simp only [Tryz.ntmps84]
  (repeat (first | refine awp_reg_seq rfl fun k => ?_ | refine awp_seq ?_ | refine awp_isF rfl (by assumption) ?_ | refine awp_skip (?_ : Awp _ _ _ _ _ _) | refine awp_block ?_ | (apply runk_pure rfl rfl rfl ?_ ?_ ?_ ?_ ?_ ?_ ?_ ?_; rotate_left 6; (· (conv => (lhs; whnf))); (· exact Tryz.func97); (· rfl); (· rfl); (· exact (sp)); (· (repeat (first | exact Rens.nil | (refine Rens.cons ?_ ?_; (· ((refine Ren.pureR ?_ rfl; (rfl)))))))); (· ((simp; done)))) | (((((apply runk0 rfl rfl (opok_seql rfl ?_ ?_) ?_; rotate_left 2; (· ((conv => (lhs; whnf)); try exact rfl)); (· ((conv => (lhs; whnf)); try exact rfl))))))) | (apply runk0 rfl rfl (opok_move rfl ?_) ?_; rotate_left 1; (· (conv => (lhs; whnf)))) | (apply runk0 rfl rfl (opok_assign rfl ?_) ?_; rotate_left 1; (· (conv => (lhs; whnf)))) | (((apply runk0 rfl rfl (opok_len rfl ?_ ?_ ?_) ?_; rotate_left 3; (· (conv => (lhs; whnf))); (· (conv => (lhs; whnf; arg 1; whnf))); (· rfl)))) | refine runk_end (by kernel_rfl) ?_))
  rw [hl4]
  refine awp_adopt 4 4 5 1 rfl fun k4 => ?_
  refine awp_loop (fun m st => ∃ (i kk : Nat) (ys : List Nat), i + m = ps.length ∧ ys.length ≤ 4 * i ∧ rgF ps = (rgF (ps.drop i)).map (ys ++ ·) ∧ st.leB ⟨[(2, .val (.slice none 0 0)), (3, .val (.bool false)), (4, .own 4 kk ys.length), (5, .ro (strL ps)), (18, .ro (strL ps)), (19, .val (.int .i64 (ps.length : Int))), (20, .val (.int .i64 (i : Int)))], [(4, some (kk, .row 5 1 (ints .u8 (nats ys))))]⟩) ps.length ⟨0, k4, [], by omega, by simp, by simp, by (refine leB_of ?_ ?_; (· (repeat (first | exact EnvIs.nil | (refine EnvIs.cons ?_ ?_; (· rfl))))); (· (repeat (first | exact ObjsAre.nil | (refine ObjsAre.cons ?_ ?_; (· rfl))))))⟩ ?_
  rintro m st ⟨i, kk, ys, him, hys, hinv, hle⟩
  refine awp_less hle ?_
  clear hle st sp
  have wi : IntKind.i64.wrap ((i : Int) + 1) = ((i + 1 : Nat) : Int) := by rw [IntKind.wrap_i64]; omega
  have wl : IntKind.i64.wrap ((ps.length : Int) - 1) = (ps.length : Int) - 1 := by rw [IntKind.wrap_i64]; omega
  obtain ⟨j, hj⟩ : ∃ j, i + 1 = j := ⟨_, rfl⟩
  rw [hj] at wi
  have hny : (nats ys).length = ys.length := by simp [nats]
  have htk : List.take ys.length (nats ys) = nats ys := by rw [← hny, List.take_length]
  (repeat (first | refine awp_reg_seq rfl fun k => ?_ | refine awp_seq ?_ | (apply runk0 rfl rfl (opok_bin rfl ?_ ?_ ?_) ?_; rotate_left 3; (· (conv => (lhs; whnf))); (· (conv => (lhs; whnf))); (· (intro w; go_simp; first | done | rfl))) | refine runk_end (by kernel_rfl) ?_))
  refine awp_if rfl (fun hc => ?_) (fun hc => ?_)
  · have hi4 : i < ps.length := by simp at hc; omega
    clear hc
    obtain ⟨p, hp⟩ : ∃ p, ps[i]? = some p := ⟨_, List.getElem?_eq_getElem hi4⟩
    have hpl : p.length ≤ 100000 := by have := hw p (List.mem_of_getElem? hp); omega
    have hX : (strL ps)[i]? = some (.val (bstr p)) := by simp [strL, hp]
    have hst := rgF_step hp
    rw [hj] at hst
    have ct := contains_spec p 46
    by_cases c : (decide (j = ps.length) && hasB p 46) = true
    · rw [if_pos c] at hst
      rw [Bool.and_eq_true, decide_eq_true_iff] at c
      obtain ⟨c2, c3⟩ := c
      rw [c3] at ct
      have d1 : ((i : Int) == (ps.length : Int) - 1) = true := by simp; omega
      have fs := rfour_spec p hpl
      unfold fourV at fs
      cases e4 : fourN p with
      | none =>
        rw [e4] at fs hst
        dsimp only at fs
        exact absurd hx (by rw [hinv, hst]; simp)
      | some zs =>
        rw [e4] at fs hst
        dsimp only at fs
        have hz4 : zs.length = 4 := by
          unfold fourN at e4
          by_cases h4 : (splitC 46 p).length = 4
          · rw [if_pos h4] at e4
            rw [octL_len _ _ e4, h4]
          · rw [if_neg h4] at e4; cases e4
        have hnz : (nats zs).length = 4 := by simp [nats, hz4]
        have hdr : ps.drop j = [] := List.drop_of_length_le (by omega)
        have hnew : rgF ps = (rgF (ps.drop j)).map ((ys ++ zs) ++ ·) := by rw [hinv, hst, hdr]; simp [rgF]
        have hyi : nats (ys ++ zs) = List.take ys.length (nats ys) ++ nats zs := by rw [htk]; simp [nats]
        have hyl : (ys ++ zs).length = (ints .u8 (List.take ys.length (nats ys) ++ nats zs)).length := by rw [← hyi]; simp [ints, nats]
        (repeat (first | refine awp_reg_seq rfl fun k => ?_ | refine awp_reg rfl fun k => ?_ | refine awp_seq ?_ | refine awp_true rfl ?_ | refine awp_false rfl ?_ | refine awp_skip (?_ : Awp _ _ _ _ _ _) | refine awp_block ?_ | refine awp_exit (?_ : Awp _ _ _ _ _ _) | (apply runk_pure rfl rfl rfl ?_ ?_ ?_ ?_ ?_ ?_ ?_ ?_; rotate_left 6; (· (conv => (lhs; whnf))); (· exact Tryz.func82); (· rfl); (· rfl); (· exact (fs)); (· (repeat (first | exact Rens.nil | (refine Rens.cons ?_ ?_; (· ((refine Ren.pureR ?_ rfl; (rfl)))))))); (· (simp [AVal.pure, AVal.pures, AObj.pure]))) | (apply runk_guard rfl rfl ?_ rfl ?_ ?_; rotate_left 3; (· (conv => (lhs; whnf))); (· (intro hb; (try rw [hb]); apply opok_pure rfl ?_ ?_ ?_ ?_ ?_ ?_ ?_; rotate_left 6; (· (conv => (lhs; whnf))); (· exact Tryz.func75); (· rfl); (· rfl); (· exact (ct)); (· (repeat (first | exact Rens.nil | (refine Rens.cons ?_ ?_; (· ((refine Ren.pureR ?_ rfl; (rfl)))))))); (· rfl)))) | (((apply runk0 rfl rfl (opok_index_ro rfl ?_ ?_ ?_ ?_ ?_ ?_ ?_) ?_; rotate_left 6; (· (conv => (lhs; whnf))); (· (conv => (lhs; whnf))); (· (conv => (lhs; whnf; arg 1; whnf))); (· (unfold sizeIs; conv => (lhs; whnf; arg 1; whnf))); (· simp); (· omega); (· simp only [Int.toNat_natCast]; exact hX)))) | ((refine runk_ung rfl rfl rfl rfl ?_)) | (apply runk0 rfl rfl (opok_move rfl ?_) ?_; rotate_left 1; (· (conv => (lhs; whnf)))) | (apply runk_assignOwn rfl rfl rfl ?_ ?_ ?_; rotate_left 4; (· (conv => (lhs; whnf))); (· (conv => (lhs; whnf; arg 1; whnf)))) | (apply runk0 rfl rfl (opok_assign rfl ?_) ?_; rotate_left 1; (· (conv => (lhs; whnf)))) | (((apply runk0 rfl rfl (opok_loadR rfl ?_ ?_ ?_) ?_; rotate_left 2; (· (conv => (lhs; whnf))); (· rfl); (· (conv => (lhs; whnf; arg 1; whnf)))))) | (apply runk0 rfl rfl (opok_bin rfl ?_ ?_ ?_) ?_; rotate_left 3; (· (conv => (lhs; whnf))); (· (conv => (lhs; whnf))); (· (intro w; go_simp; rfl))) | (apply runk0 rfl rfl (opok_un rfl ?_ ?_) ?_; rotate_left 2; (· (conv => (lhs; whnf))); (· (intro w; go_simp; rfl))) | (((apply runk0 rfl rfl (opok_len rfl ?_ ?_ ?_) ?_; rotate_left 3; (· (conv => (lhs; whnf))); (· (conv => (lhs; whnf; arg 1; whnf))); (· rfl)))) | (apply runk0 rfl rfl (opok_pick rfl ?_ ?_) ?_; rotate_left 2; (· (conv => (lhs; whnf))); (· (exact pick_and))) | (apply runk0 rfl rfl (opok_extract rfl ?_ ?_) ?_; rotate_left 2; (· (conv => (lhs; whnf))); (· (conv => (lhs; whnf; arg 1; whnf)))) | refine runk_end (by kernel_rfl) ?_ | (apply runk_app rfl rfl rfl ?_ ?_ ?_ ?_ ?_ ?_ ?_ ?_ ?_ ?_ ?_ ?_ ?_ ?_ ?_ ?_; rotate_left 11; (· (conv => (lhs; whnf))); (· (conv => (lhs; whnf))); (· (conv => (lhs; whnf; arg 1; whnf))); (· (unfold sizeIs; conv => (lhs; whnf; arg 1; whnf))); (· (conv => (lhs; whnf; arg 1; whnf))); (· (conv => (lhs; whnf; arg 1; whnf))); (· rfl); (· rfl); (· rfl); (· ((refine .pre _ _ _ _ rfl ?_ ?_; (· ((simp; omega))); (· (exact widths_ints _ _))))); (· (exact .ro _)); (· (exact widths_ints _ _)); (· (exact one_ints _ _)); (· ((simp; omega))); (· ((simp only [List.nil_append, ints_takeR, ints_dropR, ints_one, ints_consR, ints_append]; rfl))))))
        rename_i kz
        exact ⟨m - 1, by omega, j, kz, ys ++ zs, by omega, by simp; omega, hnew, by rw [hyi, hyl]; (refine leB_of ?_ ?_; (· (repeat (first | exact EnvIs.nil | (refine EnvIs.cons ?_ ?_; (· first | rfl | ((conv => (lhs; whnf)); ((simp []; omega)))))))); (· (repeat (first | exact ObjsAre.nil | (refine ObjsAre.cons ?_ ?_; (· rfl))))))⟩
    · rw [if_neg c] at hst
      have hd1 : ((i : Int) == (ps.length : Int) - 1) = decide (j = ps.length) := by rw [Bool.eq_iff_iff, beq_iff_eq, decide_eq_true_iff]; omega
      have hcc : decide (j = ps.length) = false ∨ decide (j = ps.length) = true ∧ hasB p 46 = false := by
        cases h1 : decide (j = ps.length)
        · exact .inl rfl
        · cases h2 : hasB p 46
          · exact .inr ⟨rfl, rfl⟩
          · exact absurd (by rw [h1, h2]; rfl) c
      have htail : ∀ (b1 : Bool), ((i : Int) == (ps.length : Int) - 1) = b1 → (b1 = true → hasB p 46 = false) → True := fun _ _ _ => trivial
      clear htail c
      have hg : grpN p = if 1 ≤ p.length ∧ p.length ≤ 4 then hexN 0 p else none := by
        unfold grpN hexP
        by_cases h1 : p = []
        · subst h1; rfl
        · have : 1 ≤ p.length := by cases p; exact absurd rfl h1; simp
          by_cases h2 : p.length ≤ 4
          · rw [if_pos h2, if_neg h1, if_pos ⟨this, h2⟩]
          · rw [if_neg h2, if_neg (by omega)]
      rw [hg] at hst
      clear hg
      have hbl : (bints p).length = p.length := by simp [bints]
      by_cases hd0 : decide (j = ps.length) = false
      · rw [hd0] at hd1
        by_cases hln4 : 1 ≤ p.length ∧ p.length ≤ 4
        · rw [if_pos hln4] at hst
          have f1 : decide ((p.length : Int) < 1) = false := decide_eq_false (by omega)
          have f2 : decide ((p.length : Int) > 4) = false := decide_eq_false (by omega)
          have f3 : decide (4 < (p.length : Int)) = false := decide_eq_false (by omega)
          have f4 : decide (p.length < 1) = false := decide_eq_false (by omega)
          have f5 : decide (4 < p.length) = false := decide_eq_false (by omega)
          (repeat (first | refine awp_reg_seq rfl fun k => ?_ | refine awp_seq ?_ | refine awp_false rfl ?_ | refine awp_skip (?_ : Awp _ _ _ _ _ _) | refine awp_block ?_ | (((apply runk0 rfl rfl (opok_convL rfl ?_ rfl rfl rfl) ?_; rotate_left 1; (· ((conv => (lhs; whnf)); try exact rfl))))) | (((apply runk0 rfl rfl (opok_index_ro rfl ?_ ?_ ?_ ?_ ?_ ?_ ?_) ?_; rotate_left 6; (· (conv => (lhs; whnf))); (· (conv => (lhs; whnf))); (· (conv => (lhs; whnf; arg 1; whnf))); (· (unfold sizeIs; conv => (lhs; whnf; arg 1; whnf))); (· simp); (· omega); (· simp only [Int.toNat_natCast]; exact hX)))) | (((((apply runk0 rfl rfl (opok_slen rfl ?_ rfl) ?_; rotate_left 1; (· ((conv => (lhs; whnf)); try exact rfl))))))) | (((((apply runk_guard rfl rfl ?_ rfl ?_ ?_; rotate_left 3; (· (conv => (lhs; whnf))); (· (intro hb; (try rw [hb]); apply opok_slen rfl ?_ rfl; rotate_left 1; (· ((conv => (lhs; whnf)); try exact rfl))))))))) | ((refine runk_ung rfl rfl rfl rfl ?_)) | ((refine runk_off rfl rfl rfl rfl rfl ?_)) | (apply runk0 rfl rfl (opok_move rfl ?_) ?_; rotate_left 1; (· (conv => (lhs; whnf)))) | (apply runk0 rfl rfl (opok_assign rfl ?_) ?_; rotate_left 1; (· (conv => (lhs; whnf)))) | (((apply runk0 rfl rfl (opok_loadR rfl ?_ ?_ ?_) ?_; rotate_left 2; (· (conv => (lhs; whnf))); (· rfl); (· (conv => (lhs; whnf; arg 1; whnf)))))) | (apply runk0 rfl rfl (opok_bin rfl ?_ ?_ ?_) ?_; rotate_left 3; (· (conv => (lhs; whnf))); (· (conv => (lhs; whnf))); (· (intro w; go_simp; rfl))) | (((apply runk0 rfl rfl (opok_len rfl ?_ ?_ ?_) ?_; rotate_left 3; (· (conv => (lhs; whnf))); (· (conv => (lhs; whnf; arg 1; whnf))); (· first | exact length_ints _ _ | rfl)))) | (apply runk0 rfl rfl (opok_pick rfl ?_ ?_) ?_; rotate_left 2; (· (conv => (lhs; whnf))); (· first | exact pick_or | (conv => (lhs; whnf)))) | refine runk_end (by kernel_rfl) ?_))
          rw [hbl]
          refine awp_loop (fun m2 st => ∃ k2 n2 : Nat, k2 + m2 = p.length ∧ hexN 0 (p.take k2) = some n2 ∧ st.leB ⟨[(2, .val (.slice none 0 0)), (3, .val (.bool false)), (4, .own 4 kk ys.length), (5, .ro (strL ps)), (7, .val (bstr p)), (10, .val (.int .i64 (n2 : Int))), (18, .ro (strL ps)), (19, .val (.int .i64 (ps.length : Int))), (20, .val (.int .i64 (i : Int))), (53, .ro (ints .u8 (bints p))), (54, .val (.int .i64 (p.length : Int))), (55, .val (.int .i64 (k2 : Int)))], [(4, some (kk, .row 5 1 (ints .u8 (nats ys))))]⟩) p.length ⟨0, 0, by omega, rfl, by (refine leB_of ?_ ?_; (· (repeat (first | exact EnvIs.nil | (refine EnvIs.cons ?_ ?_; (· rfl))))); (· (repeat (first | exact ObjsAre.nil | (refine ObjsAre.cons ?_ ?_; (· rfl))))))⟩ ?_
          rintro m2 st ⟨k2, n2, hkm, hxn, hle⟩
          refine awp_less hle ?_
          clear hle st ct f1 f2 f3 f4 f5
          have wk : IntKind.i64.wrap ((k2 : Int) + 1) = ((k2 + 1 : Nat) : Int) := by rw [IntKind.wrap_i64]; omega
          obtain ⟨k3, hk3⟩ : ∃ k3, k2 + 1 = k3 := ⟨_, rfl⟩
          rw [hk3] at wk
          have hn2 : n2 < 65536 := by
            have h1 := hexN_lt _ _ _ hxn
            have h2 : (16 : Nat) ^ (p.take k2).length ≤ 16 ^ 4 := Nat.pow_le_pow_right (by decide) (by rw [List.length_take]; omega)
            have h3 : (16 : Nat) ^ 4 = 65536 := by decide
            omega
          (repeat (first | refine awp_reg_seq rfl fun k => ?_ | refine awp_seq ?_ | (apply runk0 rfl rfl (opok_bin rfl ?_ ?_ ?_) ?_; rotate_left 3; (· (conv => (lhs; whnf))); (· (conv => (lhs; whnf))); (· (intro w; go_simp; first | done | rfl))) | refine runk_end (by kernel_rfl) ?_))
          refine awp_if rfl (fun hc => ?_) (fun hc => ?_)
          · have hk : k2 < p.length := by simp at hc; omega
            clear hc
            obtain ⟨x, hxe⟩ : ∃ x, p[k2] = x := ⟨_, rfl⟩
            have hX2 : (ints .u8 (bints p))[k2]? = some (.val (.int .u8 (x.toNat : Int))) := by simp [ints, bints, List.getElem?_eq_getElem hk, hxe]
            have ds := digit_spec x
            unfold digZ at ds
            cases e5 : hexV x with
            | none =>
              rw [e5] at ds
              dsimp only at ds
              rw [hexN_bad hk (by rw [hxe]; exact e5), Option.bind_none] at hst
              exact absurd hx (by rw [hinv, hst]; simp)
            | some d =>
              rw [e5] at ds
              dsimp only at ds
              have hd := hexV_lt e5
              have hnx := hexN_step hk hxn (by rw [hxe]; exact e5)
              rw [hk3] at hnx
              have dn1 : decide ((d : Int) < 0) = false := decide_eq_false (by omega)
              obtain ⟨n3, hn3⟩ : ∃ n3, n2 * 16 + d = n3 := ⟨_, rfl⟩
              rw [hn3] at hnx
              have w16 : IntKind.i64.wrap (16 * (n2 : Int)) = 16 * (n2 : Int) := by rw [IntKind.wrap_i64]; omega
              have wad : IntKind.i64.wrap (16 * (n2 : Int) + (d : Int)) = (n3 : Int) := by rw [IntKind.wrap_i64]; omega
              (repeat (first | refine awp_reg_seq rfl fun k => ?_ | refine awp_reg rfl fun k => ?_ | refine awp_seq ?_ | refine awp_false rfl ?_ | refine awp_skip (?_ : Awp _ _ _ _ _ _) | refine awp_block ?_ | (apply runk_pure rfl rfl rfl ?_ ?_ ?_ ?_ ?_ ?_ ?_ ?_; rotate_left 6; (· (conv => (lhs; whnf))); (· exact Tryz.func106); (· rfl); (· rfl); (· exact (ds)); (· (repeat (first | exact Rens.nil | (refine Rens.cons ?_ ?_; (· ((refine Ren.pureR ?_ rfl; (rfl)))))))); (· rfl)) | (((apply runk0 rfl rfl (opok_index_ro rfl ?_ ?_ ?_ ?_ ?_ ?_ ?_) ?_; rotate_left 6; (· (conv => (lhs; whnf))); (· (conv => (lhs; whnf))); (· (conv => (lhs; whnf; arg 1; whnf))); (· (unfold sizeIs; conv => (lhs; whnf; arg 1; whnf))); (· (exact widths_ints _ _)); (· omega); (· simp only [Int.toNat_natCast]; exact hX2)))) | (apply runk0 rfl rfl (opok_move rfl ?_) ?_; rotate_left 1; (· (conv => (lhs; whnf)))) | (apply runk0 rfl rfl (opok_assign rfl ?_) ?_; rotate_left 1; (· (conv => (lhs; whnf)))) | (((apply runk0 rfl rfl (opok_loadR rfl ?_ ?_ ?_) ?_; rotate_left 2; (· (conv => (lhs; whnf))); (· rfl); (· (conv => (lhs; whnf; arg 1; whnf)))))) | (apply runk0 rfl rfl (opok_bin rfl ?_ ?_ ?_) ?_; rotate_left 3; (· (conv => (lhs; whnf))); (· (conv => (lhs; whnf))); (· (intro w; go_simp; rfl))) | refine runk_end (by kernel_rfl) ?_))
              exact ⟨m2 - 1, by omega, k3, n3, by omega, hnx, by (refine leB_of ?_ ?_; (· (repeat (first | exact EnvIs.nil | (refine EnvIs.cons ?_ ?_; (· rfl))))); (· (repeat (first | exact ObjsAre.nil | (refine ObjsAre.cons ?_ ?_; (· rfl))))))⟩
          · have hk : k2 = p.length := by simp at hc; omega
            subst hk
            rw [List.take_length] at hxn
            rw [hxn, Option.bind_some] at hst
            have hnew : rgF ps = (rgF (ps.drop j)).map ((ys ++ [n2 / 256, n2 % 256]) ++ ·) := by rw [hinv, hst]; cases rgF (ps.drop j) <;> simp
            have hyi : nats (ys ++ [n2 / 256, n2 % 256]) = List.take ys.length (nats ys) ++ [((n2 / 256 : Nat) : Int), ((n2 % 256 : Nat) : Int)] := by rw [htk]; simp [nats]
            have hyl : (ys ++ [n2 / 256, n2 % 256]).length = (ints .u8 (List.take ys.length (nats ys) ++ [((n2 / 256 : Nat) : Int), ((n2 % 256 : Nat) : Int)])).length := by rw [← hyi]; simp [ints, nats]
            have w8a : IntKind.u8.wrap ((n2 : Int) / 256) = ((n2 / 256 : Nat) : Int) := by rw [IntKind.wrap_u8']; omega
            have w8b : IntKind.u8.wrap (n2 : Int) = ((n2 % 256 : Nat) : Int) := by rw [IntKind.wrap_u8']; omega
            generalize n2 / 256 = q1 at *
            generalize n2 % 256 = q2 at *
            (repeat (first | refine awp_reg rfl fun k => ?_ | refine awp_exit (?_ : Awp _ _ _ _ _ _) | (apply runk0 rfl rfl (opok_move rfl ?_) ?_; rotate_left 1; (· (conv => (lhs; whnf)))) | (apply runk_assignOwn rfl rfl rfl ?_ ?_ ?_; rotate_left 4; (· (conv => (lhs; whnf))); (· (conv => (lhs; whnf; arg 1; whnf)))) | (apply runk0 rfl rfl (opok_bin rfl ?_ ?_ ?_) ?_; rotate_left 3; (· (conv => (lhs; whnf))); (· (conv => (lhs; whnf))); (· (intro w; go_simp; rfl))) | (apply runk0 rfl rfl (opok_conv rfl ?_ ?_) ?_; rotate_left 2; (· (conv => (lhs; whnf))); (· (intro w; go_simp; rfl))) | (apply runk_lit rfl rfl rfl ?_ ?_ ?_ ?_ ?_ ?_ ?_ ?_ ?_ ?_ ?_; rotate_left 4; (· (conv => (lhs; whnf; arg 1; whnf))); (· (unfold sizeIs; conv => (lhs; whnf; arg 1; whnf))); (· (conv => (lhs; whnf; arg 1; whnf))); (· rfl); (· rfl); (· rfl); (· rfl); (· (repeat (first | exact PartsAre.nil _ | (apply PartsAre.cons; (· (conv => (lhs; whnf))))))); (· rfl); (· rfl)) | refine runk_end (by kernel_rfl) ?_ | (apply runk_app rfl rfl rfl ?_ ?_ ?_ ?_ ?_ ?_ ?_ ?_ ?_ ?_ ?_ ?_ ?_ ?_ ?_ ?_; rotate_left 11; (· (conv => (lhs; whnf))); (· (conv => (lhs; whnf))); (· (conv => (lhs; whnf; arg 1; whnf))); (· (unfold sizeIs; conv => (lhs; whnf; arg 1; whnf))); (· (conv => (lhs; whnf; arg 1; whnf))); (· (conv => (lhs; whnf; arg 1; whnf))); (· rfl); (· rfl); (· rfl); (· ((refine .pre _ _ _ _ rfl ?_ ?_; (· ((simp; omega))); (· (exact widths_ints _ _))))); (· ((refine .own _ _ _ _ _ _ rfl ?_; rfl))); (· rfl); (· rfl); (· ((simp; omega))); (· ((simp only [List.nil_append, ints_takeR, ints_dropR, ints_one, ints_consR, ints_append]; rfl))))))
            rename_i kz
            exact ⟨m - 1, by omega, j, kz, ys ++ [q1, q2], by omega, by simp; omega, hnew, by rw [hyi, hyl]; (refine leB_of ?_ ?_; (· (repeat (first | exact EnvIs.nil | (refine EnvIs.cons ?_ ?_; (· rfl))))); (· (repeat (first | exact ObjsAre.nil | (refine ObjsAre.cons ?_ ?_; (· rfl))))))⟩
        · rw [if_neg hln4, Option.bind_none] at hst
          by_cases h1 : p.length < 1
          · have f1 : decide ((p.length : Int) < 1) = true := decide_eq_true (by omega)
            have f4 : decide (p.length < 1) = true := decide_eq_true h1
            exact absurd hx (by rw [hinv, hst]; simp)
          · have f1 : decide ((p.length : Int) < 1) = false := decide_eq_false (by omega)
            have f4 : decide (p.length < 1) = false := decide_eq_false h1
            have f2 : decide ((p.length : Int) > 4) = true := decide_eq_true (by omega)
            have f3 : decide (4 < (p.length : Int)) = true := decide_eq_true (by omega)
            have f5 : decide (4 < p.length) = true := decide_eq_true (by omega)
            exact absurd hx (by rw [hinv, hst]; simp)
      · have hd0' : decide (j = ps.length) = true := by cases h : decide (j = ps.length) with
          | true => rfl
          | false => exact absurd h hd0
        rw [hd0'] at hd1
        rcases hcc with h | ⟨-, h46⟩
        · rw [hd0'] at h; cases h
        rw [h46] at ct
        by_cases hln4 : 1 ≤ p.length ∧ p.length ≤ 4
        · rw [if_pos hln4] at hst
          have f1 : decide ((p.length : Int) < 1) = false := decide_eq_false (by omega)
          have f2 : decide ((p.length : Int) > 4) = false := decide_eq_false (by omega)
          have f3 : decide (4 < (p.length : Int)) = false := decide_eq_false (by omega)
          have f4 : decide (p.length < 1) = false := decide_eq_false (by omega)
          have f5 : decide (4 < p.length) = false := decide_eq_false (by omega)
          (repeat (first | refine awp_reg_seq rfl fun k => ?_ | refine awp_seq ?_ | refine awp_false rfl ?_ | refine awp_skip (?_ : Awp _ _ _ _ _ _) | refine awp_block ?_ | (apply runk_guard rfl rfl ?_ rfl ?_ ?_; rotate_left 3; (· (conv => (lhs; whnf))); (· (intro hb; (try rw [hb]); apply opok_pure rfl ?_ ?_ ?_ ?_ ?_ ?_ ?_; rotate_left 6; (· (conv => (lhs; whnf))); (· exact Tryz.func75); (· rfl); (· rfl); (· exact (ct)); (· (repeat (first | exact Rens.nil | (refine Rens.cons ?_ ?_; (· ((refine Ren.pureR ?_ rfl; (rfl)))))))); (· rfl)))) | (((apply runk0 rfl rfl (opok_convL rfl ?_ rfl rfl rfl) ?_; rotate_left 1; (· ((conv => (lhs; whnf)); try exact rfl))))) | (((apply runk0 rfl rfl (opok_index_ro rfl ?_ ?_ ?_ ?_ ?_ ?_ ?_) ?_; rotate_left 6; (· (conv => (lhs; whnf))); (· (conv => (lhs; whnf))); (· (conv => (lhs; whnf; arg 1; whnf))); (· (unfold sizeIs; conv => (lhs; whnf; arg 1; whnf))); (· simp); (· omega); (· simp only [Int.toNat_natCast]; exact hX)))) | (((((apply runk0 rfl rfl (opok_slen rfl ?_ rfl) ?_; rotate_left 1; (· ((conv => (lhs; whnf)); try exact rfl))))))) | (((((apply runk_guard rfl rfl ?_ rfl ?_ ?_; rotate_left 3; (· (conv => (lhs; whnf))); (· (intro hb; (try rw [hb]); apply opok_slen rfl ?_ rfl; rotate_left 1; (· ((conv => (lhs; whnf)); try exact rfl))))))))) | ((refine runk_ung rfl rfl rfl rfl ?_)) | (apply runk0 rfl rfl (opok_move rfl ?_) ?_; rotate_left 1; (· (conv => (lhs; whnf)))) | (apply runk0 rfl rfl (opok_assign rfl ?_) ?_; rotate_left 1; (· (conv => (lhs; whnf)))) | (((apply runk0 rfl rfl (opok_loadR rfl ?_ ?_ ?_) ?_; rotate_left 2; (· (conv => (lhs; whnf))); (· rfl); (· (conv => (lhs; whnf; arg 1; whnf)))))) | (apply runk0 rfl rfl (opok_bin rfl ?_ ?_ ?_) ?_; rotate_left 3; (· (conv => (lhs; whnf))); (· (conv => (lhs; whnf))); (· (intro w; go_simp; rfl))) | (((apply runk0 rfl rfl (opok_len rfl ?_ ?_ ?_) ?_; rotate_left 3; (· (conv => (lhs; whnf))); (· (conv => (lhs; whnf; arg 1; whnf))); (· first | exact length_ints _ _ | rfl)))) | (apply runk0 rfl rfl (opok_pick rfl ?_ ?_) ?_; rotate_left 2; (· (conv => (lhs; whnf))); (· first | exact pick_or | exact pick_and)) | refine runk_end (by kernel_rfl) ?_))
          rw [hbl]
          refine awp_loop (fun m2 st => ∃ k2 n2 : Nat, k2 + m2 = p.length ∧ hexN 0 (p.take k2) = some n2 ∧ st.leB ⟨[(2, .val (.slice none 0 0)), (3, .val (.bool false)), (4, .own 4 kk ys.length), (5, .ro (strL ps)), (7, .val (bstr p)), (10, .val (.int .i64 (n2 : Int))), (18, .ro (strL ps)), (19, .val (.int .i64 (ps.length : Int))), (20, .val (.int .i64 (i : Int))), (53, .ro (ints .u8 (bints p))), (54, .val (.int .i64 (p.length : Int))), (55, .val (.int .i64 (k2 : Int)))], [(4, some (kk, .row 5 1 (ints .u8 (nats ys))))]⟩) p.length ⟨0, 0, by omega, rfl, by (refine leB_of ?_ ?_; (· (repeat (first | exact EnvIs.nil | (refine EnvIs.cons ?_ ?_; (· rfl))))); (· (repeat (first | exact ObjsAre.nil | (refine ObjsAre.cons ?_ ?_; (· rfl))))))⟩ ?_
          rintro m2 st ⟨k2, n2, hkm, hxn, hle⟩
          refine awp_less hle ?_
          clear hle st ct f1 f2 f3 f4 f5
          have wk : IntKind.i64.wrap ((k2 : Int) + 1) = ((k2 + 1 : Nat) : Int) := by rw [IntKind.wrap_i64]; omega
          obtain ⟨k3, hk3⟩ : ∃ k3, k2 + 1 = k3 := ⟨_, rfl⟩
          rw [hk3] at wk
          have hn2 : n2 < 65536 := by
            have h1 := hexN_lt _ _ _ hxn
            have h2 : (16 : Nat) ^ (p.take k2).length ≤ 16 ^ 4 := Nat.pow_le_pow_right (by decide) (by rw [List.length_take]; omega)
            have h3 : (16 : Nat) ^ 4 = 65536 := by decide
            omega
          (repeat (first | refine awp_reg_seq rfl fun k => ?_ | refine awp_seq ?_ | (apply runk0 rfl rfl (opok_bin rfl ?_ ?_ ?_) ?_; rotate_left 3; (· (conv => (lhs; whnf))); (· (conv => (lhs; whnf))); (· (intro w; go_simp; first | done | rfl))) | refine runk_end (by kernel_rfl) ?_))
          refine awp_if rfl (fun hc => ?_) (fun hc => ?_)
          · have hk : k2 < p.length := by simp at hc; omega
            clear hc
            obtain ⟨x, hxe⟩ : ∃ x, p[k2] = x := ⟨_, rfl⟩
            have hX2 : (ints .u8 (bints p))[k2]? = some (.val (.int .u8 (x.toNat : Int))) := by simp [ints, bints, List.getElem?_eq_getElem hk, hxe]
            have ds := digit_spec x
            unfold digZ at ds
            cases e5 : hexV x with
            | none =>
              rw [e5] at ds
              dsimp only at ds
              rw [hexN_bad hk (by rw [hxe]; exact e5), Option.bind_none] at hst
              exact absurd hx (by rw [hinv, hst]; simp)
            | some d =>
              rw [e5] at ds
              dsimp only at ds
              have hd := hexV_lt e5
              have hnx := hexN_step hk hxn (by rw [hxe]; exact e5)
              rw [hk3] at hnx
              have dn1 : decide ((d : Int) < 0) = false := decide_eq_false (by omega)
              obtain ⟨n3, hn3⟩ : ∃ n3, n2 * 16 + d = n3 := ⟨_, rfl⟩
              rw [hn3] at hnx
              have w16 : IntKind.i64.wrap (16 * (n2 : Int)) = 16 * (n2 : Int) := by rw [IntKind.wrap_i64]; omega
              have wad : IntKind.i64.wrap (16 * (n2 : Int) + (d : Int)) = (n3 : Int) := by rw [IntKind.wrap_i64]; omega
              (repeat (first | refine awp_reg_seq rfl fun k => ?_ | refine awp_reg rfl fun k => ?_ | refine awp_seq ?_ | refine awp_false rfl ?_ | refine awp_skip (?_ : Awp _ _ _ _ _ _) | refine awp_block ?_ | (apply runk_pure rfl rfl rfl ?_ ?_ ?_ ?_ ?_ ?_ ?_ ?_; rotate_left 6; (· (conv => (lhs; whnf))); (· exact Tryz.func106); (· rfl); (· rfl); (· exact (ds)); (· (repeat (first | exact Rens.nil | (refine Rens.cons ?_ ?_; (· ((refine Ren.pureR ?_ rfl; (rfl)))))))); (· rfl)) | (((apply runk0 rfl rfl (opok_index_ro rfl ?_ ?_ ?_ ?_ ?_ ?_ ?_) ?_; rotate_left 6; (· (conv => (lhs; whnf))); (· (conv => (lhs; whnf))); (· (conv => (lhs; whnf; arg 1; whnf))); (· (unfold sizeIs; conv => (lhs; whnf; arg 1; whnf))); (· (exact widths_ints _ _)); (· omega); (· simp only [Int.toNat_natCast]; exact hX2)))) | (apply runk0 rfl rfl (opok_move rfl ?_) ?_; rotate_left 1; (· (conv => (lhs; whnf)))) | (apply runk0 rfl rfl (opok_assign rfl ?_) ?_; rotate_left 1; (· (conv => (lhs; whnf)))) | (((apply runk0 rfl rfl (opok_loadR rfl ?_ ?_ ?_) ?_; rotate_left 2; (· (conv => (lhs; whnf))); (· rfl); (· (conv => (lhs; whnf; arg 1; whnf)))))) | (apply runk0 rfl rfl (opok_bin rfl ?_ ?_ ?_) ?_; rotate_left 3; (· (conv => (lhs; whnf))); (· (conv => (lhs; whnf))); (· (intro w; go_simp; rfl))) | refine runk_end (by kernel_rfl) ?_))
              exact ⟨m2 - 1, by omega, k3, n3, by omega, hnx, by (refine leB_of ?_ ?_; (· (repeat (first | exact EnvIs.nil | (refine EnvIs.cons ?_ ?_; (· rfl))))); (· (repeat (first | exact ObjsAre.nil | (refine ObjsAre.cons ?_ ?_; (· rfl))))))⟩
          · have hk : k2 = p.length := by simp at hc; omega
            subst hk
            rw [List.take_length] at hxn
            rw [hxn, Option.bind_some] at hst
            have hnew : rgF ps = (rgF (ps.drop j)).map ((ys ++ [n2 / 256, n2 % 256]) ++ ·) := by rw [hinv, hst]; cases rgF (ps.drop j) <;> simp
            have hyi : nats (ys ++ [n2 / 256, n2 % 256]) = List.take ys.length (nats ys) ++ [((n2 / 256 : Nat) : Int), ((n2 % 256 : Nat) : Int)] := by rw [htk]; simp [nats]
            have hyl : (ys ++ [n2 / 256, n2 % 256]).length = (ints .u8 (List.take ys.length (nats ys) ++ [((n2 / 256 : Nat) : Int), ((n2 % 256 : Nat) : Int)])).length := by rw [← hyi]; simp [ints, nats]
            have w8a : IntKind.u8.wrap ((n2 : Int) / 256) = ((n2 / 256 : Nat) : Int) := by rw [IntKind.wrap_u8']; omega
            have w8b : IntKind.u8.wrap (n2 : Int) = ((n2 % 256 : Nat) : Int) := by rw [IntKind.wrap_u8']; omega
            generalize n2 / 256 = q1 at *
            generalize n2 % 256 = q2 at *
            (repeat (first | refine awp_reg rfl fun k => ?_ | refine awp_exit (?_ : Awp _ _ _ _ _ _) | (apply runk0 rfl rfl (opok_move rfl ?_) ?_; rotate_left 1; (· (conv => (lhs; whnf)))) | (apply runk_assignOwn rfl rfl rfl ?_ ?_ ?_; rotate_left 4; (· (conv => (lhs; whnf))); (· (conv => (lhs; whnf; arg 1; whnf)))) | (apply runk0 rfl rfl (opok_bin rfl ?_ ?_ ?_) ?_; rotate_left 3; (· (conv => (lhs; whnf))); (· (conv => (lhs; whnf))); (· (intro w; go_simp; rfl))) | (apply runk0 rfl rfl (opok_conv rfl ?_ ?_) ?_; rotate_left 2; (· (conv => (lhs; whnf))); (· (intro w; go_simp; rfl))) | (apply runk_lit rfl rfl rfl ?_ ?_ ?_ ?_ ?_ ?_ ?_ ?_ ?_ ?_ ?_; rotate_left 4; (· (conv => (lhs; whnf; arg 1; whnf))); (· (unfold sizeIs; conv => (lhs; whnf; arg 1; whnf))); (· (conv => (lhs; whnf; arg 1; whnf))); (· rfl); (· rfl); (· rfl); (· rfl); (· (repeat (first | exact PartsAre.nil _ | (apply PartsAre.cons; (· (conv => (lhs; whnf))))))); (· rfl); (· rfl)) | refine runk_end (by kernel_rfl) ?_ | (apply runk_app rfl rfl rfl ?_ ?_ ?_ ?_ ?_ ?_ ?_ ?_ ?_ ?_ ?_ ?_ ?_ ?_ ?_ ?_; rotate_left 11; (· (conv => (lhs; whnf))); (· (conv => (lhs; whnf))); (· (conv => (lhs; whnf; arg 1; whnf))); (· (unfold sizeIs; conv => (lhs; whnf; arg 1; whnf))); (· (conv => (lhs; whnf; arg 1; whnf))); (· (conv => (lhs; whnf; arg 1; whnf))); (· rfl); (· rfl); (· rfl); (· ((refine .pre _ _ _ _ rfl ?_ ?_; (· ((simp; omega))); (· (exact widths_ints _ _))))); (· ((refine .own _ _ _ _ _ _ rfl ?_; rfl))); (· rfl); (· rfl); (· ((simp; omega))); (· ((simp only [List.nil_append, ints_takeR, ints_dropR, ints_one, ints_consR, ints_append]; rfl))))))
            rename_i kz
            exact ⟨m - 1, by omega, j, kz, ys ++ [q1, q2], by omega, by simp; omega, hnew, by rw [hyi, hyl]; (refine leB_of ?_ ?_; (· (repeat (first | exact EnvIs.nil | (refine EnvIs.cons ?_ ?_; (· rfl))))); (· (repeat (first | exact ObjsAre.nil | (refine ObjsAre.cons ?_ ?_; (· rfl))))))⟩
        · rw [if_neg hln4, Option.bind_none] at hst
          by_cases h1 : p.length < 1
          · have f1 : decide ((p.length : Int) < 1) = true := decide_eq_true (by omega)
            have f4 : decide (p.length < 1) = true := decide_eq_true h1
            exact absurd hx (by rw [hinv, hst]; simp)
          · have f1 : decide ((p.length : Int) < 1) = false := decide_eq_false (by omega)
            have f4 : decide (p.length < 1) = false := decide_eq_false h1
            have f2 : decide ((p.length : Int) > 4) = true := decide_eq_true (by omega)
            have f3 : decide (4 < (p.length : Int)) = true := decide_eq_true (by omega)
            have f5 : decide (4 < p.length) = true := decide_eq_true (by omega)
            exact absurd hx (by rw [hinv, hst]; simp)
  · have hi4 : i = ps.length := by simp at hc; omega
    have hdr : ps.drop i = [] := List.drop_of_length_le (by omega)
    rw [hdr] at hinv
    have hxs : xs = ys := by rw [hinv] at hx; simpa [rgF] using hx.symm
    subst hxs
    (repeat (first | refine awp_reg_seq rfl fun k => ?_ | refine awp_exit (?_ : Awp _ _ _ _ _ _) | (refine awp_ret ?_; (apply ends_own2 rfl ?_ ?_ ?_ ?_ ?_ ?_ ?_ ?_ ?_ ?_ (.inl rfl); rotate_left 6; (· (conv => (lhs; whnf))); (· (conv => (lhs; whnf))); (· (conv => (lhs; whnf; arg 1; whnf))); (· rfl); (· rfl); (· rfl); (· rfl); (· ((simp [AVal.pure, AVal.pures, AObj.pure]; done))); (· rfl); (· rfl))) | (apply runk0 rfl rfl (opok_move rfl ?_) ?_; rotate_left 1; (· (conv => (lhs; whnf)))) | (apply runk_assignOwn rfl rfl rfl ?_ ?_ ?_; rotate_left 4; (· (conv => (lhs; whnf))); (· (conv => (lhs; whnf; arg 1; whnf)))) | (apply runk0 rfl rfl (opok_assign rfl ?_) ?_; rotate_left 1; (· (conv => (lhs; whnf)))) | refine runk_end (by kernel_rfl) ?_))
set_option maxHeartbeats 16000000 in
set_option maxRecDepth 100000 in
theorem rgs_no (l : List UInt8) (hl : l.length ≤ 100000) (hne : l ≠ []) (hx : rgF (splitC 58 l) = none) : Spec Tryz.prog 84 [.val (bstr l)] [] (.tuple [.val (.slice none 0 0), .val (.bool false)]) [] := by
  have sp := split_spec l 58 (by omega)
  have hw : ∀ p ∈ splitC 58 l, p.length ≤ l.length := fun p hp => splitC_word 58 l p hp
  have hln := splitC_len 58 l
  generalize splitC 58 l = ps at *
  have dl : (l == []) = false := by cases l with
    | nil => exact absurd rfl hne
    | cons a b => rfl
  have hl4 : (strL ps).length = ps.length := by simp [strL]
  refine spec_of_awp Tryz.func84 rfl (Nat.le_of_ble_eq_true rfl) fun ini => ?_
  simp only [Tryz.ntmps84]
  (repeat (first | refine awp_reg_seq rfl fun k => ?_ | refine awp_seq ?_ | refine awp_isF rfl (by assumption) ?_ | refine awp_skip (?_ : Awp _ _ _ _ _ _) | refine awp_block ?_ | (apply runk_pure rfl rfl rfl ?_ ?_ ?_ ?_ ?_ ?_ ?_ ?_; rotate_left 6; (· (conv => (lhs; whnf))); (· exact Tryz.func97); (· rfl); (· rfl); (· exact (sp)); (· (repeat (first | exact Rens.nil | (refine Rens.cons ?_ ?_; (· ((refine Ren.pureR ?_ rfl; (rfl)))))))); (· ((simp; done)))) | (((((apply runk0 rfl rfl (opok_seql rfl ?_ ?_) ?_; rotate_left 2; (· ((conv => (lhs; whnf)); try exact rfl)); (· ((conv => (lhs; whnf)); try exact rfl))))))) | (apply runk0 rfl rfl (opok_move rfl ?_) ?_; rotate_left 1; (· (conv => (lhs; whnf)))) | (apply runk0 rfl rfl (opok_assign rfl ?_) ?_; rotate_left 1; (· (conv => (lhs; whnf)))) | (((apply runk0 rfl rfl (opok_len rfl ?_ ?_ ?_) ?_; rotate_left 3; (· (conv => (lhs; whnf))); (· (conv => (lhs; whnf; arg 1; whnf))); (· rfl)))) | refine runk_end (by kernel_rfl) ?_))
  rw [hl4]
  refine awp_adopt 4 4 5 1 rfl fun k4 => ?_
  refine awp_loop (fun m st => ∃ (i kk : Nat) (ys : List Nat), i + m = ps.length ∧ ys.length ≤ 4 * i ∧ rgF ps = (rgF (ps.drop i)).map (ys ++ ·) ∧ st.leB ⟨[(2, .val (.slice none 0 0)), (3, .val (.bool false)), (4, .own 4 kk ys.length), (5, .ro (strL ps)), (18, .ro (strL ps)), (19, .val (.int .i64 (ps.length : Int))), (20, .val (.int .i64 (i : Int)))], [(4, some (kk, .row 5 1 (ints .u8 (nats ys))))]⟩) ps.length ⟨0, k4, [], by omega, by simp, by simp, by (refine leB_of ?_ ?_; (· (repeat (first | exact EnvIs.nil | (refine EnvIs.cons ?_ ?_; (· rfl))))); (· (repeat (first | exact ObjsAre.nil | (refine ObjsAre.cons ?_ ?_; (· rfl))))))⟩ ?_
  rintro m st ⟨i, kk, ys, him, hys, hinv, hle⟩
  refine awp_less hle ?_
  clear hle st sp
  have wi : IntKind.i64.wrap ((i : Int) + 1) = ((i + 1 : Nat) : Int) := by rw [IntKind.wrap_i64]; omega
  have wl : IntKind.i64.wrap ((ps.length : Int) - 1) = (ps.length : Int) - 1 := by rw [IntKind.wrap_i64]; omega
  obtain ⟨j, hj⟩ : ∃ j, i + 1 = j := ⟨_, rfl⟩
  rw [hj] at wi
  have hny : (nats ys).length = ys.length := by simp [nats]
  have htk : List.take ys.length (nats ys) = nats ys := by rw [← hny, List.take_length]
  (repeat (first | refine awp_reg_seq rfl fun k => ?_ | refine awp_seq ?_ | (apply runk0 rfl rfl (opok_bin rfl ?_ ?_ ?_) ?_; rotate_left 3; (· (conv => (lhs; whnf))); (· (conv => (lhs; whnf))); (· (intro w; go_simp; first | done | rfl))) | refine runk_end (by kernel_rfl) ?_))
  refine awp_if rfl (fun hc => ?_) (fun hc => ?_)
  · have hi4 : i < ps.length := by simp at hc; omega
    clear hc
    obtain ⟨p, hp⟩ : ∃ p, ps[i]? = some p := ⟨_, List.getElem?_eq_getElem hi4⟩
    have hpl : p.length ≤ 100000 := by have := hw p (List.mem_of_getElem? hp); omega
    have hX : (strL ps)[i]? = some (.val (bstr p)) := by simp [strL, hp]
    have hst := rgF_step hp
    rw [hj] at hst
    have ct := contains_spec p 46
    by_cases c : (decide (j = ps.length) && hasB p 46) = true
    · rw [if_pos c] at hst
      rw [Bool.and_eq_true, decide_eq_true_iff] at c
      obtain ⟨c2, c3⟩ := c
      rw [c3] at ct
      have d1 : ((i : Int) == (ps.length : Int) - 1) = true := by simp; omega
      have fs := rfour_spec p hpl
      unfold fourV at fs
      cases e4 : fourN p with
      | none =>
        rw [e4] at fs hst
        dsimp only at fs
        (repeat (first | refine awp_reg_seq rfl fun k => ?_ | refine awp_seq ?_ | refine awp_true rfl ?_ | refine awp_skip (?_ : Awp _ _ _ _ _ _) | refine awp_block ?_ | (refine awp_ret ?_; (apply ends_pure ?_ ?_ ?_ ?_ ?_ (.inl rfl); rotate_left 1; (· (exact res_two rfl rfl rfl)); (· rfl); (· rfl); (· rfl); (· rfl))) | (apply runk_pure rfl rfl rfl ?_ ?_ ?_ ?_ ?_ ?_ ?_ ?_; rotate_left 6; (· (conv => (lhs; whnf))); (· exact Tryz.func82); (· rfl); (· rfl); (· exact (fs)); (· (repeat (first | exact Rens.nil | (refine Rens.cons ?_ ?_; (· ((refine Ren.pureR ?_ rfl; (rfl)))))))); (· rfl)) | (apply runk_guard rfl rfl ?_ rfl ?_ ?_; rotate_left 3; (· (conv => (lhs; whnf))); (· (intro hb; (try rw [hb]); apply opok_pure rfl ?_ ?_ ?_ ?_ ?_ ?_ ?_; rotate_left 6; (· (conv => (lhs; whnf))); (· exact Tryz.func75); (· rfl); (· rfl); (· exact (ct)); (· (repeat (first | exact Rens.nil | (refine Rens.cons ?_ ?_; (· ((refine Ren.pureR ?_ rfl; (rfl)))))))); (· rfl)))) | (((apply runk0 rfl rfl (opok_index_ro rfl ?_ ?_ ?_ ?_ ?_ ?_ ?_) ?_; rotate_left 6; (· (conv => (lhs; whnf))); (· (conv => (lhs; whnf))); (· (conv => (lhs; whnf; arg 1; whnf))); (· (unfold sizeIs; conv => (lhs; whnf; arg 1; whnf))); (· simp); (· omega); (· simp only [Int.toNat_natCast]; exact hX)))) | ((refine runk_ung rfl rfl rfl rfl ?_)) | (apply runk0 rfl rfl (opok_move rfl ?_) ?_; rotate_left 1; (· (conv => (lhs; whnf)))) | (apply runk0 rfl rfl (opok_assign rfl ?_) ?_; rotate_left 1; (· (conv => (lhs; whnf)))) | (((apply runk0 rfl rfl (opok_loadR rfl ?_ ?_ ?_) ?_; rotate_left 2; (· (conv => (lhs; whnf))); (· rfl); (· (conv => (lhs; whnf; arg 1; whnf)))))) | (apply runk0 rfl rfl (opok_bin rfl ?_ ?_ ?_) ?_; rotate_left 3; (· (conv => (lhs; whnf))); (· (conv => (lhs; whnf))); (· (intro w; go_simp; rfl))) | (apply runk0 rfl rfl (opok_un rfl ?_ ?_) ?_; rotate_left 2; (· (conv => (lhs; whnf))); (· (intro w; go_simp; rfl))) | (((apply runk0 rfl rfl (opok_len rfl ?_ ?_ ?_) ?_; rotate_left 3; (· (conv => (lhs; whnf))); (· (conv => (lhs; whnf; arg 1; whnf))); (· rfl)))) | (apply runk0 rfl rfl (opok_pick rfl ?_ ?_) ?_; rotate_left 2; (· (conv => (lhs; whnf))); (· (exact pick_and))) | (apply runk0 rfl rfl (opok_extract rfl ?_ ?_) ?_; rotate_left 2; (· (conv => (lhs; whnf))); (· (conv => (lhs; whnf; arg 1; whnf)))) | refine runk_end (by kernel_rfl) ?_))
      | some zs =>
        rw [e4] at fs hst
        dsimp only at fs
        have hz4 : zs.length = 4 := by
          unfold fourN at e4
          by_cases h4 : (splitC 46 p).length = 4
          · rw [if_pos h4] at e4
            rw [octL_len _ _ e4, h4]
          · rw [if_neg h4] at e4; cases e4
        have hnz : (nats zs).length = 4 := by simp [nats, hz4]
        have hdr : ps.drop j = [] := List.drop_of_length_le (by omega)
        have hnew : rgF ps = (rgF (ps.drop j)).map ((ys ++ zs) ++ ·) := by rw [hinv, hst, hdr]; simp [rgF]
        have hyi : nats (ys ++ zs) = List.take ys.length (nats ys) ++ nats zs := by rw [htk]; simp [nats]
        have hyl : (ys ++ zs).length = (ints .u8 (List.take ys.length (nats ys) ++ nats zs)).length := by rw [← hyi]; simp [ints, nats]
        (repeat (first | refine awp_reg_seq rfl fun k => ?_ | refine awp_reg rfl fun k => ?_ | refine awp_seq ?_ | refine awp_true rfl ?_ | refine awp_false rfl ?_ | refine awp_skip (?_ : Awp _ _ _ _ _ _) | refine awp_block ?_ | refine awp_exit (?_ : Awp _ _ _ _ _ _) | (apply runk_pure rfl rfl rfl ?_ ?_ ?_ ?_ ?_ ?_ ?_ ?_; rotate_left 6; (· (conv => (lhs; whnf))); (· exact Tryz.func82); (· rfl); (· rfl); (· exact (fs)); (· (repeat (first | exact Rens.nil | (refine Rens.cons ?_ ?_; (· ((refine Ren.pureR ?_ rfl; (rfl)))))))); (· (simp [AVal.pure, AVal.pures, AObj.pure]))) | (apply runk_guard rfl rfl ?_ rfl ?_ ?_; rotate_left 3; (· (conv => (lhs; whnf))); (· (intro hb; (try rw [hb]); apply opok_pure rfl ?_ ?_ ?_ ?_ ?_ ?_ ?_; rotate_left 6; (· (conv => (lhs; whnf))); (· exact Tryz.func75); (· rfl); (· rfl); (· exact (ct)); (· (repeat (first | exact Rens.nil | (refine Rens.cons ?_ ?_; (· ((refine Ren.pureR ?_ rfl; (rfl)))))))); (· rfl)))) | (((apply runk0 rfl rfl (opok_index_ro rfl ?_ ?_ ?_ ?_ ?_ ?_ ?_) ?_; rotate_left 6; (· (conv => (lhs; whnf))); (· (conv => (lhs; whnf))); (· (conv => (lhs; whnf; arg 1; whnf))); (· (unfold sizeIs; conv => (lhs; whnf; arg 1; whnf))); (· simp); (· omega); (· simp only [Int.toNat_natCast]; exact hX)))) | ((refine runk_ung rfl rfl rfl rfl ?_)) | (apply runk0 rfl rfl (opok_move rfl ?_) ?_; rotate_left 1; (· (conv => (lhs; whnf)))) | (apply runk_assignOwn rfl rfl rfl ?_ ?_ ?_; rotate_left 4; (· (conv => (lhs; whnf))); (· (conv => (lhs; whnf; arg 1; whnf)))) | (apply runk0 rfl rfl (opok_assign rfl ?_) ?_; rotate_left 1; (· (conv => (lhs; whnf)))) | (((apply runk0 rfl rfl (opok_loadR rfl ?_ ?_ ?_) ?_; rotate_left 2; (· (conv => (lhs; whnf))); (· rfl); (· (conv => (lhs; whnf; arg 1; whnf)))))) | (apply runk0 rfl rfl (opok_bin rfl ?_ ?_ ?_) ?_; rotate_left 3; (· (conv => (lhs; whnf))); (· (conv => (lhs; whnf))); (· (intro w; go_simp; rfl))) | (apply runk0 rfl rfl (opok_un rfl ?_ ?_) ?_; rotate_left 2; (· (conv => (lhs; whnf))); (· (intro w; go_simp; rfl))) | (((apply runk0 rfl rfl (opok_len rfl ?_ ?_ ?_) ?_; rotate_left 3; (· (conv => (lhs; whnf))); (· (conv => (lhs; whnf; arg 1; whnf))); (· rfl)))) | (apply runk0 rfl rfl (opok_pick rfl ?_ ?_) ?_; rotate_left 2; (· (conv => (lhs; whnf))); (· (exact pick_and))) | (apply runk0 rfl rfl (opok_extract rfl ?_ ?_) ?_; rotate_left 2; (· (conv => (lhs; whnf))); (· (conv => (lhs; whnf; arg 1; whnf)))) | refine runk_end (by kernel_rfl) ?_ | (apply runk_app rfl rfl rfl ?_ ?_ ?_ ?_ ?_ ?_ ?_ ?_ ?_ ?_ ?_ ?_ ?_ ?_ ?_ ?_; rotate_left 11; (· (conv => (lhs; whnf))); (· (conv => (lhs; whnf))); (· (conv => (lhs; whnf; arg 1; whnf))); (· (unfold sizeIs; conv => (lhs; whnf; arg 1; whnf))); (· (conv => (lhs; whnf; arg 1; whnf))); (· (conv => (lhs; whnf; arg 1; whnf))); (· rfl); (· rfl); (· rfl); (· ((refine .pre _ _ _ _ rfl ?_ ?_; (· ((simp; omega))); (· (exact widths_ints _ _))))); (· (exact .ro _)); (· (exact widths_ints _ _)); (· (exact one_ints _ _)); (· ((simp; omega))); (· ((simp only [List.nil_append, ints_takeR, ints_dropR, ints_one, ints_consR, ints_append]; rfl))))))
        rename_i kz
        exact ⟨m - 1, by omega, j, kz, ys ++ zs, by omega, by simp; omega, hnew, by rw [hyi, hyl]; (refine leB_of ?_ ?_; (· (repeat (first | exact EnvIs.nil | (refine EnvIs.cons ?_ ?_; (· first | rfl | ((conv => (lhs; whnf)); ((simp []; omega)))))))); (· (repeat (first | exact ObjsAre.nil | (refine ObjsAre.cons ?_ ?_; (· rfl))))))⟩
    · rw [if_neg c] at hst
      have hd1 : ((i : Int) == (ps.length : Int) - 1) = decide (j = ps.length) := by rw [Bool.eq_iff_iff, beq_iff_eq, decide_eq_true_iff]; omega
      have hcc : decide (j = ps.length) = false ∨ decide (j = ps.length) = true ∧ hasB p 46 = false := by
        cases h1 : decide (j = ps.length)
        · exact .inl rfl
        · cases h2 : hasB p 46
          · exact .inr ⟨rfl, rfl⟩
          · exact absurd (by rw [h1, h2]; rfl) c
      have htail : ∀ (b1 : Bool), ((i : Int) == (ps.length : Int) - 1) = b1 → (b1 = true → hasB p 46 = false) → True := fun _ _ _ => trivial
      clear htail c
      have hg : grpN p = if 1 ≤ p.length ∧ p.length ≤ 4 then hexN 0 p else none := by
        unfold grpN hexP
        by_cases h1 : p = []
        · subst h1; rfl
        · have : 1 ≤ p.length := by cases p; exact absurd rfl h1; simp
          by_cases h2 : p.length ≤ 4
          · rw [if_pos h2, if_neg h1, if_pos ⟨this, h2⟩]
          · rw [if_neg h2, if_neg (by omega)]
      rw [hg] at hst
      clear hg
      have hbl : (bints p).length = p.length := by simp [bints]
      by_cases hd0 : decide (j = ps.length) = false
      · rw [hd0] at hd1
        by_cases hln4 : 1 ≤ p.length ∧ p.length ≤ 4
        · rw [if_pos hln4] at hst
          have f1 : decide ((p.length : Int) < 1) = false := decide_eq_false (by omega)
          have f2 : decide ((p.length : Int) > 4) = false := decide_eq_false (by omega)
          have f3 : decide (4 < (p.length : Int)) = false := decide_eq_false (by omega)
          have f4 : decide (p.length < 1) = false := decide_eq_false (by omega)
          have f5 : decide (4 < p.length) = false := decide_eq_false (by omega)
          (repeat (first | refine awp_reg_seq rfl fun k => ?_ | refine awp_seq ?_ | refine awp_false rfl ?_ | refine awp_skip (?_ : Awp _ _ _ _ _ _) | refine awp_block ?_ | (((apply runk0 rfl rfl (opok_convL rfl ?_ rfl rfl rfl) ?_; rotate_left 1; (· ((conv => (lhs; whnf)); try exact rfl))))) | (((apply runk0 rfl rfl (opok_index_ro rfl ?_ ?_ ?_ ?_ ?_ ?_ ?_) ?_; rotate_left 6; (· (conv => (lhs; whnf))); (· (conv => (lhs; whnf))); (· (conv => (lhs; whnf; arg 1; whnf))); (· (unfold sizeIs; conv => (lhs; whnf; arg 1; whnf))); (· simp); (· omega); (· simp only [Int.toNat_natCast]; exact hX)))) | (((((apply runk0 rfl rfl (opok_slen rfl ?_ rfl) ?_; rotate_left 1; (· ((conv => (lhs; whnf)); try exact rfl))))))) | (((((apply runk_guard rfl rfl ?_ rfl ?_ ?_; rotate_left 3; (· (conv => (lhs; whnf))); (· (intro hb; (try rw [hb]); apply opok_slen rfl ?_ rfl; rotate_left 1; (· ((conv => (lhs; whnf)); try exact rfl))))))))) | ((refine runk_ung rfl rfl rfl rfl ?_)) | ((refine runk_off rfl rfl rfl rfl rfl ?_)) | (apply runk0 rfl rfl (opok_move rfl ?_) ?_; rotate_left 1; (· (conv => (lhs; whnf)))) | (apply runk0 rfl rfl (opok_assign rfl ?_) ?_; rotate_left 1; (· (conv => (lhs; whnf)))) | (((apply runk0 rfl rfl (opok_loadR rfl ?_ ?_ ?_) ?_; rotate_left 2; (· (conv => (lhs; whnf))); (· rfl); (· (conv => (lhs; whnf; arg 1; whnf)))))) | (apply runk0 rfl rfl (opok_bin rfl ?_ ?_ ?_) ?_; rotate_left 3; (· (conv => (lhs; whnf))); (· (conv => (lhs; whnf))); (· (intro w; go_simp; rfl))) | (((apply runk0 rfl rfl (opok_len rfl ?_ ?_ ?_) ?_; rotate_left 3; (· (conv => (lhs; whnf))); (· (conv => (lhs; whnf; arg 1; whnf))); (· first | exact length_ints _ _ | rfl)))) | (apply runk0 rfl rfl (opok_pick rfl ?_ ?_) ?_; rotate_left 2; (· (conv => (lhs; whnf))); (· first | exact pick_or | (conv => (lhs; whnf)))) | refine runk_end (by kernel_rfl) ?_))
          rw [hbl]
          refine awp_loop (fun m2 st => ∃ k2 n2 : Nat, k2 + m2 = p.length ∧ hexN 0 (p.take k2) = some n2 ∧ st.leB ⟨[(2, .val (.slice none 0 0)), (3, .val (.bool false)), (4, .own 4 kk ys.length), (5, .ro (strL ps)), (7, .val (bstr p)), (10, .val (.int .i64 (n2 : Int))), (18, .ro (strL ps)), (19, .val (.int .i64 (ps.length : Int))), (20, .val (.int .i64 (i : Int))), (53, .ro (ints .u8 (bints p))), (54, .val (.int .i64 (p.length : Int))), (55, .val (.int .i64 (k2 : Int)))], [(4, some (kk, .row 5 1 (ints .u8 (nats ys))))]⟩) p.length ⟨0, 0, by omega, rfl, by (refine leB_of ?_ ?_; (· (repeat (first | exact EnvIs.nil | (refine EnvIs.cons ?_ ?_; (· rfl))))); (· (repeat (first | exact ObjsAre.nil | (refine ObjsAre.cons ?_ ?_; (· rfl))))))⟩ ?_
          rintro m2 st ⟨k2, n2, hkm, hxn, hle⟩
          refine awp_less hle ?_
          clear hle st ct f1 f2 f3 f4 f5
          have wk : IntKind.i64.wrap ((k2 : Int) + 1) = ((k2 + 1 : Nat) : Int) := by rw [IntKind.wrap_i64]; omega
          obtain ⟨k3, hk3⟩ : ∃ k3, k2 + 1 = k3 := ⟨_, rfl⟩
          rw [hk3] at wk
          have hn2 : n2 < 65536 := by
            have h1 := hexN_lt _ _ _ hxn
            have h2 : (16 : Nat) ^ (p.take k2).length ≤ 16 ^ 4 := Nat.pow_le_pow_right (by decide) (by rw [List.length_take]; omega)
            have h3 : (16 : Nat) ^ 4 = 65536 := by decide
            omega
          (repeat (first | refine awp_reg_seq rfl fun k => ?_ | refine awp_seq ?_ | (apply runk0 rfl rfl (opok_bin rfl ?_ ?_ ?_) ?_; rotate_left 3; (· (conv => (lhs; whnf))); (· (conv => (lhs; whnf))); (· (intro w; go_simp; first | done | rfl))) | refine runk_end (by kernel_rfl) ?_))
          refine awp_if rfl (fun hc => ?_) (fun hc => ?_)
          · have hk : k2 < p.length := by simp at hc; omega
            clear hc
            obtain ⟨x, hxe⟩ : ∃ x, p[k2] = x := ⟨_, rfl⟩
            have hX2 : (ints .u8 (bints p))[k2]? = some (.val (.int .u8 (x.toNat : Int))) := by simp [ints, bints, List.getElem?_eq_getElem hk, hxe]
            have ds := digit_spec x
            unfold digZ at ds
            cases e5 : hexV x with
            | none =>
              rw [e5] at ds
              dsimp only at ds
              rw [hexN_bad hk (by rw [hxe]; exact e5), Option.bind_none] at hst
              (repeat (first | refine awp_reg_seq rfl fun k => ?_ | refine awp_seq ?_ | refine awp_true rfl ?_ | refine awp_skip (?_ : Awp _ _ _ _ _ _) | refine awp_block ?_ | (refine awp_ret ?_; (apply ends_pure ?_ ?_ ?_ ?_ ?_ (.inl rfl); rotate_left 1; (· (exact res_two rfl rfl rfl)); (· rfl); (· rfl); (· rfl); (· rfl))) | (apply runk_pure rfl rfl rfl ?_ ?_ ?_ ?_ ?_ ?_ ?_ ?_; rotate_left 6; (· (conv => (lhs; whnf))); (· exact Tryz.func106); (· rfl); (· rfl); (· exact (ds)); (· (repeat (first | exact Rens.nil | (refine Rens.cons ?_ ?_; (· ((refine Ren.pureR ?_ rfl; (rfl)))))))); (· rfl)) | (((apply runk0 rfl rfl (opok_index_ro rfl ?_ ?_ ?_ ?_ ?_ ?_ ?_) ?_; rotate_left 6; (· (conv => (lhs; whnf))); (· (conv => (lhs; whnf))); (· (conv => (lhs; whnf; arg 1; whnf))); (· (unfold sizeIs; conv => (lhs; whnf; arg 1; whnf))); (· (exact widths_ints _ _)); (· omega); (· simp only [Int.toNat_natCast]; exact hX2)))) | (apply runk0 rfl rfl (opok_move rfl ?_) ?_; rotate_left 1; (· (conv => (lhs; whnf)))) | (apply runk0 rfl rfl (opok_assign rfl ?_) ?_; rotate_left 1; (· (conv => (lhs; whnf)))) | (((apply runk0 rfl rfl (opok_loadR rfl ?_ ?_ ?_) ?_; rotate_left 2; (· (conv => (lhs; whnf))); (· rfl); (· (conv => (lhs; whnf; arg 1; whnf)))))) | (apply runk0 rfl rfl (opok_bin rfl ?_ ?_ ?_) ?_; rotate_left 3; (· (conv => (lhs; whnf))); (· (conv => (lhs; whnf))); (· (intro w; go_simp; rfl))) | refine runk_end (by kernel_rfl) ?_))
            | some d =>
              rw [e5] at ds
              dsimp only at ds
              have hd := hexV_lt e5
              have hnx := hexN_step hk hxn (by rw [hxe]; exact e5)
              rw [hk3] at hnx
              have dn1 : decide ((d : Int) < 0) = false := decide_eq_false (by omega)
              obtain ⟨n3, hn3⟩ : ∃ n3, n2 * 16 + d = n3 := ⟨_, rfl⟩
              rw [hn3] at hnx
              have w16 : IntKind.i64.wrap (16 * (n2 : Int)) = 16 * (n2 : Int) := by rw [IntKind.wrap_i64]; omega
              have wad : IntKind.i64.wrap (16 * (n2 : Int) + (d : Int)) = (n3 : Int) := by rw [IntKind.wrap_i64]; omega
              (repeat (first | refine awp_reg_seq rfl fun k => ?_ | refine awp_reg rfl fun k => ?_ | refine awp_seq ?_ | refine awp_false rfl ?_ | refine awp_skip (?_ : Awp _ _ _ _ _ _) | refine awp_block ?_ | (apply runk_pure rfl rfl rfl ?_ ?_ ?_ ?_ ?_ ?_ ?_ ?_; rotate_left 6; (· (conv => (lhs; whnf))); (· exact Tryz.func106); (· rfl); (· rfl); (· exact (ds)); (· (repeat (first | exact Rens.nil | (refine Rens.cons ?_ ?_; (· ((refine Ren.pureR ?_ rfl; (rfl)))))))); (· rfl)) | (((apply runk0 rfl rfl (opok_index_ro rfl ?_ ?_ ?_ ?_ ?_ ?_ ?_) ?_; rotate_left 6; (· (conv => (lhs; whnf))); (· (conv => (lhs; whnf))); (· (conv => (lhs; whnf; arg 1; whnf))); (· (unfold sizeIs; conv => (lhs; whnf; arg 1; whnf))); (· (exact widths_ints _ _)); (· omega); (· simp only [Int.toNat_natCast]; exact hX2)))) | (apply runk0 rfl rfl (opok_move rfl ?_) ?_; rotate_left 1; (· (conv => (lhs; whnf)))) | (apply runk0 rfl rfl (opok_assign rfl ?_) ?_; rotate_left 1; (· (conv => (lhs; whnf)))) | (((apply runk0 rfl rfl (opok_loadR rfl ?_ ?_ ?_) ?_; rotate_left 2; (· (conv => (lhs; whnf))); (· rfl); (· (conv => (lhs; whnf; arg 1; whnf)))))) | (apply runk0 rfl rfl (opok_bin rfl ?_ ?_ ?_) ?_; rotate_left 3; (· (conv => (lhs; whnf))); (· (conv => (lhs; whnf))); (· (intro w; go_simp; rfl))) | refine runk_end (by kernel_rfl) ?_))
              exact ⟨m2 - 1, by omega, k3, n3, by omega, hnx, by (refine leB_of ?_ ?_; (· (repeat (first | exact EnvIs.nil | (refine EnvIs.cons ?_ ?_; (· rfl))))); (· (repeat (first | exact ObjsAre.nil | (refine ObjsAre.cons ?_ ?_; (· rfl))))))⟩
          · have hk : k2 = p.length := by simp at hc; omega
            subst hk
            rw [List.take_length] at hxn
            rw [hxn, Option.bind_some] at hst
            have hnew : rgF ps = (rgF (ps.drop j)).map ((ys ++ [n2 / 256, n2 % 256]) ++ ·) := by rw [hinv, hst]; cases rgF (ps.drop j) <;> simp
            have hyi : nats (ys ++ [n2 / 256, n2 % 256]) = List.take ys.length (nats ys) ++ [((n2 / 256 : Nat) : Int), ((n2 % 256 : Nat) : Int)] := by rw [htk]; simp [nats]
            have hyl : (ys ++ [n2 / 256, n2 % 256]).length = (ints .u8 (List.take ys.length (nats ys) ++ [((n2 / 256 : Nat) : Int), ((n2 % 256 : Nat) : Int)])).length := by rw [← hyi]; simp [ints, nats]
            have w8a : IntKind.u8.wrap ((n2 : Int) / 256) = ((n2 / 256 : Nat) : Int) := by rw [IntKind.wrap_u8']; omega
            have w8b : IntKind.u8.wrap (n2 : Int) = ((n2 % 256 : Nat) : Int) := by rw [IntKind.wrap_u8']; omega
            generalize n2 / 256 = q1 at *
            generalize n2 % 256 = q2 at *
            (repeat (first | refine awp_reg rfl fun k => ?_ | refine awp_exit (?_ : Awp _ _ _ _ _ _) | (apply runk0 rfl rfl (opok_move rfl ?_) ?_; rotate_left 1; (· (conv => (lhs; whnf)))) | (apply runk_assignOwn rfl rfl rfl ?_ ?_ ?_; rotate_left 4; (· (conv => (lhs; whnf))); (· (conv => (lhs; whnf; arg 1; whnf)))) | (apply runk0 rfl rfl (opok_bin rfl ?_ ?_ ?_) ?_; rotate_left 3; (· (conv => (lhs; whnf))); (· (conv => (lhs; whnf))); (· (intro w; go_simp; rfl))) | (apply runk0 rfl rfl (opok_conv rfl ?_ ?_) ?_; rotate_left 2; (· (conv => (lhs; whnf))); (· (intro w; go_simp; rfl))) | (apply runk_lit rfl rfl rfl ?_ ?_ ?_ ?_ ?_ ?_ ?_ ?_ ?_ ?_ ?_; rotate_left 4; (· (conv => (lhs; whnf; arg 1; whnf))); (· (unfold sizeIs; conv => (lhs; whnf; arg 1; whnf))); (· (conv => (lhs; whnf; arg 1; whnf))); (· rfl); (· rfl); (· rfl); (· rfl); (· (repeat (first | exact PartsAre.nil _ | (apply PartsAre.cons; (· (conv => (lhs; whnf))))))); (· rfl); (· rfl)) | refine runk_end (by kernel_rfl) ?_ | (apply runk_app rfl rfl rfl ?_ ?_ ?_ ?_ ?_ ?_ ?_ ?_ ?_ ?_ ?_ ?_ ?_ ?_ ?_ ?_; rotate_left 11; (· (conv => (lhs; whnf))); (· (conv => (lhs; whnf))); (· (conv => (lhs; whnf; arg 1; whnf))); (· (unfold sizeIs; conv => (lhs; whnf; arg 1; whnf))); (· (conv => (lhs; whnf; arg 1; whnf))); (· (conv => (lhs; whnf; arg 1; whnf))); (· rfl); (· rfl); (· rfl); (· ((refine .pre _ _ _ _ rfl ?_ ?_; (· ((simp; omega))); (· (exact widths_ints _ _))))); (· ((refine .own _ _ _ _ _ _ rfl ?_; rfl))); (· rfl); (· rfl); (· ((simp; omega))); (· ((simp only [List.nil_append, ints_takeR, ints_dropR, ints_one, ints_consR, ints_append]; rfl))))))
            rename_i kz
            exact ⟨m - 1, by omega, j, kz, ys ++ [q1, q2], by omega, by simp; omega, hnew, by rw [hyi, hyl]; (refine leB_of ?_ ?_; (· (repeat (first | exact EnvIs.nil | (refine EnvIs.cons ?_ ?_; (· rfl))))); (· (repeat (first | exact ObjsAre.nil | (refine ObjsAre.cons ?_ ?_; (· rfl))))))⟩
        · rw [if_neg hln4, Option.bind_none] at hst
          by_cases h1 : p.length < 1
          · have f1 : decide ((p.length : Int) < 1) = true := decide_eq_true (by omega)
            have f4 : decide (p.length < 1) = true := decide_eq_true h1
            (repeat (first | refine awp_reg_seq rfl fun k => ?_ | refine awp_seq ?_ | refine awp_true rfl ?_ | refine awp_false rfl ?_ | refine awp_skip (?_ : Awp _ _ _ _ _ _) | refine awp_block ?_ | (refine awp_ret ?_; (apply ends_pure ?_ ?_ ?_ ?_ ?_ (.inl rfl); rotate_left 1; (· (exact res_two rfl rfl rfl)); (· rfl); (· rfl); (· rfl); (· rfl))) | (((apply runk0 rfl rfl (opok_index_ro rfl ?_ ?_ ?_ ?_ ?_ ?_ ?_) ?_; rotate_left 6; (· (conv => (lhs; whnf))); (· (conv => (lhs; whnf))); (· (conv => (lhs; whnf; arg 1; whnf))); (· (unfold sizeIs; conv => (lhs; whnf; arg 1; whnf))); (· simp); (· omega); (· simp only [Int.toNat_natCast]; exact hX)))) | (((((apply runk0 rfl rfl (opok_slen rfl ?_ rfl) ?_; rotate_left 1; (· ((conv => (lhs; whnf)); try exact rfl))))))) | ((refine runk_off rfl rfl rfl rfl rfl ?_)) | (apply runk0 rfl rfl (opok_move rfl ?_) ?_; rotate_left 1; (· (conv => (lhs; whnf)))) | (apply runk0 rfl rfl (opok_assign rfl ?_) ?_; rotate_left 1; (· (conv => (lhs; whnf)))) | (((apply runk0 rfl rfl (opok_loadR rfl ?_ ?_ ?_) ?_; rotate_left 2; (· (conv => (lhs; whnf))); (· rfl); (· (conv => (lhs; whnf; arg 1; whnf)))))) | (apply runk0 rfl rfl (opok_bin rfl ?_ ?_ ?_) ?_; rotate_left 3; (· (conv => (lhs; whnf))); (· (conv => (lhs; whnf))); (· (intro w; go_simp; rfl))) | (((apply runk0 rfl rfl (opok_len rfl ?_ ?_ ?_) ?_; rotate_left 3; (· (conv => (lhs; whnf))); (· (conv => (lhs; whnf; arg 1; whnf))); (· rfl)))) | (apply runk0 rfl rfl (opok_pick rfl ?_ ?_) ?_; rotate_left 2; (· (conv => (lhs; whnf))); (· ((conv => (lhs; whnf))))) | refine runk_end (by kernel_rfl) ?_))
          · have f1 : decide ((p.length : Int) < 1) = false := decide_eq_false (by omega)
            have f4 : decide (p.length < 1) = false := decide_eq_false h1
            have f2 : decide ((p.length : Int) > 4) = true := decide_eq_true (by omega)
            have f3 : decide (4 < (p.length : Int)) = true := decide_eq_true (by omega)
            have f5 : decide (4 < p.length) = true := decide_eq_true (by omega)
            (repeat (first | refine awp_reg_seq rfl fun k => ?_ | refine awp_seq ?_ | refine awp_true rfl ?_ | refine awp_false rfl ?_ | refine awp_skip (?_ : Awp _ _ _ _ _ _) | refine awp_block ?_ | (refine awp_ret ?_; (apply ends_pure ?_ ?_ ?_ ?_ ?_ (.inl rfl); rotate_left 1; (· (exact res_two rfl rfl rfl)); (· rfl); (· rfl); (· rfl); (· rfl))) | (((apply runk0 rfl rfl (opok_index_ro rfl ?_ ?_ ?_ ?_ ?_ ?_ ?_) ?_; rotate_left 6; (· (conv => (lhs; whnf))); (· (conv => (lhs; whnf))); (· (conv => (lhs; whnf; arg 1; whnf))); (· (unfold sizeIs; conv => (lhs; whnf; arg 1; whnf))); (· simp); (· omega); (· simp only [Int.toNat_natCast]; exact hX)))) | (((((apply runk0 rfl rfl (opok_slen rfl ?_ rfl) ?_; rotate_left 1; (· ((conv => (lhs; whnf)); try exact rfl))))))) | (((((apply runk_guard rfl rfl ?_ rfl ?_ ?_; rotate_left 3; (· (conv => (lhs; whnf))); (· (intro hb; (try rw [hb]); apply opok_slen rfl ?_ rfl; rotate_left 1; (· ((conv => (lhs; whnf)); try exact rfl))))))))) | ((refine runk_ung rfl rfl rfl rfl ?_)) | ((refine runk_off rfl rfl rfl rfl rfl ?_)) | (apply runk0 rfl rfl (opok_move rfl ?_) ?_; rotate_left 1; (· (conv => (lhs; whnf)))) | (apply runk0 rfl rfl (opok_assign rfl ?_) ?_; rotate_left 1; (· (conv => (lhs; whnf)))) | (((apply runk0 rfl rfl (opok_loadR rfl ?_ ?_ ?_) ?_; rotate_left 2; (· (conv => (lhs; whnf))); (· rfl); (· (conv => (lhs; whnf; arg 1; whnf)))))) | (apply runk0 rfl rfl (opok_bin rfl ?_ ?_ ?_) ?_; rotate_left 3; (· (conv => (lhs; whnf))); (· (conv => (lhs; whnf))); (· (intro w; go_simp; rfl))) | (((apply runk0 rfl rfl (opok_len rfl ?_ ?_ ?_) ?_; rotate_left 3; (· (conv => (lhs; whnf))); (· (conv => (lhs; whnf; arg 1; whnf))); (· rfl)))) | (apply runk0 rfl rfl (opok_pick rfl ?_ ?_) ?_; rotate_left 2; (· (conv => (lhs; whnf))); (· first | exact pick_or | (conv => (lhs; whnf)))) | refine runk_end (by kernel_rfl) ?_))
      · have hd0' : decide (j = ps.length) = true := by cases h : decide (j = ps.length) with
          | true => rfl
          | false => exact absurd h hd0
        rw [hd0'] at hd1
        rcases hcc with h | ⟨-, h46⟩
        · rw [hd0'] at h; cases h
        rw [h46] at ct
        by_cases hln4 : 1 ≤ p.length ∧ p.length ≤ 4
        · rw [if_pos hln4] at hst
          have f1 : decide ((p.length : Int) < 1) = false := decide_eq_false (by omega)
          have f2 : decide ((p.length : Int) > 4) = false := decide_eq_false (by omega)
          have f3 : decide (4 < (p.length : Int)) = false := decide_eq_false (by omega)
          have f4 : decide (p.length < 1) = false := decide_eq_false (by omega)
          have f5 : decide (4 < p.length) = false := decide_eq_false (by omega)
          (repeat (first | refine awp_reg_seq rfl fun k => ?_ | refine awp_seq ?_ | refine awp_false rfl ?_ | refine awp_skip (?_ : Awp _ _ _ _ _ _) | refine awp_block ?_ | (apply runk_guard rfl rfl ?_ rfl ?_ ?_; rotate_left 3; (· (conv => (lhs; whnf))); (· (intro hb; (try rw [hb]); apply opok_pure rfl ?_ ?_ ?_ ?_ ?_ ?_ ?_; rotate_left 6; (· (conv => (lhs; whnf))); (· exact Tryz.func75); (· rfl); (· rfl); (· exact (ct)); (· (repeat (first | exact Rens.nil | (refine Rens.cons ?_ ?_; (· ((refine Ren.pureR ?_ rfl; (rfl)))))))); (· rfl)))) | (((apply runk0 rfl rfl (opok_convL rfl ?_ rfl rfl rfl) ?_; rotate_left 1; (· ((conv => (lhs; whnf)); try exact rfl))))) | (((apply runk0 rfl rfl (opok_index_ro rfl ?_ ?_ ?_ ?_ ?_ ?_ ?_) ?_; rotate_left 6; (· (conv => (lhs; whnf))); (· (conv => (lhs; whnf))); (· (conv => (lhs; whnf; arg 1; whnf))); (· (unfold sizeIs; conv => (lhs; whnf; arg 1; whnf))); (· simp); (· omega); (· simp only [Int.toNat_natCast]; exact hX)))) | (((((apply runk0 rfl rfl (opok_slen rfl ?_ rfl) ?_; rotate_left 1; (· ((conv => (lhs; whnf)); try exact rfl))))))) | (((((apply runk_guard rfl rfl ?_ rfl ?_ ?_; rotate_left 3; (· (conv => (lhs; whnf))); (· (intro hb; (try rw [hb]); apply opok_slen rfl ?_ rfl; rotate_left 1; (· ((conv => (lhs; whnf)); try exact rfl))))))))) | ((refine runk_ung rfl rfl rfl rfl ?_)) | (apply runk0 rfl rfl (opok_move rfl ?_) ?_; rotate_left 1; (· (conv => (lhs; whnf)))) | (apply runk0 rfl rfl (opok_assign rfl ?_) ?_; rotate_left 1; (· (conv => (lhs; whnf)))) | (((apply runk0 rfl rfl (opok_loadR rfl ?_ ?_ ?_) ?_; rotate_left 2; (· (conv => (lhs; whnf))); (· rfl); (· (conv => (lhs; whnf; arg 1; whnf)))))) | (apply runk0 rfl rfl (opok_bin rfl ?_ ?_ ?_) ?_; rotate_left 3; (· (conv => (lhs; whnf))); (· (conv => (lhs; whnf))); (· (intro w; go_simp; rfl))) | (((apply runk0 rfl rfl (opok_len rfl ?_ ?_ ?_) ?_; rotate_left 3; (· (conv => (lhs; whnf))); (· (conv => (lhs; whnf; arg 1; whnf))); (· first | exact length_ints _ _ | rfl)))) | (apply runk0 rfl rfl (opok_pick rfl ?_ ?_) ?_; rotate_left 2; (· (conv => (lhs; whnf))); (· first | exact pick_or | exact pick_and)) | refine runk_end (by kernel_rfl) ?_))
          rw [hbl]
          refine awp_loop (fun m2 st => ∃ k2 n2 : Nat, k2 + m2 = p.length ∧ hexN 0 (p.take k2) = some n2 ∧ st.leB ⟨[(2, .val (.slice none 0 0)), (3, .val (.bool false)), (4, .own 4 kk ys.length), (5, .ro (strL ps)), (7, .val (bstr p)), (10, .val (.int .i64 (n2 : Int))), (18, .ro (strL ps)), (19, .val (.int .i64 (ps.length : Int))), (20, .val (.int .i64 (i : Int))), (53, .ro (ints .u8 (bints p))), (54, .val (.int .i64 (p.length : Int))), (55, .val (.int .i64 (k2 : Int)))], [(4, some (kk, .row 5 1 (ints .u8 (nats ys))))]⟩) p.length ⟨0, 0, by omega, rfl, by (refine leB_of ?_ ?_; (· (repeat (first | exact EnvIs.nil | (refine EnvIs.cons ?_ ?_; (· rfl))))); (· (repeat (first | exact ObjsAre.nil | (refine ObjsAre.cons ?_ ?_; (· rfl))))))⟩ ?_
          rintro m2 st ⟨k2, n2, hkm, hxn, hle⟩
          refine awp_less hle ?_
          clear hle st ct f1 f2 f3 f4 f5
          have wk : IntKind.i64.wrap ((k2 : Int) + 1) = ((k2 + 1 : Nat) : Int) := by rw [IntKind.wrap_i64]; omega
          obtain ⟨k3, hk3⟩ : ∃ k3, k2 + 1 = k3 := ⟨_, rfl⟩
          rw [hk3] at wk
          have hn2 : n2 < 65536 := by
            have h1 := hexN_lt _ _ _ hxn
            have h2 : (16 : Nat) ^ (p.take k2).length ≤ 16 ^ 4 := Nat.pow_le_pow_right (by decide) (by rw [List.length_take]; omega)
            have h3 : (16 : Nat) ^ 4 = 65536 := by decide
            omega
          (repeat (first | refine awp_reg_seq rfl fun k => ?_ | refine awp_seq ?_ | (apply runk0 rfl rfl (opok_bin rfl ?_ ?_ ?_) ?_; rotate_left 3; (· (conv => (lhs; whnf))); (· (conv => (lhs; whnf))); (· (intro w; go_simp; first | done | rfl))) | refine runk_end (by kernel_rfl) ?_))
          refine awp_if rfl (fun hc => ?_) (fun hc => ?_)
          · have hk : k2 < p.length := by simp at hc; omega
            clear hc
            obtain ⟨x, hxe⟩ : ∃ x, p[k2] = x := ⟨_, rfl⟩
            have hX2 : (ints .u8 (bints p))[k2]? = some (.val (.int .u8 (x.toNat : Int))) := by simp [ints, bints, List.getElem?_eq_getElem hk, hxe]
            have ds := digit_spec x
            unfold digZ at ds
            cases e5 : hexV x with
            | none =>
              rw [e5] at ds
              dsimp only at ds
              rw [hexN_bad hk (by rw [hxe]; exact e5), Option.bind_none] at hst
              (repeat (first | refine awp_reg_seq rfl fun k => ?_ | refine awp_seq ?_ | refine awp_true rfl ?_ | refine awp_skip (?_ : Awp _ _ _ _ _ _) | refine awp_block ?_ | (refine awp_ret ?_; (apply ends_pure ?_ ?_ ?_ ?_ ?_ (.inl rfl); rotate_left 1; (· (exact res_two rfl rfl rfl)); (· rfl); (· rfl); (· rfl); (· rfl))) | (apply runk_pure rfl rfl rfl ?_ ?_ ?_ ?_ ?_ ?_ ?_ ?_; rotate_left 6; (· (conv => (lhs; whnf))); (· exact Tryz.func106); (· rfl); (· rfl); (· exact (ds)); (· (repeat (first | exact Rens.nil | (refine Rens.cons ?_ ?_; (· ((refine Ren.pureR ?_ rfl; (rfl)))))))); (· rfl)) | (((apply runk0 rfl rfl (opok_index_ro rfl ?_ ?_ ?_ ?_ ?_ ?_ ?_) ?_; rotate_left 6; (· (conv => (lhs; whnf))); (· (conv => (lhs; whnf))); (· (conv => (lhs; whnf; arg 1; whnf))); (· (unfold sizeIs; conv => (lhs; whnf; arg 1; whnf))); (· (exact widths_ints _ _)); (· omega); (· simp only [Int.toNat_natCast]; exact hX2)))) | (apply runk0 rfl rfl (opok_move rfl ?_) ?_; rotate_left 1; (· (conv => (lhs; whnf)))) | (apply runk0 rfl rfl (opok_assign rfl ?_) ?_; rotate_left 1; (· (conv => (lhs; whnf)))) | (((apply runk0 rfl rfl (opok_loadR rfl ?_ ?_ ?_) ?_; rotate_left 2; (· (conv => (lhs; whnf))); (· rfl); (· (conv => (lhs; whnf; arg 1; whnf)))))) | (apply runk0 rfl rfl (opok_bin rfl ?_ ?_ ?_) ?_; rotate_left 3; (· (conv => (lhs; whnf))); (· (conv => (lhs; whnf))); (· (intro w; go_simp; rfl))) | refine runk_end (by kernel_rfl) ?_))
            | some d =>
              rw [e5] at ds
              dsimp only at ds
              have hd := hexV_lt e5
              have hnx := hexN_step hk hxn (by rw [hxe]; exact e5)
              rw [hk3] at hnx
              have dn1 : decide ((d : Int) < 0) = false := decide_eq_false (by omega)
              obtain ⟨n3, hn3⟩ : ∃ n3, n2 * 16 + d = n3 := ⟨_, rfl⟩
              rw [hn3] at hnx
              have w16 : IntKind.i64.wrap (16 * (n2 : Int)) = 16 * (n2 : Int) := by rw [IntKind.wrap_i64]; omega
              have wad : IntKind.i64.wrap (16 * (n2 : Int) + (d : Int)) = (n3 : Int) := by rw [IntKind.wrap_i64]; omega
              (repeat (first | refine awp_reg_seq rfl fun k => ?_ | refine awp_reg rfl fun k => ?_ | refine awp_seq ?_ | refine awp_false rfl ?_ | refine awp_skip (?_ : Awp _ _ _ _ _ _) | refine awp_block ?_ | (apply runk_pure rfl rfl rfl ?_ ?_ ?_ ?_ ?_ ?_ ?_ ?_; rotate_left 6; (· (conv => (lhs; whnf))); (· exact Tryz.func106); (· rfl); (· rfl); (· exact (ds)); (· (repeat (first | exact Rens.nil | (refine Rens.cons ?_ ?_; (· ((refine Ren.pureR ?_ rfl; (rfl)))))))); (· rfl)) | (((apply runk0 rfl rfl (opok_index_ro rfl ?_ ?_ ?_ ?_ ?_ ?_ ?_) ?_; rotate_left 6; (· (conv => (lhs; whnf))); (· (conv => (lhs; whnf))); (· (conv => (lhs; whnf; arg 1; whnf))); (· (unfold sizeIs; conv => (lhs; whnf; arg 1; whnf))); (· (exact widths_ints _ _)); (· omega); (· simp only [Int.toNat_natCast]; exact hX2)))) | (apply runk0 rfl rfl (opok_move rfl ?_) ?_; rotate_left 1; (· (conv => (lhs; whnf)))) | (apply runk0 rfl rfl (opok_assign rfl ?_) ?_; rotate_left 1; (· (conv => (lhs; whnf)))) | (((apply runk0 rfl rfl (opok_loadR rfl ?_ ?_ ?_) ?_; rotate_left 2; (· (conv => (lhs; whnf))); (· rfl); (· (conv => (lhs; whnf; arg 1; whnf)))))) | (apply runk0 rfl rfl (opok_bin rfl ?_ ?_ ?_) ?_; rotate_left 3; (· (conv => (lhs; whnf))); (· (conv => (lhs; whnf))); (· (intro w; go_simp; rfl))) | refine runk_end (by kernel_rfl) ?_))
              exact ⟨m2 - 1, by omega, k3, n3, by omega, hnx, by (refine leB_of ?_ ?_; (· (repeat (first | exact EnvIs.nil | (refine EnvIs.cons ?_ ?_; (· rfl))))); (· (repeat (first | exact ObjsAre.nil | (refine ObjsAre.cons ?_ ?_; (· rfl))))))⟩
          · have hk : k2 = p.length := by simp at hc; omega
            subst hk
            rw [List.take_length] at hxn
            rw [hxn, Option.bind_some] at hst
            have hnew : rgF ps = (rgF (ps.drop j)).map ((ys ++ [n2 / 256, n2 % 256]) ++ ·) := by rw [hinv, hst]; cases rgF (ps.drop j) <;> simp
            have hyi : nats (ys ++ [n2 / 256, n2 % 256]) = List.take ys.length (nats ys) ++ [((n2 / 256 : Nat) : Int), ((n2 % 256 : Nat) : Int)] := by rw [htk]; simp [nats]
            have hyl : (ys ++ [n2 / 256, n2 % 256]).length = (ints .u8 (List.take ys.length (nats ys) ++ [((n2 / 256 : Nat) : Int), ((n2 % 256 : Nat) : Int)])).length := by rw [← hyi]; simp [ints, nats]
            have w8a : IntKind.u8.wrap ((n2 : Int) / 256) = ((n2 / 256 : Nat) : Int) := by rw [IntKind.wrap_u8']; omega
            have w8b : IntKind.u8.wrap (n2 : Int) = ((n2 % 256 : Nat) : Int) := by rw [IntKind.wrap_u8']; omega
            generalize n2 / 256 = q1 at *
            generalize n2 % 256 = q2 at *
            (repeat (first | refine awp_reg rfl fun k => ?_ | refine awp_exit (?_ : Awp _ _ _ _ _ _) | (apply runk0 rfl rfl (opok_move rfl ?_) ?_; rotate_left 1; (· (conv => (lhs; whnf)))) | (apply runk_assignOwn rfl rfl rfl ?_ ?_ ?_; rotate_left 4; (· (conv => (lhs; whnf))); (· (conv => (lhs; whnf; arg 1; whnf)))) | (apply runk0 rfl rfl (opok_bin rfl ?_ ?_ ?_) ?_; rotate_left 3; (· (conv => (lhs; whnf))); (· (conv => (lhs; whnf))); (· (intro w; go_simp; rfl))) | (apply runk0 rfl rfl (opok_conv rfl ?_ ?_) ?_; rotate_left 2; (· (conv => (lhs; whnf))); (· (intro w; go_simp; rfl))) | (apply runk_lit rfl rfl rfl ?_ ?_ ?_ ?_ ?_ ?_ ?_ ?_ ?_ ?_ ?_; rotate_left 4; (· (conv => (lhs; whnf; arg 1; whnf))); (· (unfold sizeIs; conv => (lhs; whnf; arg 1; whnf))); (· (conv => (lhs; whnf; arg 1; whnf))); (· rfl); (· rfl); (· rfl); (· rfl); (· (repeat (first | exact PartsAre.nil _ | (apply PartsAre.cons; (· (conv => (lhs; whnf))))))); (· rfl); (· rfl)) | refine runk_end (by kernel_rfl) ?_ | (apply runk_app rfl rfl rfl ?_ ?_ ?_ ?_ ?_ ?_ ?_ ?_ ?_ ?_ ?_ ?_ ?_ ?_ ?_ ?_; rotate_left 11; (· (conv => (lhs; whnf))); (· (conv => (lhs; whnf))); (· (conv => (lhs; whnf; arg 1; whnf))); (· (unfold sizeIs; conv => (lhs; whnf; arg 1; whnf))); (· (conv => (lhs; whnf; arg 1; whnf))); (· (conv => (lhs; whnf; arg 1; whnf))); (· rfl); (· rfl); (· rfl); (· ((refine .pre _ _ _ _ rfl ?_ ?_; (· ((simp; omega))); (· (exact widths_ints _ _))))); (· ((refine .own _ _ _ _ _ _ rfl ?_; rfl))); (· rfl); (· rfl); (· ((simp; omega))); (· ((simp only [List.nil_append, ints_takeR, ints_dropR, ints_one, ints_consR, ints_append]; rfl))))))
            rename_i kz
            exact ⟨m - 1, by omega, j, kz, ys ++ [q1, q2], by omega, by simp; omega, hnew, by rw [hyi, hyl]; (refine leB_of ?_ ?_; (· (repeat (first | exact EnvIs.nil | (refine EnvIs.cons ?_ ?_; (· rfl))))); (· (repeat (first | exact ObjsAre.nil | (refine ObjsAre.cons ?_ ?_; (· rfl))))))⟩
        · rw [if_neg hln4, Option.bind_none] at hst
          by_cases h1 : p.length < 1
          · have f1 : decide ((p.length : Int) < 1) = true := decide_eq_true (by omega)
            have f4 : decide (p.length < 1) = true := decide_eq_true h1
            (repeat (first | refine awp_reg_seq rfl fun k => ?_ | refine awp_seq ?_ | refine awp_true rfl ?_ | refine awp_false rfl ?_ | refine awp_skip (?_ : Awp _ _ _ _ _ _) | refine awp_block ?_ | (refine awp_ret ?_; (apply ends_pure ?_ ?_ ?_ ?_ ?_ (.inl rfl); rotate_left 1; (· (exact res_two rfl rfl rfl)); (· rfl); (· rfl); (· rfl); (· rfl))) | (apply runk_guard rfl rfl ?_ rfl ?_ ?_; rotate_left 3; (· (conv => (lhs; whnf))); (· (intro hb; (try rw [hb]); apply opok_pure rfl ?_ ?_ ?_ ?_ ?_ ?_ ?_; rotate_left 6; (· (conv => (lhs; whnf))); (· exact Tryz.func75); (· rfl); (· rfl); (· exact (ct)); (· (repeat (first | exact Rens.nil | (refine Rens.cons ?_ ?_; (· ((refine Ren.pureR ?_ rfl; (rfl)))))))); (· rfl)))) | (((apply runk0 rfl rfl (opok_index_ro rfl ?_ ?_ ?_ ?_ ?_ ?_ ?_) ?_; rotate_left 6; (· (conv => (lhs; whnf))); (· (conv => (lhs; whnf))); (· (conv => (lhs; whnf; arg 1; whnf))); (· (unfold sizeIs; conv => (lhs; whnf; arg 1; whnf))); (· simp); (· omega); (· simp only [Int.toNat_natCast]; exact hX)))) | (((((apply runk0 rfl rfl (opok_slen rfl ?_ rfl) ?_; rotate_left 1; (· ((conv => (lhs; whnf)); try exact rfl))))))) | ((refine runk_ung rfl rfl rfl rfl ?_)) | ((refine runk_off rfl rfl rfl rfl rfl ?_)) | (apply runk0 rfl rfl (opok_move rfl ?_) ?_; rotate_left 1; (· (conv => (lhs; whnf)))) | (apply runk0 rfl rfl (opok_assign rfl ?_) ?_; rotate_left 1; (· (conv => (lhs; whnf)))) | (((apply runk0 rfl rfl (opok_loadR rfl ?_ ?_ ?_) ?_; rotate_left 2; (· (conv => (lhs; whnf))); (· rfl); (· (conv => (lhs; whnf; arg 1; whnf)))))) | (apply runk0 rfl rfl (opok_bin rfl ?_ ?_ ?_) ?_; rotate_left 3; (· (conv => (lhs; whnf))); (· (conv => (lhs; whnf))); (· (intro w; go_simp; rfl))) | (((apply runk0 rfl rfl (opok_len rfl ?_ ?_ ?_) ?_; rotate_left 3; (· (conv => (lhs; whnf))); (· (conv => (lhs; whnf; arg 1; whnf))); (· rfl)))) | (apply runk0 rfl rfl (opok_pick rfl ?_ ?_) ?_; rotate_left 2; (· (conv => (lhs; whnf))); (· first | exact pick_and | (conv => (lhs; whnf)))) | refine runk_end (by kernel_rfl) ?_))
          · have f1 : decide ((p.length : Int) < 1) = false := decide_eq_false (by omega)
            have f4 : decide (p.length < 1) = false := decide_eq_false h1
            have f2 : decide ((p.length : Int) > 4) = true := decide_eq_true (by omega)
            have f3 : decide (4 < (p.length : Int)) = true := decide_eq_true (by omega)
            have f5 : decide (4 < p.length) = true := decide_eq_true (by omega)
            (repeat (first | refine awp_reg_seq rfl fun k => ?_ | refine awp_seq ?_ | refine awp_true rfl ?_ | refine awp_false rfl ?_ | refine awp_skip (?_ : Awp _ _ _ _ _ _) | refine awp_block ?_ | (refine awp_ret ?_; (apply ends_pure ?_ ?_ ?_ ?_ ?_ (.inl rfl); rotate_left 1; (· (exact res_two rfl rfl rfl)); (· rfl); (· rfl); (· rfl); (· rfl))) | (apply runk_guard rfl rfl ?_ rfl ?_ ?_; rotate_left 3; (· (conv => (lhs; whnf))); (· (intro hb; (try rw [hb]); apply opok_pure rfl ?_ ?_ ?_ ?_ ?_ ?_ ?_; rotate_left 6; (· (conv => (lhs; whnf))); (· exact Tryz.func75); (· rfl); (· rfl); (· exact (ct)); (· (repeat (first | exact Rens.nil | (refine Rens.cons ?_ ?_; (· ((refine Ren.pureR ?_ rfl; (rfl)))))))); (· rfl)))) | (((apply runk0 rfl rfl (opok_index_ro rfl ?_ ?_ ?_ ?_ ?_ ?_ ?_) ?_; rotate_left 6; (· (conv => (lhs; whnf))); (· (conv => (lhs; whnf))); (· (conv => (lhs; whnf; arg 1; whnf))); (· (unfold sizeIs; conv => (lhs; whnf; arg 1; whnf))); (· simp); (· omega); (· simp only [Int.toNat_natCast]; exact hX)))) | (((((apply runk0 rfl rfl (opok_slen rfl ?_ rfl) ?_; rotate_left 1; (· ((conv => (lhs; whnf)); try exact rfl))))))) | (((((apply runk_guard rfl rfl ?_ rfl ?_ ?_; rotate_left 3; (· (conv => (lhs; whnf))); (· (intro hb; (try rw [hb]); apply opok_slen rfl ?_ rfl; rotate_left 1; (· ((conv => (lhs; whnf)); try exact rfl))))))))) | ((refine runk_ung rfl rfl rfl rfl ?_)) | (apply runk0 rfl rfl (opok_move rfl ?_) ?_; rotate_left 1; (· (conv => (lhs; whnf)))) | (apply runk0 rfl rfl (opok_assign rfl ?_) ?_; rotate_left 1; (· (conv => (lhs; whnf)))) | (((apply runk0 rfl rfl (opok_loadR rfl ?_ ?_ ?_) ?_; rotate_left 2; (· (conv => (lhs; whnf))); (· rfl); (· (conv => (lhs; whnf; arg 1; whnf)))))) | (apply runk0 rfl rfl (opok_bin rfl ?_ ?_ ?_) ?_; rotate_left 3; (· (conv => (lhs; whnf))); (· (conv => (lhs; whnf))); (· (intro w; go_simp; rfl))) | (((apply runk0 rfl rfl (opok_len rfl ?_ ?_ ?_) ?_; rotate_left 3; (· (conv => (lhs; whnf))); (· (conv => (lhs; whnf; arg 1; whnf))); (· rfl)))) | (apply runk0 rfl rfl (opok_pick rfl ?_ ?_) ?_; rotate_left 2; (· (conv => (lhs; whnf))); (· first | exact pick_or | exact pick_and)) | refine runk_end (by kernel_rfl) ?_))
  · have hi4 : i = ps.length := by simp at hc; omega
    have hdr : ps.drop i = [] := List.drop_of_length_le (by omega)
    rw [hdr] at hinv
    exact absurd hx (by rw [hinv]; simp [rgF])
end Go.Proofs.YtboddbheljenhaaGreatDoor
