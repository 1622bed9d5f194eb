/-
  ref01.four of any text.
-/
import Derived.Test.YtboddbheljenhaaGreatDoorRd4
import Derived.Test.YtboddbheljenhaaGreatDoorG12
import Derived.Test.YtboddbheljenhaaGreatDoorG04
namespace Go.Proofs.YtboddbheljenhaaGreatDoor
open Go.RowKit
def octL : List (List UInt8) → Option (List Nat)
  | [] => some []
  | p :: r => (octN p).bind fun x => (octL r).map (x :: ·)
def fourN (l : List UInt8) : Option (List Nat) := if (splitC 46 l).length = 4 then octL (splitC 46 l) else none
theorem octL_step {ps : List (List UInt8)} {i : Nat} {p : List UInt8} (hp : ps[i]? = some p) : octL (ps.drop i) = (octN p).bind fun x => (octL (ps.drop (i + 1))).map (x :: ·) := by
  have hi : i < ps.length := by
    rcases Nat.lt_or_ge i ps.length with h | h
    · exact h
    · rw [List.getElem?_eq_none h] at hp; cases hp
  rw [List.getElem?_eq_getElem hi] at hp
  rw [List.drop_eq_getElem_cons hi, Option.some.inj hp]
  rfl
theorem decR_dig : ∀ k : Fin 256, decR (Lib.decDigits k.val) 0 = some k.val := by decide +kernel
theorem oct_dec (p : List UInt8) : octN p = match decR p 0 with
    | some n => if n ≤ 255 ∧ Lib.decDigits n = p then some n else none
    | none => none := by
  cases h : octN p with
  | some v =>
    obtain ⟨h1, h2⟩ := octN_some.1 h
    have d := decR_dig ⟨v, h1⟩
    dsimp only at d
    rw [h2] at d
    rw [d]
    dsimp only
    rw [if_pos ⟨by omega, h2⟩]
  | none =>
    cases e : decR p 0 with
    | none => rfl
    | some n =>
      dsimp only
      by_cases c : n ≤ 255 ∧ Lib.decDigits n = p
      · rw [octN_some.2 ⟨by omega, c.2⟩] at h; cases h
      · rw [if_neg c]
set_option maxHeartbeats 16000000 in
set_option maxRecDepth 100000 in
theorem rfour_ok (l : List UInt8) (hl : l.length ≤ 100000) (h4 : (splitC 46 l).length = 4) {xs : List Nat} (hx : octL (splitC 46 l) = some xs) : Spec Tryz.prog 82 [.val (bstr l)] [] (.tuple [.own 1000 0 xs.length, .val (.bool true)]) [(1000, some (0, .row 5 1 (ints .u8 (nats xs))))] := by
  have sp := split_spec l 46 (by omega)
  have hw : ∀ p ∈ splitC 46 l, p.length ≤ l.length := fun p hp => splitC_word 46 l p hp
  generalize splitC 46 l = ps at *
  have d4 : ((ps.length : Int) != 4) = false := by rw [h4]; rfl
  have hl4 : (strL ps).length = 4 := by rw [show (strL ps).length = ps.length by simp [strL]]; exact h4
  refine spec_of_awp Tryz.func82 rfl (Nat.le_of_ble_eq_true rfl) fun ini => ?_
  simp only [Tryz.ntmps82]
  (repeat (first | refine awp_reg_seq rfl fun k => ?_ | refine awp_seq ?_ | refine awp_false rfl ?_ | refine awp_skip (?_ : Awp _ _ _ _ _ _) | refine awp_block ?_ | (apply runk_pure rfl rfl rfl ?_ ?_ ?_ ?_ ?_ ?_ ?_ ?_; rotate_left 6; (· (conv => (lhs; whnf))); (· exact Tryz.func97); (· rfl); (· rfl); (· exact (sp)); (· (repeat (first | exact Rens.nil | (refine Rens.cons ?_ ?_; (· ((refine Ren.pureR ?_ rfl; (rfl)))))))); (· ((simp; done)))) | (apply runk0 rfl rfl (opok_move rfl ?_) ?_; rotate_left 1; (· (conv => (lhs; whnf)))) | (apply runk0 rfl rfl (opok_assign rfl ?_) ?_; rotate_left 1; (· (conv => (lhs; whnf)))) | (apply runk0 rfl rfl (opok_bin rfl ?_ ?_ ?_) ?_; rotate_left 3; (· (conv => (lhs; whnf))); (· (conv => (lhs; whnf))); (· (intro w; go_simp; rfl))) | (((apply runk0 rfl rfl (opok_len rfl ?_ ?_ ?_) ?_; rotate_left 3; (· (conv => (lhs; whnf))); (· (conv => (lhs; whnf; arg 1; whnf))); (· rfl)))) | refine runk_end (by kernel_rfl) ?_))
  rw [hl4]
  refine awp_adopt 5 5 5 1 rfl fun k5 => ?_
  clear sp d4
  refine awp_loop (fun m st => ∃ (i kk : Nat) (ys : List Nat), i + m = 4 ∧ ys.length = i ∧ octL ps = (octL (ps.drop i)).map (ys ++ ·) ∧ st.leB ⟨[(2, .val (.slice none 0 0)), (3, .val (.bool false)), (5, .own 5 kk i), (15, .ro (strL ps)), (16, .val (.int .i64 4)), (17, .val (.int .i64 (i : Int)))], [(5, some (kk, .row 5 1 (ints .u8 (nats ys))))]⟩) 4 ⟨0, k5, [], by omega, rfl, by simp, by (refine leB_of ?_ ?_; (· (repeat (first | exact EnvIs.nil | (refine EnvIs.cons ?_ ?_; (· rfl))))); (· (repeat (first | exact ObjsAre.nil | (refine ObjsAre.cons ?_ ?_; (· rfl))))))⟩ ?_
  rintro m st ⟨i, kk, ys, him, hys, hinv, hle⟩
  refine awp_less hle ?_
  clear hle st
  have wi : IntKind.i64.wrap ((i : Int) + 1) = ((i + 1 : Nat) : Int) := by rw [IntKind.wrap_i64]; omega
  obtain ⟨j, hj⟩ : ∃ j, i + 1 = j := ⟨_, rfl⟩
  rw [hj] at wi
  have hny : (nats ys).length = i := by simp [nats, hys]
  have htk : List.take i (nats ys) = nats ys := by rw [← hny, List.take_length]
  (repeat (first | refine awp_reg_seq rfl fun k => ?_ | refine awp_seq ?_ | (apply runk0 rfl rfl (opok_bin rfl ?_ ?_ ?_) ?_; rotate_left 3; (· (conv => (lhs; whnf))); (· (conv => (lhs; whnf))); (· (intro w; go_simp; first | done | rfl))) | refine runk_end (by kernel_rfl) ?_))
  refine awp_if rfl (fun hc => ?_) (fun hc => ?_)
  · have hi4 : i < 4 := by simp at hc; omega
    clear hc
    obtain ⟨p, hp⟩ : ∃ p, ps[i]? = some p := ⟨_, List.getElem?_eq_getElem (by omega)⟩
    have hpl : p.length ≤ 100000 := by have := hw p (List.mem_of_getElem? hp); omega
    have hX : (strL ps)[i]? = some (.val (bstr p)) := by simp [strL, hp]
    have hst := octL_step hp
    rw [hj, oct_dec] at hst
    have dc := rdec_spec p hpl
    unfold decV at dc
    cases e : decR p 0 with
    | none =>
      rw [e] at dc hst
      dsimp only at dc hst
      rw [Option.bind_none] at hst
      exact absurd hx (by rw [hinv, hst]; simp)
    | some n =>
      rw [e] at dc hst
      dsimp only at dc hst
      have hn := decR_le _ _ _ (by decide) e
      have it := itoa_spec (n : Int) (by omega) (by omega)
      rw [Lib.itoa_nonneg] at it
      by_cases c : n ≤ 255 ∧ Lib.decDigits n = p
      · rw [if_pos c, Option.bind_some] at hst
        obtain ⟨c1, c2⟩ := c
        have hpe : (p == []) = false := by
          cases p with
          | nil => exact absurd c2 (decDigits_ne n)
          | cons a b => rfl
        rw [hpe, decide_eq_true (by omega : n ≤ 1099511627776)] at dc
        rw [c2] at it
        have d1 : decide ((n : Int) > 255) = false := decide_eq_false (by omega)
        have d2 : decide (255 < (n : Int)) = false := decide_eq_false (by omega)
        have d3 : decide (255 < n) = false := decide_eq_false (by omega)
        have cmp : (!(p == p)) = false := by simp
        have wn : IntKind.u8.wrap (n : Int) = (n : Int) := by rw [IntKind.wrap_u8']; omega
        have hnew : octL ps = (octL (ps.drop j)).map ((ys ++ [n]) ++ ·) := by rw [hinv, hst]; cases octL (ps.drop j) <;> simp
        have hyi : nats (ys ++ [n]) = List.take i (nats ys) ++ [(n : Int)] := by rw [htk]; simp [nats]
        (repeat (first | refine awp_reg_seq rfl fun k => ?_ | refine awp_reg rfl fun k => ?_ | refine awp_seq ?_ | refine awp_isF rfl (by assumption) ?_ | refine awp_skip (?_ : Awp _ _ _ _ _ _) | refine awp_block ?_ | (apply runk_pure rfl rfl rfl ?_ ?_ ?_ ?_ ?_ ?_ ?_ ?_; rotate_left 6; (· (conv => (lhs; whnf))); (· exact Tryz.func105); (· rfl); (· rfl); (· exact (dc)); (· (repeat (first | exact Rens.nil | (refine Rens.cons ?_ ?_; (· ((refine Ren.pureR ?_ rfl; (rfl)))))))); (· rfl)) | (apply runk_guard rfl rfl ?_ rfl ?_ ?_; rotate_left 3; (· (conv => (lhs; whnf))); (· (intro hb; (try rw [hb]); apply opok_pure rfl ?_ ?_ ?_ ?_ ?_ ?_ ?_; rotate_left 6; (· (conv => (lhs; whnf))); (· exact Tryz.func53); (· rfl); (· rfl); (· exact (it)); (· (repeat (first | exact Rens.nil | (refine Rens.cons ?_ ?_; (· ((refine Ren.pureR ?_ rfl; (rfl)))))))); (· rfl)))) | (((apply runk0 rfl rfl (opok_index_ro rfl ?_ ?_ ?_ ?_ ?_ ?_ ?_) ?_; rotate_left 6; (· (conv => (lhs; whnf))); (· (conv => (lhs; whnf))); (· (conv => (lhs; whnf; arg 1; whnf))); (· (unfold sizeIs; conv => (lhs; whnf; arg 1; whnf))); (· simp); (· omega); (· simp only [Int.toNat_natCast]; exact hX)))) | (((((apply runk_guard rfl rfl ?_ rfl ?_ ?_; rotate_left 3; (· (conv => (lhs; whnf))); (· (intro hb; (try rw [hb]); apply opok_sneq rfl ?_ ?_; rotate_left 2; (· ((conv => (lhs; whnf)); try exact rfl)); (· ((conv => (lhs; whnf)); try exact rfl))))))))) | ((refine runk_ung rfl rfl rfl rfl ?_)) | (apply runk0 rfl rfl (opok_move rfl ?_) ?_; rotate_left 1; (· (conv => (lhs; whnf)))) | (apply runk_assignOwn rfl rfl rfl ?_ ?_ ?_; rotate_left 4; (· (conv => (lhs; whnf))); (· (conv => (lhs; whnf; arg 1; whnf)))) | (apply runk0 rfl rfl (opok_assign rfl ?_) ?_; rotate_left 1; (· (conv => (lhs; whnf)))) | (((apply runk0 rfl rfl (opok_loadR rfl ?_ ?_ ?_) ?_; rotate_left 2; (· (conv => (lhs; whnf))); (· rfl); (· (conv => (lhs; whnf; arg 1; whnf)))))) | (apply runk0 rfl rfl (opok_bin rfl ?_ ?_ ?_) ?_; rotate_left 3; (· (conv => (lhs; whnf))); (· (conv => (lhs; whnf))); (· (intro w; go_simp; rfl))) | (apply runk0 rfl rfl (opok_conv rfl ?_ ?_) ?_; rotate_left 2; (· (conv => (lhs; whnf))); (· (intro w; go_simp; rfl))) | (apply runk0 rfl rfl (opok_un rfl ?_ ?_) ?_; rotate_left 2; (· (conv => (lhs; whnf))); (· (intro w; go_simp; rfl))) | (apply runk0 rfl rfl (opok_pick rfl ?_ ?_) ?_; rotate_left 2; (· (conv => (lhs; whnf))); (· (exact pick_or))) | (apply runk0 rfl rfl (opok_extract rfl ?_ ?_) ?_; rotate_left 2; (· (conv => (lhs; whnf))); (· (conv => (lhs; whnf; arg 1; whnf)))) | (apply runk_lit rfl rfl rfl ?_ ?_ ?_ ?_ ?_ ?_ ?_ ?_ ?_ ?_ ?_; rotate_left 4; (· (conv => (lhs; whnf; arg 1; whnf))); (· (unfold sizeIs; conv => (lhs; whnf; arg 1; whnf))); (· (conv => (lhs; whnf; arg 1; whnf))); (· rfl); (· rfl); (· rfl); (· rfl); (· (repeat (first | exact PartsAre.nil _ | (apply PartsAre.cons; (· (conv => (lhs; whnf))))))); (· rfl); (· rfl)) | refine runk_end (by kernel_rfl) ?_ | (apply runk_app rfl rfl rfl ?_ ?_ ?_ ?_ ?_ ?_ ?_ ?_ ?_ ?_ ?_ ?_ ?_ ?_ ?_ ?_; rotate_left 11; (· (conv => (lhs; whnf))); (· (conv => (lhs; whnf))); (· (conv => (lhs; whnf; arg 1; whnf))); (· (unfold sizeIs; conv => (lhs; whnf; arg 1; whnf))); (· (conv => (lhs; whnf; arg 1; whnf))); (· (conv => (lhs; whnf; arg 1; whnf))); (· rfl); (· rfl); (· rfl); (· ((refine .pre _ _ _ _ rfl ?_ ?_; (· ((simp; omega))); (· (exact widths_ints _ _))))); (· ((refine .own _ _ _ _ _ _ rfl ?_; rfl))); (· rfl); (· rfl); (· ((simp; omega))); (· ((simp only [List.nil_append, ints_takeR, ints_dropR, ints_one, ints_consR, ints_append]; rfl))))))
        rename_i kz
        exact ⟨m - 1, by omega, j, kz, ys ++ [n], by omega, by simp [hys]; omega, hnew, by rw [hyi]; (refine leB_of ?_ ?_; (· (repeat (first | exact EnvIs.nil | (refine EnvIs.cons ?_ ?_; (· first | rfl | ((conv => (lhs; whnf)); ((simp []; omega)))))))); (· (repeat (first | exact ObjsAre.nil | (refine ObjsAre.cons ?_ ?_; (· rfl))))))⟩
      · rw [if_neg c, Option.bind_none] at hst
        by_cases hpe : p = []
        · subst hpe
          exact absurd hx (by rw [hinv, hst]; simp)
        · have hpe' : (p == []) = false := by simpa using hpe
          rw [hpe'] at dc
          by_cases c3 : n ≤ 1099511627776
          · rw [decide_eq_true c3] at dc
            by_cases c4 : n ≤ 255
            · have d1 : decide ((n : Int) > 255) = false := decide_eq_false (by omega)
              have d2 : decide (255 < (n : Int)) = false := decide_eq_false (by omega)
              have d3 : decide (255 < n) = false := decide_eq_false (by omega)
              have cmp : (!(Lib.decDigits n == p)) = true := by simpa using fun h => c ⟨c4, h⟩
              generalize Lib.decDigits n = dn at *
              exact absurd hx (by rw [hinv, hst]; simp)
            · have d1 : decide ((n : Int) > 255) = true := decide_eq_true (by omega)
              have d2 : decide (255 < (n : Int)) = true := decide_eq_true (by omega)
              have d3 : decide (255 < n) = true := decide_eq_true (by omega)
              exact absurd hx (by rw [hinv, hst]; simp)
          · rw [decide_eq_false c3] at dc
            exact absurd hx (by rw [hinv, hst]; simp)
  · have hi4 : i = 4 := by simp at hc; omega
    have hdr : ps.drop i = [] := List.drop_of_length_le (by omega)
    rw [hdr] at hinv
    have hxs : xs = ys := by rw [hinv] at hx; simpa [octL] using hx.symm
    subst hxs
    rw [hys]
    (repeat (first | refine awp_reg_seq rfl fun k => ?_ | refine awp_exit (?_ : Awp _ _ _ _ _ _) | (refine awp_ret ?_; (apply ends_own2 rfl ?_ ?_ ?_ ?_ ?_ ?_ ?_ ?_ ?_ ?_ (.inl rfl); rotate_left 6; (· (conv => (lhs; whnf))); (· (conv => (lhs; whnf))); (· (conv => (lhs; whnf; arg 1; whnf))); (· rfl); (· rfl); (· rfl); (· rfl); (· ((simp [AVal.pure, AVal.pures, AObj.pure]; done))); (· rfl); (· rfl))) | (apply runk0 rfl rfl (opok_move rfl ?_) ?_; rotate_left 1; (· (conv => (lhs; whnf)))) | (apply runk_assignOwn rfl rfl rfl ?_ ?_ ?_; rotate_left 4; (· (conv => (lhs; whnf))); (· (conv => (lhs; whnf; arg 1; whnf)))) | (apply runk0 rfl rfl (opok_assign rfl ?_) ?_; rotate_left 1; (· (conv => (lhs; whnf)))) | refine runk_end (by kernel_rfl) ?_))
set_option maxHeartbeats 16000000 in
set_option maxRecDepth 100000 in
theorem rfour_no (l : List UInt8) (hl : l.length ≤ 100000) (h4 : (splitC 46 l).length = 4) (hx : octL (splitC 46 l) = none) : Spec Tryz.prog 82 [.val (bstr l)] [] (.tuple [.val (.slice none 0 0), .val (.bool false)]) [] := by
  have sp := split_spec l 46 (by omega)
  have hw : ∀ p ∈ splitC 46 l, p.length ≤ l.length := fun p hp => splitC_word 46 l p hp
  generalize splitC 46 l = ps at *
  have d4 : ((ps.length : Int) != 4) = false := by rw [h4]; rfl
  have hl4 : (strL ps).length = 4 := by rw [show (strL ps).length = ps.length by simp [strL]]; exact h4
  refine spec_of_awp Tryz.func82 rfl (Nat.le_of_ble_eq_true rfl) fun ini => ?_
  simp only [Tryz.ntmps82]
  (repeat (first | refine awp_reg_seq rfl fun k => ?_ | refine awp_seq ?_ | refine awp_false rfl ?_ | refine awp_skip (?_ : Awp _ _ _ _ _ _) | refine awp_block ?_ | (apply runk_pure rfl rfl rfl ?_ ?_ ?_ ?_ ?_ ?_ ?_ ?_; rotate_left 6; (· (conv => (lhs; whnf))); (· exact Tryz.func97); (· rfl); (· rfl); (· exact (sp)); (· (repeat (first | exact Rens.nil | (refine Rens.cons ?_ ?_; (· ((refine Ren.pureR ?_ rfl; (rfl)))))))); (· ((simp; done)))) | (apply runk0 rfl rfl (opok_move rfl ?_) ?_; rotate_left 1; (· (conv => (lhs; whnf)))) | (apply runk0 rfl rfl (opok_assign rfl ?_) ?_; rotate_left 1; (· (conv => (lhs; whnf)))) | (apply runk0 rfl rfl (opok_bin rfl ?_ ?_ ?_) ?_; rotate_left 3; (· (conv => (lhs; whnf))); (· (conv => (lhs; whnf))); (· (intro w; go_simp; rfl))) | (((apply runk0 rfl rfl (opok_len rfl ?_ ?_ ?_) ?_; rotate_left 3; (· (conv => (lhs; whnf))); (· (conv => (lhs; whnf; arg 1; whnf))); (· rfl)))) | refine runk_end (by kernel_rfl) ?_))
  rw [hl4]
  refine awp_adopt 5 5 5 1 rfl fun k5 => ?_
  clear sp d4
  refine awp_loop (fun m st => ∃ (i kk : Nat) (ys : List Nat), i + m = 4 ∧ ys.length = i ∧ octL ps = (octL (ps.drop i)).map (ys ++ ·) ∧ st.leB ⟨[(2, .val (.slice none 0 0)), (3, .val (.bool false)), (5, .own 5 kk i), (15, .ro (strL ps)), (16, .val (.int .i64 4)), (17, .val (.int .i64 (i : Int)))], [(5, some (kk, .row 5 1 (ints .u8 (nats ys))))]⟩) 4 ⟨0, k5, [], by omega, rfl, by simp, by (refine leB_of ?_ ?_; (· (repeat (first | exact EnvIs.nil | (refine EnvIs.cons ?_ ?_; (· rfl))))); (· (repeat (first | exact ObjsAre.nil | (refine ObjsAre.cons ?_ ?_; (· rfl))))))⟩ ?_
  rintro m st ⟨i, kk, ys, him, hys, hinv, hle⟩
  refine awp_less hle ?_
  clear hle st
  have wi : IntKind.i64.wrap ((i : Int) + 1) = ((i + 1 : Nat) : Int) := by rw [IntKind.wrap_i64]; omega
  obtain ⟨j, hj⟩ : ∃ j, i + 1 = j := ⟨_, rfl⟩
  rw [hj] at wi
  have hny : (nats ys).length = i := by simp [nats, hys]
  have htk : List.take i (nats ys) = nats ys := by rw [← hny, List.take_length]
  (repeat (first | refine awp_reg_seq rfl fun k => ?_ | refine awp_seq ?_ | (apply runk0 rfl rfl (opok_bin rfl ?_ ?_ ?_) ?_; rotate_left 3; (· (conv => (lhs; whnf))); (· (conv => (lhs; whnf))); (· (intro w; go_simp; first | done | rfl))) | refine runk_end (by kernel_rfl) ?_))
  refine awp_if rfl (fun hc => ?_) (fun hc => ?_)
  · have hi4 : i < 4 := by simp at hc; omega
    clear hc
    obtain ⟨p, hp⟩ : ∃ p, ps[i]? = some p := ⟨_, List.getElem?_eq_getElem (by omega)⟩
    have hpl : p.length ≤ 100000 := by have := hw p (List.mem_of_getElem? hp); omega
    have hX : (strL ps)[i]? = some (.val (bstr p)) := by simp [strL, hp]
    have hst := octL_step hp
    rw [hj, oct_dec] at hst
    have dc := rdec_spec p hpl
    unfold decV at dc
    cases e : decR p 0 with
    | none =>
      rw [e] at dc hst
      dsimp only at dc hst
      rw [Option.bind_none] at hst
      (repeat (first | refine awp_reg_seq rfl fun k => ?_ | refine awp_seq ?_ | refine awp_true rfl ?_ | refine awp_skip (?_ : Awp _ _ _ _ _ _) | refine awp_block ?_ | (refine awp_ret ?_; (apply ends_pure ?_ ?_ ?_ ?_ ?_ (.inl rfl); rotate_left 1; (· (exact res_two rfl rfl rfl)); (· rfl); (· rfl); (· rfl); (· rfl))) | (apply runk_pure rfl rfl rfl ?_ ?_ ?_ ?_ ?_ ?_ ?_ ?_; rotate_left 6; (· (conv => (lhs; whnf))); (· exact Tryz.func105); (· rfl); (· rfl); (· exact (dc)); (· (repeat (first | exact Rens.nil | (refine Rens.cons ?_ ?_; (· ((refine Ren.pureR ?_ rfl; (rfl)))))))); (· rfl)) | (((apply runk0 rfl rfl (opok_index_ro rfl ?_ ?_ ?_ ?_ ?_ ?_ ?_) ?_; rotate_left 6; (· (conv => (lhs; whnf))); (· (conv => (lhs; whnf))); (· (conv => (lhs; whnf; arg 1; whnf))); (· (unfold sizeIs; conv => (lhs; whnf; arg 1; whnf))); (· simp); (· omega); (· simp only [Int.toNat_natCast]; exact hX)))) | ((refine runk_off rfl rfl rfl rfl rfl ?_)) | (apply runk0 rfl rfl (opok_move rfl ?_) ?_; rotate_left 1; (· (conv => (lhs; whnf)))) | (apply runk0 rfl rfl (opok_assign rfl ?_) ?_; rotate_left 1; (· (conv => (lhs; whnf)))) | (((apply runk0 rfl rfl (opok_loadR rfl ?_ ?_ ?_) ?_; rotate_left 2; (· (conv => (lhs; whnf))); (· rfl); (· (conv => (lhs; whnf; arg 1; whnf)))))) | (apply runk0 rfl rfl (opok_un rfl ?_ ?_) ?_; rotate_left 2; (· (conv => (lhs; whnf))); (· (intro w; go_simp; rfl))) | (apply runk0 rfl rfl (opok_pick rfl ?_ ?_) ?_; rotate_left 2; (· (conv => (lhs; whnf))); (· ((conv => (lhs; whnf))))) | (apply runk0 rfl rfl (opok_extract rfl ?_ ?_) ?_; rotate_left 2; (· (conv => (lhs; whnf))); (· (conv => (lhs; whnf; arg 1; whnf)))) | refine runk_end (by kernel_rfl) ?_))
    | some n =>
      rw [e] at dc hst
      dsimp only at dc hst
      have hn := decR_le _ _ _ (by decide) e
      have it := itoa_spec (n : Int) (by omega) (by omega)
      rw [Lib.itoa_nonneg] at it
      by_cases c : n ≤ 255 ∧ Lib.decDigits n = p
      · rw [if_pos c, Option.bind_some] at hst
        obtain ⟨c1, c2⟩ := c
        have hpe : (p == []) = false := by
          cases p with
          | nil => exact absurd c2 (decDigits_ne n)
          | cons a b => rfl
        rw [hpe, decide_eq_true (by omega : n ≤ 1099511627776)] at dc
        rw [c2] at it
        have d1 : decide ((n : Int) > 255) = false := decide_eq_false (by omega)
        have d2 : decide (255 < (n : Int)) = false := decide_eq_false (by omega)
        have d3 : decide (255 < n) = false := decide_eq_false (by omega)
        have cmp : (!(p == p)) = false := by simp
        have wn : IntKind.u8.wrap (n : Int) = (n : Int) := by rw [IntKind.wrap_u8']; omega
        have hnew : octL ps = (octL (ps.drop j)).map ((ys ++ [n]) ++ ·) := by rw [hinv, hst]; cases octL (ps.drop j) <;> simp
        have hyi : nats (ys ++ [n]) = List.take i (nats ys) ++ [(n : Int)] := by rw [htk]; simp [nats]
        (repeat (first | refine awp_reg_seq rfl fun k => ?_ | refine awp_reg rfl fun k => ?_ | refine awp_seq ?_ | refine awp_isF rfl (by assumption) ?_ | refine awp_skip (?_ : Awp _ _ _ _ _ _) | refine awp_block ?_ | (apply runk_pure rfl rfl rfl ?_ ?_ ?_ ?_ ?_ ?_ ?_ ?_; rotate_left 6; (· (conv => (lhs; whnf))); (· exact Tryz.func105); (· rfl); (· rfl); (· exact (dc)); (· (repeat (first | exact Rens.nil | (refine Rens.cons ?_ ?_; (· ((refine Ren.pureR ?_ rfl; (rfl)))))))); (· rfl)) | (apply runk_guard rfl rfl ?_ rfl ?_ ?_; rotate_left 3; (· (conv => (lhs; whnf))); (· (intro hb; (try rw [hb]); apply opok_pure rfl ?_ ?_ ?_ ?_ ?_ ?_ ?_; rotate_left 6; (· (conv => (lhs; whnf))); (· exact Tryz.func53); (· rfl); (· rfl); (· exact (it)); (· (repeat (first | exact Rens.nil | (refine Rens.cons ?_ ?_; (· ((refine Ren.pureR ?_ rfl; (rfl)))))))); (· rfl)))) | (((apply runk0 rfl rfl (opok_index_ro rfl ?_ ?_ ?_ ?_ ?_ ?_ ?_) ?_; rotate_left 6; (· (conv => (lhs; whnf))); (· (conv => (lhs; whnf))); (· (conv => (lhs; whnf; arg 1; whnf))); (· (unfold sizeIs; conv => (lhs; whnf; arg 1; whnf))); (· simp); (· omega); (· simp only [Int.toNat_natCast]; exact hX)))) | (((((apply runk_guard rfl rfl ?_ rfl ?_ ?_; rotate_left 3; (· (conv => (lhs; whnf))); (· (intro hb; (try rw [hb]); apply opok_sneq rfl ?_ ?_; rotate_left 2; (· ((conv => (lhs; whnf)); try exact rfl)); (· ((conv => (lhs; whnf)); try exact rfl))))))))) | ((refine runk_ung rfl rfl rfl rfl ?_)) | (apply runk0 rfl rfl (opok_move rfl ?_) ?_; rotate_left 1; (· (conv => (lhs; whnf)))) | (apply runk_assignOwn rfl rfl rfl ?_ ?_ ?_; rotate_left 4; (· (conv => (lhs; whnf))); (· (conv => (lhs; whnf; arg 1; whnf)))) | (apply runk0 rfl rfl (opok_assign rfl ?_) ?_; rotate_left 1; (· (conv => (lhs; whnf)))) | (((apply runk0 rfl rfl (opok_loadR rfl ?_ ?_ ?_) ?_; rotate_left 2; (· (conv => (lhs; whnf))); (· rfl); (· (conv => (lhs; whnf; arg 1; whnf)))))) | (apply runk0 rfl rfl (opok_bin rfl ?_ ?_ ?_) ?_; rotate_left 3; (· (conv => (lhs; whnf))); (· (conv => (lhs; whnf))); (· (intro w; go_simp; rfl))) | (apply runk0 rfl rfl (opok_conv rfl ?_ ?_) ?_; rotate_left 2; (· (conv => (lhs; whnf))); (· (intro w; go_simp; rfl))) | (apply runk0 rfl rfl (opok_un rfl ?_ ?_) ?_; rotate_left 2; (· (conv => (lhs; whnf))); (· (intro w; go_simp; rfl))) | (apply runk0 rfl rfl (opok_pick rfl ?_ ?_) ?_; rotate_left 2; (· (conv => (lhs; whnf))); (· (exact pick_or))) | (apply runk0 rfl rfl (opok_extract rfl ?_ ?_) ?_; rotate_left 2; (· (conv => (lhs; whnf))); (· (conv => (lhs; whnf; arg 1; whnf)))) | (apply runk_lit rfl rfl rfl ?_ ?_ ?_ ?_ ?_ ?_ ?_ ?_ ?_ ?_ ?_; rotate_left 4; (· (conv => (lhs; whnf; arg 1; whnf))); (· (unfold sizeIs; conv => (lhs; whnf; arg 1; whnf))); (· (conv => (lhs; whnf; arg 1; whnf))); (· rfl); (· rfl); (· rfl); (· rfl); (· (repeat (first | exact PartsAre.nil _ | (apply PartsAre.cons; (· (conv => (lhs; whnf))))))); (· rfl); (· rfl)) | refine runk_end (by kernel_rfl) ?_ | (apply runk_app rfl rfl rfl ?_ ?_ ?_ ?_ ?_ ?_ ?_ ?_ ?_ ?_ ?_ ?_ ?_ ?_ ?_ ?_; rotate_left 11; (· (conv => (lhs; whnf))); (· (conv => (lhs; whnf))); (· (conv => (lhs; whnf; arg 1; whnf))); (· (unfold sizeIs; conv => (lhs; whnf; arg 1; whnf))); (· (conv => (lhs; whnf; arg 1; whnf))); (· (conv => (lhs; whnf; arg 1; whnf))); (· rfl); (· rfl); (· rfl); (· ((refine .pre _ _ _ _ rfl ?_ ?_; (· ((simp; omega))); (· (exact widths_ints _ _))))); (· ((refine .own _ _ _ _ _ _ rfl ?_; rfl))); (· rfl); (· rfl); (· ((simp; omega))); (· ((simp only [List.nil_append, ints_takeR, ints_dropR, ints_one, ints_consR, ints_append]; rfl))))))
        rename_i kz
        exact ⟨m - 1, by omega, j, kz, ys ++ [n], by omega, by simp [hys]; omega, hnew, by rw [hyi]; (refine leB_of ?_ ?_; (· (repeat (first | exact EnvIs.nil | (refine EnvIs.cons ?_ ?_; (· first | rfl | ((conv => (lhs; whnf)); ((simp []; omega)))))))); (· (repeat (first | exact ObjsAre.nil | (refine ObjsAre.cons ?_ ?_; (· rfl))))))⟩
      · rw [if_neg c, Option.bind_none] at hst
        by_cases hpe : p = []
        · subst hpe
          (repeat (first | refine awp_reg_seq rfl fun k => ?_ | refine awp_seq ?_ | refine awp_true rfl ?_ | refine awp_skip (?_ : Awp _ _ _ _ _ _) | refine awp_block ?_ | (refine awp_ret ?_; (apply ends_pure ?_ ?_ ?_ ?_ ?_ (.inl rfl); rotate_left 1; (· (exact res_two rfl rfl rfl)); (· rfl); (· rfl); (· rfl); (· rfl))) | (apply runk_pure rfl rfl rfl ?_ ?_ ?_ ?_ ?_ ?_ ?_ ?_; rotate_left 6; (· (conv => (lhs; whnf))); (· exact Tryz.func105); (· rfl); (· rfl); (· exact (dc)); (· (repeat (first | exact Rens.nil | (refine Rens.cons ?_ ?_; (· ((refine Ren.pureR ?_ rfl; (rfl)))))))); (· rfl)) | (((apply runk0 rfl rfl (opok_index_ro rfl ?_ ?_ ?_ ?_ ?_ ?_ ?_) ?_; rotate_left 6; (· (conv => (lhs; whnf))); (· (conv => (lhs; whnf))); (· (conv => (lhs; whnf; arg 1; whnf))); (· (unfold sizeIs; conv => (lhs; whnf; arg 1; whnf))); (· simp); (· omega); (· simp only [Int.toNat_natCast]; exact hX)))) | ((refine runk_off rfl rfl rfl rfl rfl ?_)) | (apply runk0 rfl rfl (opok_move rfl ?_) ?_; rotate_left 1; (· (conv => (lhs; whnf)))) | (apply runk0 rfl rfl (opok_assign rfl ?_) ?_; rotate_left 1; (· (conv => (lhs; whnf)))) | (((apply runk0 rfl rfl (opok_loadR rfl ?_ ?_ ?_) ?_; rotate_left 2; (· (conv => (lhs; whnf))); (· rfl); (· (conv => (lhs; whnf; arg 1; whnf)))))) | (apply runk0 rfl rfl (opok_un rfl ?_ ?_) ?_; rotate_left 2; (· (conv => (lhs; whnf))); (· (intro w; go_simp; rfl))) | (apply runk0 rfl rfl (opok_pick rfl ?_ ?_) ?_; rotate_left 2; (· (conv => (lhs; whnf))); (· ((conv => (lhs; whnf))))) | (apply runk0 rfl rfl (opok_extract rfl ?_ ?_) ?_; rotate_left 2; (· (conv => (lhs; whnf))); (· (conv => (lhs; whnf; arg 1; whnf)))) | refine runk_end (by kernel_rfl) ?_))
        · have hpe' : (p == []) = false := by simpa using hpe
          rw [hpe'] at dc
          by_cases c3 : n ≤ 1099511627776
          · rw [decide_eq_true c3] at dc
            by_cases c4 : n ≤ 255
            · have d1 : decide ((n : Int) > 255) = false := decide_eq_false (by omega)
              have d2 : decide (255 < (n : Int)) = false := decide_eq_false (by omega)
              have d3 : decide (255 < n) = false := decide_eq_false (by omega)
              have cmp : (!(Lib.decDigits n == p)) = true := by simpa using fun h => c ⟨c4, h⟩
              generalize Lib.decDigits n = dn at *
              (repeat (first | refine awp_reg_seq rfl fun k => ?_ | refine awp_seq ?_ | refine awp_isT rfl (by assumption) ?_ | refine awp_skip (?_ : Awp _ _ _ _ _ _) | refine awp_block ?_ | (refine awp_ret ?_; (apply ends_pure ?_ ?_ ?_ ?_ ?_ (.inl rfl); rotate_left 1; (· (exact res_two rfl rfl rfl)); (· rfl); (· rfl); (· rfl); (· rfl))) | (apply runk_pure rfl rfl rfl ?_ ?_ ?_ ?_ ?_ ?_ ?_ ?_; rotate_left 6; (· (conv => (lhs; whnf))); (· exact Tryz.func105); (· rfl); (· rfl); (· exact (dc)); (· (repeat (first | exact Rens.nil | (refine Rens.cons ?_ ?_; (· ((refine Ren.pureR ?_ rfl; (rfl)))))))); (· rfl)) | (apply runk_guard rfl rfl ?_ rfl ?_ ?_; rotate_left 3; (· (conv => (lhs; whnf))); (· (intro hb; (try rw [hb]); apply opok_pure rfl ?_ ?_ ?_ ?_ ?_ ?_ ?_; rotate_left 6; (· (conv => (lhs; whnf))); (· exact Tryz.func53); (· rfl); (· rfl); (· exact (it)); (· (repeat (first | exact Rens.nil | (refine Rens.cons ?_ ?_; (· ((refine Ren.pureR ?_ rfl; (rfl)))))))); (· rfl)))) | (((apply runk0 rfl rfl (opok_index_ro rfl ?_ ?_ ?_ ?_ ?_ ?_ ?_) ?_; rotate_left 6; (· (conv => (lhs; whnf))); (· (conv => (lhs; whnf))); (· (conv => (lhs; whnf; arg 1; whnf))); (· (unfold sizeIs; conv => (lhs; whnf; arg 1; whnf))); (· simp); (· omega); (· simp only [Int.toNat_natCast]; exact hX)))) | (((((apply runk_guard rfl rfl ?_ rfl ?_ ?_; rotate_left 3; (· (conv => (lhs; whnf))); (· (intro hb; (try rw [hb]); apply opok_sneq rfl ?_ ?_; rotate_left 2; (· ((conv => (lhs; whnf)); try exact rfl)); (· ((conv => (lhs; whnf)); try exact rfl))))))))) | ((refine runk_ung rfl rfl rfl rfl ?_)) | (apply runk0 rfl rfl (opok_move rfl ?_) ?_; rotate_left 1; (· (conv => (lhs; whnf)))) | (apply runk0 rfl rfl (opok_assign rfl ?_) ?_; rotate_left 1; (· (conv => (lhs; whnf)))) | (((apply runk0 rfl rfl (opok_loadR rfl ?_ ?_ ?_) ?_; rotate_left 2; (· (conv => (lhs; whnf))); (· rfl); (· (conv => (lhs; whnf; arg 1; whnf)))))) | (apply runk0 rfl rfl (opok_bin rfl ?_ ?_ ?_) ?_; rotate_left 3; (· (conv => (lhs; whnf))); (· (conv => (lhs; whnf))); (· (intro w; go_simp; rfl))) | (apply runk0 rfl rfl (opok_un rfl ?_ ?_) ?_; rotate_left 2; (· (conv => (lhs; whnf))); (· (intro w; go_simp; rfl))) | (apply runk0 rfl rfl (opok_pick rfl ?_ ?_) ?_; rotate_left 2; (· (conv => (lhs; whnf))); (· (exact pick_or))) | (apply runk0 rfl rfl (opok_extract rfl ?_ ?_) ?_; rotate_left 2; (· (conv => (lhs; whnf))); (· (conv => (lhs; whnf; arg 1; whnf)))) | refine runk_end (by kernel_rfl) ?_))
            · have d1 : decide ((n : Int) > 255) = true := decide_eq_true (by omega)
              have d2 : decide (255 < (n : Int)) = true := decide_eq_true (by omega)
              have d3 : decide (255 < n) = true := decide_eq_true (by omega)
              (repeat (first | refine awp_reg_seq rfl fun k => ?_ | refine awp_seq ?_ | refine awp_true rfl ?_ | refine awp_skip (?_ : Awp _ _ _ _ _ _) | refine awp_block ?_ | (refine awp_ret ?_; (apply ends_pure ?_ ?_ ?_ ?_ ?_ (.inl rfl); rotate_left 1; (· (exact res_two rfl rfl rfl)); (· rfl); (· rfl); (· rfl); (· rfl))) | (apply runk_pure rfl rfl rfl ?_ ?_ ?_ ?_ ?_ ?_ ?_ ?_; rotate_left 6; (· (conv => (lhs; whnf))); (· exact Tryz.func105); (· rfl); (· rfl); (· exact (dc)); (· (repeat (first | exact Rens.nil | (refine Rens.cons ?_ ?_; (· ((refine Ren.pureR ?_ rfl; (rfl)))))))); (· rfl)) | (((apply runk0 rfl rfl (opok_index_ro rfl ?_ ?_ ?_ ?_ ?_ ?_ ?_) ?_; rotate_left 6; (· (conv => (lhs; whnf))); (· (conv => (lhs; whnf))); (· (conv => (lhs; whnf; arg 1; whnf))); (· (unfold sizeIs; conv => (lhs; whnf; arg 1; whnf))); (· simp); (· omega); (· simp only [Int.toNat_natCast]; exact hX)))) | ((refine runk_ung rfl rfl rfl rfl ?_)) | ((refine runk_off rfl rfl rfl rfl rfl ?_)) | (apply runk0 rfl rfl (opok_move rfl ?_) ?_; rotate_left 1; (· (conv => (lhs; whnf)))) | (apply runk0 rfl rfl (opok_assign rfl ?_) ?_; rotate_left 1; (· (conv => (lhs; whnf)))) | (((apply runk0 rfl rfl (opok_loadR rfl ?_ ?_ ?_) ?_; rotate_left 2; (· (conv => (lhs; whnf))); (· rfl); (· (conv => (lhs; whnf; arg 1; whnf)))))) | (apply runk0 rfl rfl (opok_bin rfl ?_ ?_ ?_) ?_; rotate_left 3; (· (conv => (lhs; whnf))); (· (conv => (lhs; whnf))); (· (intro w; go_simp; rfl))) | (apply runk0 rfl rfl (opok_un rfl ?_ ?_) ?_; rotate_left 2; (· (conv => (lhs; whnf))); (· (intro w; go_simp; rfl))) | (apply runk0 rfl rfl (opok_pick rfl ?_ ?_) ?_; rotate_left 2; (· (conv => (lhs; whnf))); (· first | exact pick_or | (conv => (lhs; whnf)))) | (apply runk0 rfl rfl (opok_extract rfl ?_ ?_) ?_; rotate_left 2; (· (conv => (lhs; whnf))); (· (conv => (lhs; whnf; arg 1; whnf)))) | refine runk_end (by kernel_rfl) ?_))
          · rw [decide_eq_false c3] at dc
            (repeat (first | refine awp_reg_seq rfl fun k => ?_ | refine awp_seq ?_ | refine awp_true rfl ?_ | refine awp_skip (?_ : Awp _ _ _ _ _ _) | refine awp_block ?_ | (refine awp_ret ?_; (apply ends_pure ?_ ?_ ?_ ?_ ?_ (.inl rfl); rotate_left 1; (· (exact res_two rfl rfl rfl)); (· rfl); (· rfl); (· rfl); (· rfl))) | (apply runk_pure rfl rfl rfl ?_ ?_ ?_ ?_ ?_ ?_ ?_ ?_; rotate_left 6; (· (conv => (lhs; whnf))); (· exact Tryz.func105); (· rfl); (· rfl); (· exact (dc)); (· (repeat (first | exact Rens.nil | (refine Rens.cons ?_ ?_; (· ((refine Ren.pureR ?_ rfl; (rfl)))))))); (· rfl)) | (((apply runk0 rfl rfl (opok_index_ro rfl ?_ ?_ ?_ ?_ ?_ ?_ ?_) ?_; rotate_left 6; (· (conv => (lhs; whnf))); (· (conv => (lhs; whnf))); (· (conv => (lhs; whnf; arg 1; whnf))); (· (unfold sizeIs; conv => (lhs; whnf; arg 1; whnf))); (· simp); (· omega); (· simp only [Int.toNat_natCast]; exact hX)))) | ((refine runk_off rfl rfl rfl rfl rfl ?_)) | (apply runk0 rfl rfl (opok_move rfl ?_) ?_; rotate_left 1; (· (conv => (lhs; whnf)))) | (apply runk0 rfl rfl (opok_assign rfl ?_) ?_; rotate_left 1; (· (conv => (lhs; whnf)))) | (((apply runk0 rfl rfl (opok_loadR rfl ?_ ?_ ?_) ?_; rotate_left 2; (· (conv => (lhs; whnf))); (· rfl); (· (conv => (lhs; whnf; arg 1; whnf)))))) | (apply runk0 rfl rfl (opok_un rfl ?_ ?_) ?_; rotate_left 2; (· (conv => (lhs; whnf))); (· (intro w; go_simp; rfl))) | (apply runk0 rfl rfl (opok_pick rfl ?_ ?_) ?_; rotate_left 2; (· (conv => (lhs; whnf))); (· ((conv => (lhs; whnf))))) | (apply runk0 rfl rfl (opok_extract rfl ?_ ?_) ?_; rotate_left 2; (· (conv => (lhs; whnf))); (· (conv => (lhs; whnf; arg 1; whnf)))) | refine runk_end (by kernel_rfl) ?_))
  · have hi4 : i = 4 := by simp at hc; omega
    have hdr : ps.drop i = [] := List.drop_of_length_le (by omega)
    rw [hdr] at hinv
    exact absurd hx (by rw [hinv]; simp [octL])
end Go.Proofs.YtboddbheljenhaaGreatDoor
