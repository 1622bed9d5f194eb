/-
  addr.parse4 of any text.
-/
import Derived.Test.YtboddbheljenhaaGreatDoorG09
import Derived.Test.YtboddbheljenhaaGreatDoorG11
import Derived.Test.YtboddbheljenhaaGreatDoorBz
namespace Go.Proofs.YtboddbheljenhaaGreatDoor
open Go.RowKit Go.Lib
def octN (p : List UInt8) : Option Nat := match Lib.parseUintB 8 p with
  | .ok v => if Lib.decDigits v = p then some v else none
  | _ => none
theorem octN_some {p : List UInt8} {n : Nat} : octN p = some n ↔ n < 256 ∧ Lib.decDigits n = p := by
  unfold octN
  constructor
  · intro h
    cases e : Lib.parseUintB 8 p with
    | ok v =>
      rw [e] at h
      dsimp only at h
      by_cases c : Lib.decDigits v = p
      · rw [if_pos c] at h
        cases h
        exact ⟨by have := Lib.parseUintB_le e; omega, c⟩
      · rw [if_neg c] at h; cases h
    | «syntax» => rw [e] at h; cases h
    | range => rw [e] at h; cases h
  · rintro ⟨h, rfl⟩
    have hp : Lib.parseUintB 8 (Lib.decDigits n) = .ok n := by
      have : ∀ k : Fin 256, Lib.parseUintB 8 (Lib.decDigits k.val) = .ok k.val := by decide +kernel
      exact this ⟨n, h⟩
    rw [hp]
    simp
def octF : List (List UInt8) → Nat → Option Nat
  | [], n => some n
  | p :: r, n => (octN p).bind fun x => octF r (n * 256 + x)
def p4N (l : List UInt8) : Option Nat := if (splitC 46 l).length = 4 then octF (splitC 46 l) 0 else none
def p4V (l : List UInt8) : AVal := match p4N l with
  | some n => .tuple [.val (.int .u64 (n : Int)), .val (.bool true)]
  | none => .tuple [.val (.int .u64 0), .val (.bool false)]
theorem octF_lt : ∀ (ps : List (List UInt8)) (n m : Nat), octF ps n = some m → m < (n + 1) * 256 ^ ps.length
  | [], n, m, h => by cases h; simp
  | p :: r, n, m, h => by
    unfold octF at h
    cases e : octN p with
    | none => rw [e] at h; cases h
    | some x =>
      rw [e] at h
      have hx := (octN_some.1 e).1
      have ih := octF_lt r _ m h
      rw [List.length_cons, Nat.pow_succ, Nat.mul_comm (256 ^ r.length), ← Nat.mul_assoc]
      exact Nat.lt_of_lt_of_le ih (Nat.mul_le_mul_right _ (by omega))
theorem p4N_lt {l : List UInt8} {n : Nat} (h : p4N l = some n) : n < 4294967296 := by
  unfold p4N at h
  by_cases c : (splitC 46 l).length = 4
  · rw [if_pos c] at h
    have := octF_lt _ _ _ h
    rw [c] at this
    simpa using this
  · rw [if_neg c] at h; cases h
theorem octF_snoc : ∀ (ps : List (List UInt8)) (p : List UInt8) (n : Nat), octF (ps ++ [p]) n = (octF ps n).bind fun m => (octN p).bind fun x => some (m * 256 + x)
  | [], p, n => by simp [octF]
  | q :: r, p, n => by
    rw [List.cons_append]
    unfold octF
    cases octN q with
    | none => rfl
    | some x => exact octF_snoc r p _
theorem octF_none : ∀ (ps qs : List (List UInt8)) (n : Nat), octF ps n = none → octF (ps ++ qs) n = none
  | [], qs, n, h => by cases h
  | q :: r, qs, n, h => by
    rw [List.cons_append]
    unfold octF at h ⊢
    cases e : octN q with
    | none => rfl
    | some x => rw [e] at h; exact octF_none r qs _ h
theorem take_snoc {α : Type} {l : List α} {i : Nat} {x : α} (h : l[i]? = some x) : l.take (i + 1) = l.take i ++ [x] := by
  rw [List.take_add_one, h]; rfl
set_option maxHeartbeats 8000000 in
set_option maxRecDepth 100000 in
theorem parse4_spec (l : List UInt8) (hl : l.length ≤ 100000) : Spec Tryz.prog 76 [.val (bstr l)] [] (p4V l) [] := by
  have sp := split_spec l 46 (by omega)
  have hw : ∀ p ∈ splitC 46 l, p.length ≤ l.length := fun p hp => splitC_word 46 l p hp
  have hln := splitC_len 46 l
  unfold p4V p4N
  generalize splitC 46 l = ps at *
  refine spec_of_awp Tryz.func76 rfl (Nat.le_of_ble_eq_true rfl) fun ini => ?_
  simp only [Tryz.ntmps76]
  by_cases h4 : ps.length = 4
  · rw [if_pos h4]
    have d4 : ((ps.length : Int) != 4) = false := by rw [h4]; rfl
    have hl4 : (strL ps).length = 4 := by rw [show (strL ps).length = ps.length by simp [strL]]; exact h4
    (repeat (first | refine awp_reg_seq rfl fun k => ?_ | refine awp_seq ?_ | refine awp_false rfl ?_ | refine awp_skip (?_ : Awp _ _ _ _ _ _) | refine awp_block ?_ | (apply runk_pure rfl rfl rfl ?_ ?_ ?_ ?_ ?_ ?_ ?_ ?_; rotate_left 6; (· (conv => (lhs; whnf))); (· exact Tryz.func97); (· rfl); (· rfl); (· exact (sp)); (· (repeat (first | exact Rens.nil | (refine Rens.cons ?_ ?_; (· ((refine Ren.pureR ?_ rfl; (rfl)))))))); (· ((simp; done)))) | (apply runk0 rfl rfl (opok_move rfl ?_) ?_; rotate_left 1; (· (conv => (lhs; whnf)))) | (apply runk0 rfl rfl (opok_assign rfl ?_) ?_; rotate_left 1; (· (conv => (lhs; whnf)))) | (apply runk0 rfl rfl (opok_bin rfl ?_ ?_ ?_) ?_; rotate_left 3; (· (conv => (lhs; whnf))); (· (conv => (lhs; whnf))); (· (intro w; go_simp; rfl))) | (((apply runk0 rfl rfl (opok_len rfl ?_ ?_ ?_) ?_; rotate_left 3; (· (conv => (lhs; whnf))); (· (conv => (lhs; whnf; arg 1; whnf))); (· rfl)))) | refine runk_end (by kernel_rfl) ?_))
    clear sp d4
    have hfin : ∀ (i n : Nat), octF (ps.take i) 0 = some n → i < 4 → ∃ p, ps[i]? = some p := fun i n _ hi => ⟨ps[i]'(by omega), List.getElem?_eq_getElem (by omega)⟩
    refine awp_loop (fun m st => ∃ i n : Nat, i + m = 4 ∧ octF (ps.take i) 0 = some n ∧ st.leB ⟨[(2, .val (.int .u64 0)), (3, .val (.bool false)), (15, .ro (strL ps)), (16, .val (.int .i64 4)), (17, .val (.int .i64 (i : Int))), (5, .val (.int .u64 (n : Int)))], []⟩) 4 ⟨0, 0, by omega, rfl, by rw [hl4]; (refine leB_of ?_ ?_; (· (repeat (first | exact EnvIs.nil | (refine EnvIs.cons ?_ ?_; (· rfl))))); (· (repeat ((exact ObjsAre.nil)))))⟩ ?_
    rintro m st ⟨i, n, him, hoc, hle⟩
    refine awp_less hle ?_
    clear hle st
    have wi : IntKind.i64.wrap ((i : Int) + 1) = ((i + 1 : Nat) : Int) := by rw [IntKind.wrap_i64]; omega
    obtain ⟨j, hj⟩ : ∃ j, i + 1 = j := ⟨_, rfl⟩
    rw [hj] at wi
    (repeat (first | refine awp_reg_seq rfl fun k => ?_ | refine awp_seq ?_ | (apply runk0 rfl rfl (opok_bin rfl ?_ ?_ ?_) ?_; rotate_left 3; (· (conv => (lhs; whnf))); (· (conv => (lhs; whnf))); (· (intro w; go_simp; first | done | rfl))) | refine runk_end (by kernel_rfl) ?_))
    refine awp_if rfl (fun hc => ?_) (fun hc => ?_)
    · have hi4 : i < 4 := by simp at hc; omega
      clear hc
      obtain ⟨p, hp⟩ := hfin i n hoc hi4
      have hpl : p.length ≤ 281474976710656 := by have := hw p (List.mem_of_getElem? hp); omega
      have hX : (strL ps)[i]? = some (.val (bstr p)) := by simp [strL, hp]
      have hsn := take_snoc hp
      have hsplit : octF ps 0 = octF (ps.take (i + 1) ++ ps.drop (i + 1)) 0 := by rw [List.take_append_drop]
      have hno : octN p = none → octF ps 0 = none := fun e => by
        rw [hsplit]
        refine octF_none _ _ _ ?_
        rw [hsn, octF_snoc, hoc, Option.bind_some, e]
        rfl
      have hn4 : n < 4294967296 := by
        have h1 := octF_lt _ _ _ hoc
        have h2 : (256 : Nat) ^ (ps.take i).length ≤ 256 ^ 4 := Nat.pow_le_pow_right (by decide) (by rw [List.length_take]; omega)
        have h3 : (256 : Nat) ^ 4 = 4294967296 := by decide
        omega
      have pu := pu8_spec p hpl
      unfold pu8V at pu
      cases e : Lib.parseUintB 8 p with
      | ok v =>
        rw [e] at pu
        dsimp only at pu
        have hv := Lib.parseUintB_le e
        have fu := fu10_spec v (by omega)
        by_cases c : Lib.decDigits v = p
        · have ho : octN p = some v := by unfold octN; rw [e]; dsimp only; rw [if_pos c]
          rw [c] at fu
          have cmp : (!(p == p)) = false := by simp
          have hor := or8_u64' (n : Int) (v : Int) (by omega) (by omega) (by omega) (by omega)
          have wsh : IntKind.u64.wrap ((n : Int) * 256) = (n : Int) * 256 := by rw [IntKind.wrap_u64]; omega
          have hnew : octF (ps.take j) 0 = some (n * 256 + v) := by rw [← hj, hsn, octF_snoc, hoc, Option.bind_some, ho]; rfl
          have ec : (n : Int) * 256 + (v : Int) = ((n * 256 + v : Nat) : Int) := by omega
          rw [ec] at hor
          generalize n * 256 + v = n2 at *
          (repeat (first | refine awp_reg_seq rfl fun k => ?_ | refine awp_reg rfl fun k => ?_ | refine awp_seq ?_ | refine awp_isF rfl (by assumption) ?_ | refine awp_skip (?_ : Awp _ _ _ _ _ _) | refine awp_block ?_ | (apply runk_pure rfl rfl rfl ?_ ?_ ?_ ?_ ?_ ?_ ?_ ?_; rotate_left 6; (· (conv => (lhs; whnf))); (· exact Tryz.func98); (· rfl); (· rfl); (· exact (pu)); (· (repeat (first | exact Rens.nil | (refine Rens.cons ?_ ?_; (· ((refine Ren.pureR ?_ rfl; (rfl)))))))); (· rfl)) | (apply runk_guard rfl rfl ?_ rfl ?_ ?_; rotate_left 3; (· (conv => (lhs; whnf))); (· (intro hb; (try rw [hb]); apply opok_pure rfl ?_ ?_ ?_ ?_ ?_ ?_ ?_; rotate_left 6; (· (conv => (lhs; whnf))); (· exact Tryz.func56); (· rfl); (· rfl); (· exact (fu)); (· (repeat (first | exact Rens.nil | (refine Rens.cons ?_ ?_; (· ((refine Ren.pureR ?_ rfl; (rfl)))))))); (· rfl)))) | (((apply runk0 rfl rfl (opok_index_ro rfl ?_ ?_ ?_ ?_ ?_ ?_ ?_) ?_; rotate_left 6; (· (conv => (lhs; whnf))); (· (conv => (lhs; whnf))); (· (conv => (lhs; whnf; arg 1; whnf))); (· (unfold sizeIs; conv => (lhs; whnf; arg 1; whnf))); (· simp); (· omega); (· simp only [Int.toNat_natCast]; exact hX)))) | (((((apply runk_guard rfl rfl ?_ rfl ?_ ?_; rotate_left 3; (· (conv => (lhs; whnf))); (· (intro hb; (try rw [hb]); apply opok_sneq rfl ?_ ?_; rotate_left 2; (· ((conv => (lhs; whnf)); try exact rfl)); (· ((conv => (lhs; whnf)); try exact rfl))))))))) | ((refine runk_ung rfl rfl rfl rfl ?_)) | (apply runk0 rfl rfl (opok_move rfl ?_) ?_; rotate_left 1; (· (conv => (lhs; whnf)))) | (apply runk0 rfl rfl (opok_assign rfl ?_) ?_; rotate_left 1; (· (conv => (lhs; whnf)))) | (((apply runk0 rfl rfl (opok_loadR rfl ?_ ?_ ?_) ?_; rotate_left 2; (· (conv => (lhs; whnf))); (· rfl); (· (conv => (lhs; whnf; arg 1; whnf)))))) | (apply runk0 rfl rfl (opok_bin rfl ?_ ?_ ?_) ?_; rotate_left 3; (· (conv => (lhs; whnf))); (· (conv => (lhs; whnf))); (· (intro w; go_simp; rfl))) | (apply runk0 rfl rfl (opok_pick rfl ?_ ?_) ?_; rotate_left 2; (· (conv => (lhs; whnf))); (· (exact pick_or))) | (apply runk0 rfl rfl (opok_extract rfl ?_ ?_) ?_; rotate_left 2; (· (conv => (lhs; whnf))); (· (conv => (lhs; whnf; arg 1; whnf)))) | refine runk_end (by kernel_rfl) ?_))
          exact ⟨m - 1, by omega, j, n2, by omega, hnew, by (refine leB_of ?_ ?_; (· (repeat (first | exact EnvIs.nil | (refine EnvIs.cons ?_ ?_; (· rfl))))); (· (repeat ((exact ObjsAre.nil)))))⟩
        · have ho : octN p = none := by unfold octN; rw [e]; dsimp only; rw [if_neg c]
          rw [hno ho]
          have cmp : (!(Lib.decDigits v == p)) = true := by simpa using c
          generalize Lib.decDigits v = dv at *
          (repeat (first | refine awp_reg_seq rfl fun k => ?_ | refine awp_seq ?_ | refine awp_isT rfl (by assumption) ?_ | refine awp_skip (?_ : Awp _ _ _ _ _ _) | refine awp_block ?_ | (refine awp_ret ?_; (apply ends_pure ?_ ?_ ?_ ?_ ?_ (.inl rfl); rotate_left 1; (· (exact res_two rfl rfl rfl)); (· rfl); (· rfl); (· rfl); (· rfl))) | (apply runk_pure rfl rfl rfl ?_ ?_ ?_ ?_ ?_ ?_ ?_ ?_; rotate_left 6; (· (conv => (lhs; whnf))); (· exact Tryz.func98); (· rfl); (· rfl); (· exact (pu)); (· (repeat (first | exact Rens.nil | (refine Rens.cons ?_ ?_; (· ((refine Ren.pureR ?_ rfl; (rfl)))))))); (· rfl)) | (apply runk_guard rfl rfl ?_ rfl ?_ ?_; rotate_left 3; (· (conv => (lhs; whnf))); (· (intro hb; (try rw [hb]); apply opok_pure rfl ?_ ?_ ?_ ?_ ?_ ?_ ?_; rotate_left 6; (· (conv => (lhs; whnf))); (· exact Tryz.func56); (· rfl); (· rfl); (· exact (fu)); (· (repeat (first | exact Rens.nil | (refine Rens.cons ?_ ?_; (· ((refine Ren.pureR ?_ rfl; (rfl)))))))); (· rfl)))) | (((apply runk0 rfl rfl (opok_index_ro rfl ?_ ?_ ?_ ?_ ?_ ?_ ?_) ?_; rotate_left 6; (· (conv => (lhs; whnf))); (· (conv => (lhs; whnf))); (· (conv => (lhs; whnf; arg 1; whnf))); (· (unfold sizeIs; conv => (lhs; whnf; arg 1; whnf))); (· simp); (· omega); (· simp only [Int.toNat_natCast]; exact hX)))) | (((((apply runk_guard rfl rfl ?_ rfl ?_ ?_; rotate_left 3; (· (conv => (lhs; whnf))); (· (intro hb; (try rw [hb]); apply opok_sneq rfl ?_ ?_; rotate_left 2; (· ((conv => (lhs; whnf)); try exact rfl)); (· ((conv => (lhs; whnf)); try exact rfl))))))))) | ((refine runk_ung rfl rfl rfl rfl ?_)) | (apply runk0 rfl rfl (opok_move rfl ?_) ?_; rotate_left 1; (· (conv => (lhs; whnf)))) | (apply runk0 rfl rfl (opok_assign rfl ?_) ?_; rotate_left 1; (· (conv => (lhs; whnf)))) | (((apply runk0 rfl rfl (opok_loadR rfl ?_ ?_ ?_) ?_; rotate_left 2; (· (conv => (lhs; whnf))); (· rfl); (· (conv => (lhs; whnf; arg 1; whnf)))))) | (apply runk0 rfl rfl (opok_bin rfl ?_ ?_ ?_) ?_; rotate_left 3; (· (conv => (lhs; whnf))); (· (conv => (lhs; whnf))); (· (intro w; go_simp; rfl))) | (apply runk0 rfl rfl (opok_pick rfl ?_ ?_) ?_; rotate_left 2; (· (conv => (lhs; whnf))); (· (exact pick_or))) | (apply runk0 rfl rfl (opok_extract rfl ?_ ?_) ?_; rotate_left 2; (· (conv => (lhs; whnf))); (· (conv => (lhs; whnf; arg 1; whnf)))) | refine runk_end (by kernel_rfl) ?_))
      | «syntax» =>
        rw [hno (by unfold octN; rw [e])]
        rw [e] at pu
        dsimp only at pu
        (repeat (first | refine awp_reg_seq rfl fun k => ?_ | refine awp_seq ?_ | refine awp_true rfl ?_ | refine awp_skip (?_ : Awp _ _ _ _ _ _) | refine awp_block ?_ | (refine awp_ret ?_; (apply ends_pure ?_ ?_ ?_ ?_ ?_ (.inl rfl); rotate_left 1; (· (exact res_two rfl rfl rfl)); (· rfl); (· rfl); (· rfl); (· rfl))) | (apply runk_pure rfl rfl rfl ?_ ?_ ?_ ?_ ?_ ?_ ?_ ?_; rotate_left 6; (· (conv => (lhs; whnf))); (· exact Tryz.func98); (· rfl); (· rfl); (· exact (pu)); (· (repeat (first | exact Rens.nil | (refine Rens.cons ?_ ?_; (· ((refine Ren.pureR ?_ rfl; (rfl)))))))); (· rfl)) | (((apply runk0 rfl rfl (opok_index_ro rfl ?_ ?_ ?_ ?_ ?_ ?_ ?_) ?_; rotate_left 6; (· (conv => (lhs; whnf))); (· (conv => (lhs; whnf))); (· (conv => (lhs; whnf; arg 1; whnf))); (· (unfold sizeIs; conv => (lhs; whnf; arg 1; whnf))); (· simp); (· omega); (· simp only [Int.toNat_natCast]; exact hX)))) | (((((apply runk0 rfl rfl (opok_errNe rfl ?_ ?_ rfl) ?_; rotate_left 1; (· (conv => (lhs; whnf))); (· (conv => (lhs; whnf)))))))) | ((refine runk_off rfl rfl rfl rfl rfl ?_)) | (apply runk0 rfl rfl (opok_move rfl ?_) ?_; rotate_left 1; (· (conv => (lhs; whnf)))) | (apply runk0 rfl rfl (opok_assign rfl ?_) ?_; rotate_left 1; (· (conv => (lhs; whnf)))) | (((apply runk0 rfl rfl (opok_loadR rfl ?_ ?_ ?_) ?_; rotate_left 2; (· (conv => (lhs; whnf))); (· rfl); (· (conv => (lhs; whnf; arg 1; whnf)))))) | (apply runk0 rfl rfl (opok_pick rfl ?_ ?_) ?_; rotate_left 2; (· (conv => (lhs; whnf))); (· ((conv => (lhs; whnf))))) | (apply runk0 rfl rfl (opok_extract rfl ?_ ?_) ?_; rotate_left 2; (· (conv => (lhs; whnf))); (· (conv => (lhs; whnf; arg 1; whnf)))) | refine runk_end (by kernel_rfl) ?_))
      | range =>
        rw [hno (by unfold octN; rw [e])]
        rw [e] at pu
        dsimp only at pu
        (repeat (first | refine awp_reg_seq rfl fun k => ?_ | refine awp_seq ?_ | refine awp_true rfl ?_ | refine awp_skip (?_ : Awp _ _ _ _ _ _) | refine awp_block ?_ | (refine awp_ret ?_; (apply ends_pure ?_ ?_ ?_ ?_ ?_ (.inl rfl); rotate_left 1; (· (exact res_two rfl rfl rfl)); (· rfl); (· rfl); (· rfl); (· rfl))) | (apply runk_pure rfl rfl rfl ?_ ?_ ?_ ?_ ?_ ?_ ?_ ?_; rotate_left 6; (· (conv => (lhs; whnf))); (· exact Tryz.func98); (· rfl); (· rfl); (· exact (pu)); (· (repeat (first | exact Rens.nil | (refine Rens.cons ?_ ?_; (· ((refine Ren.pureR ?_ rfl; (rfl)))))))); (· rfl)) | (((apply runk0 rfl rfl (opok_index_ro rfl ?_ ?_ ?_ ?_ ?_ ?_ ?_) ?_; rotate_left 6; (· (conv => (lhs; whnf))); (· (conv => (lhs; whnf))); (· (conv => (lhs; whnf; arg 1; whnf))); (· (unfold sizeIs; conv => (lhs; whnf; arg 1; whnf))); (· simp); (· omega); (· simp only [Int.toNat_natCast]; exact hX)))) | (((((apply runk0 rfl rfl (opok_errNe rfl ?_ ?_ rfl) ?_; rotate_left 1; (· (conv => (lhs; whnf))); (· (conv => (lhs; whnf)))))))) | ((refine runk_off rfl rfl rfl rfl rfl ?_)) | (apply runk0 rfl rfl (opok_move rfl ?_) ?_; rotate_left 1; (· (conv => (lhs; whnf)))) | (apply runk0 rfl rfl (opok_assign rfl ?_) ?_; rotate_left 1; (· (conv => (lhs; whnf)))) | (((apply runk0 rfl rfl (opok_loadR rfl ?_ ?_ ?_) ?_; rotate_left 2; (· (conv => (lhs; whnf))); (· rfl); (· (conv => (lhs; whnf; arg 1; whnf)))))) | (apply runk0 rfl rfl (opok_pick rfl ?_ ?_) ?_; rotate_left 2; (· (conv => (lhs; whnf))); (· ((conv => (lhs; whnf))))) | (apply runk0 rfl rfl (opok_extract rfl ?_ ?_) ?_; rotate_left 2; (· (conv => (lhs; whnf))); (· (conv => (lhs; whnf; arg 1; whnf)))) | refine runk_end (by kernel_rfl) ?_))
    · have hi4 : i = 4 := by simp at hc; omega
      subst hi4
      rw [List.take_of_length_le (by omega)] at hoc
      rw [hoc]
      (repeat (first | refine awp_reg_seq rfl fun k => ?_ | refine awp_exit (?_ : Awp _ _ _ _ _ _) | (refine awp_ret ?_; (apply ends_pure ?_ ?_ ?_ ?_ ?_ (.inl rfl); rotate_left 1; (· (exact res_two rfl rfl rfl)); (· rfl); (· rfl); (· rfl); (· rfl))) | (apply runk0 rfl rfl (opok_move rfl ?_) ?_; rotate_left 1; (· (conv => (lhs; whnf)))) | (apply runk0 rfl rfl (opok_assign rfl ?_) ?_; rotate_left 1; (· (conv => (lhs; whnf)))) | refine runk_end (by kernel_rfl) ?_))
  · rw [if_neg h4]
    have d4 : ((ps.length : Int) != 4) = true := by simp; omega
    have hl4 : (strL ps).length = ps.length := by simp [strL]
    (repeat (first | refine awp_reg_seq rfl fun k => ?_ | refine awp_seq ?_ | refine awp_true rfl ?_ | (refine awp_ret ?_; (apply ends_pure ?_ ?_ ?_ ?_ ?_ (.inl rfl); rotate_left 1; (· (exact res_two rfl rfl rfl)); (· rfl); (· rfl); (· rfl); (· rfl))) | (apply runk_pure rfl rfl rfl ?_ ?_ ?_ ?_ ?_ ?_ ?_ ?_; rotate_left 6; (· (conv => (lhs; whnf))); (· exact Tryz.func97); (· rfl); (· rfl); (· exact (sp)); (· (repeat (first | exact Rens.nil | (refine Rens.cons ?_ ?_; (· ((refine Ren.pureR ?_ rfl; (rfl)))))))); (· ((simp; done)))) | (apply runk0 rfl rfl (opok_move rfl ?_) ?_; rotate_left 1; (· (conv => (lhs; whnf)))) | (apply runk0 rfl rfl (opok_assign rfl ?_) ?_; rotate_left 1; (· (conv => (lhs; whnf)))) | (apply runk0 rfl rfl (opok_bin rfl ?_ ?_ ?_) ?_; rotate_left 3; (· (conv => (lhs; whnf))); (· (conv => (lhs; whnf))); (· (intro w; go_simp; rfl))) | (((apply runk0 rfl rfl (opok_len rfl ?_ ?_ ?_) ?_; rotate_left 3; (· (conv => (lhs; whnf))); (· (conv => (lhs; whnf; arg 1; whnf))); (· rfl)))) | refine runk_end (by kernel_rfl) ?_))
end Go.Proofs.YtboddbheljenhaaGreatDoor
