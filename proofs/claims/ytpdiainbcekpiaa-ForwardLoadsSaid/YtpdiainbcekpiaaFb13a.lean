/-
  Layer 13: fabrics, which are valid and which links work, of the program, by states.
-/
import Derived.Test.YtpdiainbcekpiaaAbsN
import Derived.Test.YtpdiainbcekpiaaAbsI
import Derived.Test.YtpdiainbcekpiaaAbsQ
import Derived.Test.YtpdiainbcekpiaaMkDeck
namespace Go.Proofs.Ytpdiainbcekpiaa
open Go.RowKit
structure FK where
  sw : Int
  ls : List (Int × Int × Int)
  dn : List Bool
  dd : List Bool
def lkA (c : Int × Int × Int) : AVal := .agg [.val (.int .i64 c.1), .val (.int .i64 c.2.1), .val (.int .i64 c.2.2)]
def bls (l : List Bool) : List AVal := l.map fun b => .val (.bool b)
@[simp] theorem pure_lkA (c : Int × Int × Int) : (lkA c).pure = true := by simp [lkA, AVal.pure, AVal.pures]
@[simp] theorem pures_lks (l : List (Int × Int × Int)) : AVal.pures (l.map lkA) = true := AVal.pures_of fun x hx => by
  obtain ⟨s, -, rfl⟩ := List.mem_map.1 hx
  simp
@[simp] theorem pures_bls (l : List Bool) : AVal.pures (bls l) = true := AVal.pures_of fun x hx => by
  obtain ⟨s, -, rfl⟩ := List.mem_map.1 hx
  simp [AVal.pure]
theorem flat_lkA (c : Int × Int × Int) : (lkA c).flat = [.val (.int .i64 c.1), .val (.int .i64 c.2.1), .val (.int .i64 c.2.2)] := rfl
@[simp] theorem widths_lks (l : List (Int × Int × Int)) : widths 3 (l.map lkA) = true := by
  simp only [widths, List.all_map, List.all_eq_true]
  intro r _
  simp [flat_lkA]
@[simp] theorem widths_bls (l : List Bool) : widths 1 (bls l) = true := by
  unfold bls
  simp only [widths, List.all_map, List.all_eq_true]
  intro r _
  rfl
@[simp] theorem length_bls (l : List Bool) : (bls l).length = l.length := by simp [bls]
def FK.A (f : FK) : List AVal := [.val (.int .i64 f.sw), .ro (f.ls.map lkA), .ro (bls f.dn), .ro (bls f.dd)]
theorem lk_at (l : List (Int × Int × Int)) {i : Nat} (h : i < l.length) : (l.map lkA)[i]? = some (.agg [.val (.int .i64 (l.getD i (0, 0, 0)).1), .val (.int .i64 (l.getD i (0, 0, 0)).2.1), .val (.int .i64 (l.getD i (0, 0, 0)).2.2)]) := by
  rw [List.getElem?_map, List.getD_eq_getElem?_getD, List.getElem?_eq_getElem h]
  rfl
theorem bl_at (l : List Bool) {i : Nat} (h : i < l.length) : (bls l)[i]? = some (.val (.bool (l.getD i false))) := by
  unfold bls
  rw [List.getElem?_map, List.getD_eq_getElem?_getD, List.getElem?_eq_getElem h]
  rfl
set_option maxHeartbeats 4000000 in
set_option maxRecDepth 100000 in
theorem within_spec (f : FK) (s : Int) : Spec Try.prog 32 [.agg f.A, .val (.int .i64 s)] [] (.val (.bool (decide (0 ≤ s) && decide (s < f.sw)))) [] := by
  obtain ⟨sw, ls, dn, dd⟩ := f
  unfold FK.A
  dsimp only
  refine spec_of_awp Try.func32 rfl (Nat.le_of_ble_eq_true rfl) fun ini => ?_
  simp only [Try.ntmps32]
  (repeat (first | refine awp_reg_seq rfl fun k => ?_ | (refine awp_ret ?_; (apply ends_pure ?_ ?_ ?_ ?_ ?_ (.inl rfl); rotate_left 1; (· first | exact res_one rfl rfl | exact res_two rfl rfl rfl | exact res_none rfl | exact res_three rfl rfl rfl rfl | exact res_cell rfl rfl rfl rfl rfl | exact res_cell2 rfl rfl rfl rfl rfl rfl | exact res3 rfl (rv_cell rfl rfl rfl rfl) (rv_tmp rfl) (rv_tmp rfl) | exact res3 rfl (rv_cell rfl rfl rfl rfl) (rv_cell rfl rfl rfl rfl) (rv_cell rfl rfl rfl rfl)); (· first | rfl | ((conv => (lhs; whnf)); first | rfl | (simp; done))); (· first | rfl | (simp; done) | (simp [AVal.pure, AVal.pures, AObj.pure]; done)); (· rfl); (· rfl))) | (apply runk0 rfl rfl (opok_box_ro rfl ?_ ?_ ?_) ?_; rotate_left 2; (· (conv => (lhs; whnf))); (· rfl); (· (conv => (lhs; whnf)))) | (apply runk0 rfl rfl (opok_move rfl ?_) ?_; rotate_left 1; (· (conv => (lhs; whnf)))) | (apply runk0 rfl rfl (opok_assign rfl ?_) ?_; rotate_left 1; (· (conv => (lhs; whnf)))) | (apply runk0 rfl rfl (opok_bin rfl ?_ ?_ ?_) ?_; rotate_left 3; (· (conv => (lhs; whnf))); (· (conv => (lhs; whnf))); (· (intro w; go_simp; first | done | rfl))) | (apply runk_guard rfl rfl ?_ rfl ?_ ?_; rotate_left 3; (· (conv => (lhs; whnf))); (· (intro hb; (try rw [hb]); apply opok_move rfl ?_; rotate_left 1; (· (conv => (lhs; whnf)))))) | (apply runk_guard rfl rfl ?_ rfl ?_ ?_; rotate_left 3; (· (conv => (lhs; whnf))); (· (intro hb; (try rw [hb]); apply opok_bin rfl ?_ ?_ ?_; rotate_left 3; (· (conv => (lhs; whnf))); (· (conv => (lhs; whnf))); (· (intro w; go_simp; first | done | rfl))))) | (apply runk0 rfl rfl (opok_pick rfl ?_ ?_) ?_; rotate_left 2; (· (conv => (lhs; whnf))); (· first | exact pick_or | exact pick_and | (conv => (lhs; whnf)))) | refine runk_end (by kernel_rfl) ?_ | (apply runk_guard rfl rfl ?_ rfl ?_ ?_; rotate_left 3; (· (conv => (lhs; whnf))); (· (intro hb; (try rw [hb]); apply opok_faR rfl ?_ rfl rfl ?_ ?_ ?_; rotate_left 3; (· (conv => (lhs; whnf))); (· (unfold sizeIs; conv => (lhs; whnf; arg 1; whnf))); (· rfl); (· (conv => (lhs; (repeat (whnf; arg 2)); whnf)))))) | (apply runk_guard rfl rfl ?_ rfl ?_ ?_; rotate_left 3; (· (conv => (lhs; whnf))); (· (intro hb; (try rw [hb]); apply opok_loadR rfl ?_ ?_ ?_; rotate_left 2; (· (conv => (lhs; whnf))); (· rfl); (· (conv => (lhs; whnf; arg 1; whnf))))))))
def lkOk (sw : Int) (l : Int × Int × Int) : Bool := decide (0 ≤ l.1) && decide (l.1 < sw) && (decide (0 ≤ l.2.1) && decide (l.2.1 < sw)) && !(l.1 == l.2.1) && decide (1 ≤ l.2.2) && decide (l.2.2 ≤ 1048576)
def FK.head (f : FK) : Bool := decide (1 ≤ f.sw) && decide (f.sw ≤ 8) && decide (f.ls.length ≤ 24)
def FK.ok (f : FK) : Bool := f.head && f.ls.all (lkOk f.sw) && (f.dn.length == f.ls.length) && ((f.dd.length : Int) == f.sw)
set_option maxHeartbeats 16000000 in
set_option maxRecDepth 100000 in
theorem valid_spec (f : FK) : Spec Try.prog 28 [.agg f.A] [] (.val (.bool f.ok)) [] := by
  have hw := fun s => within_spec f s
  cases hh : f.head with
  | false =>
    have e : f.ok = false := by unfold FK.ok; rw [hh]; rfl
    rw [e]
    have hd : (decide (f.sw < 1) || decide (8 < f.sw) || decide ((24 : Int) < (f.ls.length : Int))) = true := by
      simp only [FK.head, Bool.and_eq_false_iff, decide_eq_false_iff_not] at hh
      simp only [Bool.or_eq_true, decide_eq_true_eq]
      omega
    obtain ⟨sw, ls, dn, dd⟩ := f
    unfold FK.A
    dsimp only at hd ⊢
    refine spec_of_awp Try.func28 rfl (Nat.le_of_ble_eq_true rfl) fun ini => ?_
    simp only [Try.ntmps28]
    (repeat (first | refine awp_reg_seq rfl fun k => ?_ | refine awp_seq ?_ | refine awp_isT rfl (by assumption) ?_ | (refine awp_ret ?_; (apply ends_pure ?_ ?_ ?_ ?_ ?_ (.inl rfl); rotate_left 1; (· first | exact res_one rfl rfl | exact res_two rfl rfl rfl | exact res_none rfl | exact res_three rfl rfl rfl rfl | exact res_cell rfl rfl rfl rfl rfl | exact res_cell2 rfl rfl rfl rfl rfl rfl | exact res3 rfl (rv_cell rfl rfl rfl rfl) (rv_tmp rfl) (rv_tmp rfl) | exact res3 rfl (rv_cell rfl rfl rfl rfl) (rv_cell rfl rfl rfl rfl) (rv_cell rfl rfl rfl rfl)); (· first | rfl | ((conv => (lhs; whnf)); first | rfl | (simp; done))); (· first | rfl | (simp; done) | (simp [AVal.pure, AVal.pures, AObj.pure]; done)); (· rfl); (· rfl))) | (apply runk0 rfl rfl (opok_box_ro rfl ?_ ?_ ?_) ?_; rotate_left 2; (· (conv => (lhs; whnf))); (· rfl); (· (conv => (lhs; whnf)))) | (apply runk0 rfl rfl (opok_move rfl ?_) ?_; rotate_left 1; (· (conv => (lhs; whnf)))) | (apply runk0 rfl rfl (opok_assign rfl ?_) ?_; rotate_left 1; (· (conv => (lhs; whnf)))) | (first | (apply runk0 rfl rfl (opok_load rfl ?_ ?_ ?_ ?_) ?_; rotate_left 5; (· (conv => (lhs; whnf))); (· (conv => (lhs; whnf; arg 1; whnf; arg 2; whnf))); (· rfl); (· (conv => (lhs; whnf; arg 1; whnf)))) | (apply runk0 rfl rfl (opok_loadR rfl ?_ ?_ ?_) ?_; rotate_left 2; (· (conv => (lhs; whnf))); (· rfl); (· (conv => (lhs; whnf; arg 1; whnf))))) | (apply runk0 rfl rfl (opok_bin rfl ?_ ?_ ?_) ?_; rotate_left 3; (· (conv => (lhs; whnf))); (· (conv => (lhs; whnf))); (· (intro w; go_simp; first | done | rfl))) | (apply runk_guard rfl rfl ?_ rfl ?_ ?_; rotate_left 3; (· (conv => (lhs; whnf))); (· (intro hb; (try rw [hb]); apply opok_len rfl ?_ ?_ ?_; rotate_left 3; (· (conv => (lhs; whnf))); (· (conv => (lhs; whnf; arg 1; whnf))); (· first | exact length_ints _ _ | rfl)))) | (apply runk_guard rfl rfl ?_ rfl ?_ ?_; rotate_left 3; (· (conv => (lhs; whnf))); (· (intro hb; (try rw [hb]); apply opok_bin rfl ?_ ?_ ?_; rotate_left 3; (· (conv => (lhs; whnf))); (· (conv => (lhs; whnf))); (· (intro w; go_simp; first | done | rfl))))) | (apply runk0 rfl rfl (opok_pick rfl ?_ ?_) ?_; rotate_left 2; (· (conv => (lhs; whnf))); (· first | exact pick_or | exact pick_and | (conv => (lhs; whnf)))) | refine runk_end (by kernel_rfl) ?_ | (apply runk0 rfl rfl (opok_faR rfl ?_ rfl rfl ?_ ?_ ?_) ?_; rotate_left 3; (· (conv => (lhs; whnf))); (· (unfold sizeIs; conv => (lhs; whnf; arg 1; whnf))); (· rfl); (· (conv => (lhs; (repeat (whnf; arg 2)); whnf)))) | (apply runk_guard rfl rfl ?_ rfl ?_ ?_; rotate_left 3; (· (conv => (lhs; whnf))); (· (intro hb; (try rw [hb]); apply opok_faR rfl ?_ rfl rfl ?_ ?_ ?_; rotate_left 3; (· (conv => (lhs; whnf))); (· (unfold sizeIs; conv => (lhs; whnf; arg 1; whnf))); (· rfl); (· (conv => (lhs; (repeat (whnf; arg 2)); whnf)))))) | (apply runk_guard rfl rfl ?_ rfl ?_ ?_; rotate_left 3; (· (conv => (lhs; whnf))); (· (intro hb; (try rw [hb]); apply opok_loadR rfl ?_ ?_ ?_; rotate_left 2; (· (conv => (lhs; whnf))); (· rfl); (· (conv => (lhs; whnf; arg 1; whnf))))))))
  | true =>
    obtain ⟨sw, ls, dn, dd⟩ := f
    unfold FK.A at *
    dsimp only at hw ⊢
    have h1 : 1 ≤ sw ∧ sw ≤ 8 ∧ ls.length ≤ 24 := by simpa [FK.head, and_assoc] using hh
    have d1 : decide (sw < 1) = false := decide_eq_false (by omega)
    have d2 : decide (8 < sw) = false := decide_eq_false (by omega)
    have d3 : decide ((24 : Int) < (ls.length : Int)) = false := decide_eq_false (by omega)
    have d3' : decide (24 < ls.length) = false := decide_eq_false (by omega)
    have e1 : ((dn.length : Int) == (ls.length : Int)) = (dn.length == ls.length) := by
      by_cases h : dn.length = ls.length
      · rw [h]; simp only [beq_self_eq_true]
      · rw [beq_eq_false_iff_ne.2 (show (dn.length : Int) ≠ (ls.length : Int) by omega), beq_eq_false_iff_ne.2 h]
    refine spec_of_awp Try.func28 rfl (Nat.le_of_ble_eq_true rfl) fun ini => ?_
    simp only [Try.ntmps28]
    (repeat (first | refine awp_reg_seq rfl fun k => ?_ | refine awp_seq ?_ | refine awp_false rfl ?_ | refine awp_skip (?_ : Awp _ _ _ _ _ _) | refine awp_block ?_ | (apply runk0 rfl rfl (opok_box_ro rfl ?_ ?_ ?_) ?_; rotate_left 2; (· (conv => (lhs; whnf))); (· rfl); (· (conv => (lhs; whnf)))) | (first | refine runk_ung rfl rfl rfl rfl ?_ | refine runk_ung rfl rfl rfl (by assumption) ?_) | (apply runk0 rfl rfl (opok_move rfl ?_) ?_; rotate_left 1; (· (conv => (lhs; whnf)))) | (apply runk0 rfl rfl (opok_assign rfl ?_) ?_; rotate_left 1; (· (conv => (lhs; whnf)))) | (first | (apply runk0 rfl rfl (opok_load rfl ?_ ?_ ?_ ?_) ?_; rotate_left 5; (· (conv => (lhs; whnf))); (· (conv => (lhs; whnf; arg 1; whnf; arg 2; whnf))); (· rfl); (· (conv => (lhs; whnf; arg 1; whnf)))) | (apply runk0 rfl rfl (opok_loadR rfl ?_ ?_ ?_) ?_; rotate_left 2; (· (conv => (lhs; whnf))); (· rfl); (· (conv => (lhs; whnf; arg 1; whnf))))) | (apply runk0 rfl rfl (opok_bin rfl ?_ ?_ ?_) ?_; rotate_left 3; (· (conv => (lhs; whnf))); (· (conv => (lhs; whnf))); (· (intro w; go_simp; first | done | rfl))) | (first | (apply runk0 rfl rfl (opok_lenO rfl ?_ ?_ ?_) ?_; rotate_left 5; (· (conv => (lhs; whnf))); (· (conv => (lhs; whnf; arg 1; whnf))); (· first | exact length_ints _ _ | rfl)) | (apply runk0 rfl rfl (opok_len_own rfl ?_ ?_) ?_; rotate_left 4; (· (conv => (lhs; whnf))); (· (conv => (lhs; whnf; arg 1; whnf)))) | (apply runk0 rfl rfl (opok_len rfl ?_ ?_ ?_) ?_; rotate_left 3; (· (conv => (lhs; whnf))); (· (conv => (lhs; whnf; arg 1; whnf))); (· first | exact length_ints _ _ | rfl))) | (apply runk0 rfl rfl (opok_pick rfl ?_ ?_) ?_; rotate_left 2; (· (conv => (lhs; whnf))); (· first | exact pick_or | exact pick_and | (conv => (lhs; whnf)))) | refine runk_end (by kernel_rfl) ?_ | (apply runk0 rfl rfl (opok_faR rfl ?_ rfl rfl ?_ ?_ ?_) ?_; rotate_left 3; (· (conv => (lhs; whnf))); (· (unfold sizeIs; conv => (lhs; whnf; arg 1; whnf))); (· rfl); (· (conv => (lhs; (repeat (whnf; arg 2)); whnf))))))
    clear d1 d2 d3 d3'
    refine awp_loop (fun n st => ∃ j : Nat, j + n = ls.length ∧ (ls.take j).all (lkOk sw) = true ∧ st.leB ⟨[(1, .rref [.val (.int .i64 sw), .ro (ls.map lkA), .ro (bls dn), .ro (bls dd)]), (2, .val (.bool false)), (20, .ro (ls.map lkA)), (21, .val (.int .i64 (ls.length : Int))), (22, .val (.int .i64 (j : Int)))], []⟩) ls.length ⟨0, by omega, rfl, ?_⟩ ?_
    · (refine leB_of ?_ ?_; (· (repeat (first | exact EnvIs.nil | (refine EnvIs.cons ?_ ?_; (· first | rfl | ((conv => (lhs; whnf)); first | (simp [ints]; done) | (simp [ints]; omega))))))); (· (repeat (first | exact ObjsAre.nil | (refine ObjsAre.cons ?_ ?_; (· first | rfl | ((conv => (lhs; whnf)); first | (simp [ints]; done) | (simp [ints]; omega))))))))
    · rintro n st ⟨j, hj, ha, hle⟩
      refine awp_less hle ?_
      clear hle st
      (repeat (first | refine awp_reg_seq rfl fun k => ?_ | refine awp_seq ?_ | (apply runk0 rfl rfl (opok_bin rfl ?_ ?_ ?_) ?_; rotate_left 3; (· (conv => (lhs; whnf))); (· (conv => (lhs; whnf))); (· (intro w; go_simp; first | done | rfl))) | refine runk_end (by kernel_rfl) ?_))
      refine awp_if rfl (fun hc => ?_) (fun hc => ?_)
      · have hlt : j < ls.length := by simpa using hc
        clear hc
        have hx := lk_at ls hlt
        have wj : IntKind.i64.wrap ((j : Int) + 1) = ((j + 1 : Nat) : Int) := by rw [IntKind.wrap_i64]; omega
        have hall : (ls.take (j + 1)).all (lkOk sw) = lkOk sw (ls.getD j (0, 0, 0)) := by
          rw [List.take_succ_eq_append_getElem hlt, List.all_append, ha]
          simp [List.getD_eq_getElem?_getD, hlt]
        have hmem : ls.getD j (0, 0, 0) ∈ ls := by
          rw [List.getD_eq_getElem?_getD, List.getElem?_eq_getElem hlt]
          exact List.getElem_mem hlt
        generalize ls.getD j (0, 0, 0) = c at *
        obtain ⟨a, b, c⟩ := c
        dsimp only at hx
        have wa := hw a
        have wb := hw b
        have eE : (!(decide (0 ≤ a) && decide (a < sw)) || !(decide (0 ≤ b) && decide (b < sw)) || (a == b) || decide (c < 1) || decide (1048576 < c)) = !lkOk sw (a, b, c) := by
          unfold lkOk
          dsimp only
          have x1 : decide (c < 1) = !decide (1 ≤ c) := by by_cases h : 1 ≤ c <;> simp [h] <;> omega
          have x2 : decide (1048576 < c) = !decide (c ≤ 1048576) := by by_cases h : c ≤ 1048576 <;> simp [h] <;> omega
          rw [x1, x2]
          cases decide (0 ≤ a) && decide (a < sw) <;> cases decide (0 ≤ b) && decide (b < sw) <;> cases a == b <;> cases decide (1 ≤ c) <;> cases decide (c ≤ 1048576) <;> rfl
        generalize (decide (0 ≤ a) && decide (a < sw)) = W1 at *
        generalize (decide (0 ≤ b) && decide (b < sw)) = W2 at *
        (repeat (first | refine awp_reg_seq rfl fun k => ?_ | refine awp_seq ?_ | refine awp_skip (?_ : Awp _ _ _ _ _ _) | refine awp_block ?_))
        (apply runk0 rfl rfl (opok_index_ro rfl ?_ ?_ ?_ ?_ ?_ ?_ ?_) ?_; rotate_left 6; (· (conv => (lhs; whnf))); (· (conv => (lhs; whnf))); (· (conv => (lhs; whnf; arg 1; whnf))); (· (unfold sizeIs; conv => (lhs; whnf; arg 1; whnf))); (· simp); (· first | omega | (simp; done) | (simp; omega)); (· simp only [Int.toNat_natCast]; exact hx))
        (repeat (first | refine awp_reg_seq rfl fun k => ?_ | refine awp_isF rfl (by assumption) ?_ | (apply runk_pure rfl rfl rfl ?_ ?_ ?_ ?_ ?_ ?_ ?_ ?_; rotate_left 6; (· (conv => (lhs; whnf))); (· exact Try.func32); (· rfl); (· rfl); (· exact (wa)); (· (repeat (first | exact Rens.nil | (refine Rens.cons ?_ ?_; (· first | exact Ren.own _ _ _ _ _ _ rfl List.mem_cons_self | exact Ren.own _ _ _ _ _ _ rfl (List.mem_cons_of_mem _ List.mem_cons_self) | (refine (Ren.own _ _ _ _ _ _ ?_ List.mem_cons_self); first | rfl | (simp; done)) | (refine (Ren.own _ _ _ _ _ _ ?_ (List.mem_cons_of_mem _ List.mem_cons_self)); first | rfl | (simp; done)) | exact Ren.ptr _ _ _ _ _ List.mem_cons_self | (refine Ren.pureR ?_ rfl; (first | rfl | (simp; done) | (simp [AVal.pure, AVal.pures, AObj.pure]; done)))))))); (· first | rfl | (simp; done) | simp [AVal.pure, AVal.pures, AObj.pure])) | (apply runk_guard rfl rfl ?_ rfl ?_ ?_; rotate_left 3; (· (conv => (lhs; whnf))); (· (intro hb; (try rw [hb]); apply opok_pure rfl ?_ ?_ ?_ ?_ ?_ ?_ ?_; rotate_left 6; (· (conv => (lhs; whnf))); (· exact Try.func32); (· rfl); (· rfl); (· exact (wb)); (· (repeat (first | exact Rens.nil | (refine Rens.cons ?_ ?_; (· first | exact Ren.own _ _ _ _ _ _ rfl List.mem_cons_self | exact Ren.own _ _ _ _ _ _ rfl (List.mem_cons_of_mem _ List.mem_cons_self) | (refine (Ren.own _ _ _ _ _ _ ?_ List.mem_cons_self); first | rfl | (simp; done)) | (refine (Ren.own _ _ _ _ _ _ ?_ (List.mem_cons_of_mem _ List.mem_cons_self)); first | rfl | (simp; done)) | exact Ren.ptr _ _ _ _ _ List.mem_cons_self | (refine Ren.pureR ?_ rfl; (first | rfl | (simp; done) | (simp [AVal.pure, AVal.pures, AObj.pure]; done)))))))); (· first | rfl | (simp; done) | simp [AVal.pure, AVal.pures, AObj.pure])))) | (((apply runk_guard rfl rfl ?_ rfl ?_ ?_; rotate_left 3; (· (conv => (lhs; whnf))); (· (intro hb; (try rw [hb]); apply opok_un rfl ?_ ?_; rotate_left 2; (· (conv => (lhs; whnf))); (· (intro w; go_simp; first | done | rfl))))))) | (apply runk0 rfl rfl (opok_move rfl ?_) ?_; rotate_left 1; (· (conv => (lhs; whnf)))) | (apply runk_fa rfl rfl rfl ?_ rfl rfl ?_ ?_ ?_ ?_; rotate_left 5; (· (conv => (lhs; whnf))); (· (unfold sizeIs; conv => (lhs; whnf; arg 1; whnf))); (· rfl); (· (conv => (lhs; whnf)))) | (first | (apply runk0 rfl rfl (opok_load rfl ?_ ?_ ?_ ?_) ?_; rotate_left 5; (· (conv => (lhs; whnf))); (· (conv => (lhs; whnf; arg 1; whnf; arg 2; whnf))); (· rfl); (· (conv => (lhs; whnf; arg 1; whnf)))) | (apply runk0 rfl rfl (opok_loadR rfl ?_ ?_ ?_) ?_; rotate_left 2; (· (conv => (lhs; whnf))); (· rfl); (· (conv => (lhs; whnf; arg 1; whnf))))) | (apply runk0 rfl rfl (opok_un rfl ?_ ?_) ?_; rotate_left 2; (· (conv => (lhs; whnf))); (· (intro w; go_simp; first | done | rfl))) | (apply runk_guard rfl rfl ?_ rfl ?_ ?_; rotate_left 3; (· (conv => (lhs; whnf))); (· (intro hb; (try rw [hb]); apply opok_fieldAddr0 rfl ?_ rfl rfl ?_ ?_ ?_; rotate_left 5; (· (conv => (lhs; whnf))); (· (unfold sizeIs; conv => (lhs; whnf; arg 1; whnf))); (· rfl); (· (conv => (lhs; whnf)))))) | (apply runk_guard rfl rfl ?_ rfl ?_ ?_; rotate_left 3; (· (conv => (lhs; whnf))); (· (intro hb; (try rw [hb]); apply opok_load rfl ?_ ?_ ?_ ?_; rotate_left 5; (· (conv => (lhs; whnf))); (· (conv => (lhs; whnf; arg 1; whnf; arg 2; whnf))); (· rfl); (· (conv => (lhs; whnf; arg 1; whnf)))))) | (apply runk_guard rfl rfl ?_ rfl ?_ ?_; rotate_left 3; (· (conv => (lhs; whnf))); (· (intro hb; (try rw [hb]); apply opok_bin rfl ?_ ?_ ?_; rotate_left 3; (· (conv => (lhs; whnf))); (· (conv => (lhs; whnf))); (· (intro w; go_simp; first | done | rfl))))) | (apply runk0 rfl rfl (opok_pick rfl ?_ ?_) ?_; rotate_left 2; (· (conv => (lhs; whnf))); (· first | exact pick_or | exact pick_and | (conv => (lhs; whnf)))) | (apply runk_alloc rfl rfl rfl ?_ ?_ ?_; rotate_left 2; (· (conv => (lhs; whnf; arg 1; whnf))); (· (conv => (lhs; whnf)))) | (apply runk_store rfl rfl rfl ?_ ?_ ?_ ?_ ?_ ?_ ?_ ?_ ?_ ?_ ?_; rotate_left 9; (· (conv => (lhs; whnf))); (· (conv => (lhs; whnf))); (· (conv => (lhs; whnf; arg 1; whnf; arg 2; whnf))); (· rfl); (· (conv => (lhs; whnf))); (· rfl); (· (unfold sizeIs; conv => (lhs; whnf; arg 1; whnf))); (· rfl); (· rfl); (· (conv => (lhs; repeat (whnf; arg 2))))) | refine runk_end (by kernel_rfl) ?_ | (apply runk0 rfl rfl (opok_loadRA2 rfl ?_ ?_ ?_ ?_) ?_; rotate_left 2; (· (conv => (lhs; whnf))); (· rfl); (· (unfold sizeIs; conv => (lhs; whnf; arg 1; whnf))); (· rfl)) | (apply runk_guard rfl rfl ?_ rfl ?_ ?_; rotate_left 3; (· (conv => (lhs; whnf))); (· (intro hb; (try rw [hb]); apply opok_loadRA2 rfl ?_ ?_ ?_ ?_; rotate_left 2; (· (conv => (lhs; whnf))); (· rfl); (· (unfold sizeIs; conv => (lhs; whnf; arg 1; whnf))); (· rfl))))))
        refine awp_if rfl (fun hc => ?_) (fun hc => ?_)
        · have ef : (FK.mk sw ls dn dd).ok = false := by
            have hb : lkOk sw (a, b, c) = false := by rw [eE] at hc; simpa using hc
            have hn : ls.all (lkOk sw) = false := by
              rw [List.all_eq_false]
              exact ⟨_, hmem, by rw [hb]; simp⟩
            unfold FK.ok
            dsimp only
            rw [hh, hn]
            rfl
          rw [ef]
          (repeat (first | refine awp_reg_seq rfl fun k => ?_ | (refine awp_ret ?_; (apply ends_pure ?_ ?_ ?_ ?_ ?_ (.inl rfl); rotate_left 1; (· first | exact res_one rfl rfl | exact res_two rfl rfl rfl | exact res_none rfl | exact res_three rfl rfl rfl rfl | exact res_cell rfl rfl rfl rfl rfl | exact res_cell2 rfl rfl rfl rfl rfl rfl | exact res3 rfl (rv_cell rfl rfl rfl rfl) (rv_tmp rfl) (rv_tmp rfl) | exact res3 rfl (rv_cell rfl rfl rfl rfl) (rv_cell rfl rfl rfl rfl) (rv_cell rfl rfl rfl rfl)); (· first | rfl | ((conv => (lhs; whnf)); first | rfl | (simp; done))); (· first | rfl | (simp; done) | (simp [AVal.pure, AVal.pures, AObj.pure]; done)); (· rfl); (· rfl))) | (apply runk0 rfl rfl (opok_assign rfl ?_) ?_; rotate_left 1; (· (conv => (lhs; whnf)))) | refine runk_end (by kernel_rfl) ?_))
        · have hb : lkOk sw (a, b, c) = true := by rw [eE] at hc; simpa using hc
          rw [hb] at hall
          clear hc
          refine awp_skip (?_ : Awp _ _ _ _ _ _)
          (repeat (first | refine awp_reg rfl fun k => ?_ | (apply runk0 rfl rfl (opok_move rfl ?_) ?_; rotate_left 1; (· (conv => (lhs; whnf)))) | (apply runk0 rfl rfl (opok_bin rfl ?_ ?_ ?_) ?_; rotate_left 3; (· (conv => (lhs; whnf))); (· (conv => (lhs; whnf))); (· (intro w; go_simp; first | done | rfl))) | refine runk_end (by kernel_rfl) ?_))
          refine ⟨n - 1, by omega, j + 1, by omega, hall, ?_⟩
          (refine leB_of ?_ ?_; (· (repeat (first | exact EnvIs.nil | (refine EnvIs.cons ?_ ?_; (· first | rfl | ((conv => (lhs; whnf)); first | (simp [ints]; done) | (simp [ints]; omega))))))); (· (repeat (first | exact ObjsAre.nil | (refine ObjsAre.cons ?_ ?_; (· first | rfl | ((conv => (lhs; whnf)); first | (simp [ints]; done) | (simp [ints]; omega))))))))
      · have hie : j = ls.length := by simp at hc; omega
        subst hie
        rw [List.take_length] at ha
        have ef : (FK.mk sw ls dn dd).ok = ((dn.length == ls.length) && ((dd.length : Int) == sw)) := by
          unfold FK.ok
          dsimp only
          rw [hh, ha]
          rfl
        rw [ef]
        clear hc hw hh ha ef
        cases q1 : (dn.length == ls.length) <;> cases q2 : ((dd.length : Int) == sw)
        all_goals
          rw [q1] at e1
          refine awp_exit (?_ : Awp _ _ _ _ _ _)
          (repeat (first | refine awp_reg_seq rfl fun k => ?_ | (refine awp_ret ?_; (apply ends_pure ?_ ?_ ?_ ?_ ?_ (.inl rfl); rotate_left 1; (· first | exact res_one rfl rfl | exact res_two rfl rfl rfl | exact res_none rfl | exact res_three rfl rfl rfl rfl | exact res_cell rfl rfl rfl rfl rfl | exact res_cell2 rfl rfl rfl rfl rfl rfl | exact res3 rfl (rv_cell rfl rfl rfl rfl) (rv_tmp rfl) (rv_tmp rfl) | exact res3 rfl (rv_cell rfl rfl rfl rfl) (rv_cell rfl rfl rfl rfl) (rv_cell rfl rfl rfl rfl)); (· first | rfl | ((conv => (lhs; whnf)); first | rfl | (simp; done))); (· first | rfl | (simp; done) | (simp [AVal.pure, AVal.pures, AObj.pure]; done)); (· rfl); (· rfl))) | (first | refine runk_ung rfl rfl rfl rfl ?_ | refine runk_ung rfl rfl rfl (by assumption) ?_) | (first | refine runk_off rfl rfl rfl rfl rfl ?_ | refine runk_off rfl rfl rfl (by assumption) rfl ?_ | refine runk_offN rfl rfl rfl rfl rfl ?_ | refine runk_offU rfl rfl rfl rfl ?_ | refine runk_offUN rfl rfl rfl rfl ?_) | (apply runk0 rfl rfl (opok_move rfl ?_) ?_; rotate_left 1; (· (conv => (lhs; whnf)))) | (apply runk0 rfl rfl (opok_assign rfl ?_) ?_; rotate_left 1; (· (conv => (lhs; whnf)))) | (first | (apply runk0 rfl rfl (opok_load rfl ?_ ?_ ?_ ?_) ?_; rotate_left 5; (· (conv => (lhs; whnf))); (· (conv => (lhs; whnf; arg 1; whnf; arg 2; whnf))); (· rfl); (· (conv => (lhs; whnf; arg 1; whnf)))) | (apply runk0 rfl rfl (opok_loadR rfl ?_ ?_ ?_) ?_; rotate_left 2; (· (conv => (lhs; whnf))); (· rfl); (· (conv => (lhs; whnf; arg 1; whnf))))) | (apply runk0 rfl rfl (opok_bin rfl ?_ ?_ ?_) ?_; rotate_left 3; (· (conv => (lhs; whnf))); (· (conv => (lhs; whnf))); (· (intro w; go_simp; first | done | rfl))) | (first | (apply runk0 rfl rfl (opok_lenO rfl ?_ ?_ ?_) ?_; rotate_left 5; (· (conv => (lhs; whnf))); (· (conv => (lhs; whnf; arg 1; whnf))); (· first | exact length_ints _ _ | rfl)) | (apply runk0 rfl rfl (opok_len_own rfl ?_ ?_) ?_; rotate_left 4; (· (conv => (lhs; whnf))); (· (conv => (lhs; whnf; arg 1; whnf)))) | (apply runk0 rfl rfl (opok_len rfl ?_ ?_ ?_) ?_; rotate_left 3; (· (conv => (lhs; whnf))); (· (conv => (lhs; whnf; arg 1; whnf))); (· first | exact length_ints _ _ | rfl))) | (apply runk0 rfl rfl (opok_pick rfl ?_ ?_) ?_; rotate_left 2; (· (conv => (lhs; whnf))); (· first | exact pick_or | exact pick_and | (conv => (lhs; whnf)))) | refine runk_end (by kernel_rfl) ?_ | (apply runk0 rfl rfl (opok_faR rfl ?_ rfl rfl ?_ ?_ ?_) ?_; rotate_left 3; (· (conv => (lhs; whnf))); (· (unfold sizeIs; conv => (lhs; whnf; arg 1; whnf))); (· rfl); (· (conv => (lhs; (repeat (whnf; arg 2)); whnf))))))
end Go.Proofs.Ytpdiainbcekpiaa
