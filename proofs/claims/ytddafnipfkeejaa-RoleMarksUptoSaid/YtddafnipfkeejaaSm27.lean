/-
  Whether attributes are small, by states.
-/
import Derived.Test.YtddafnipfkeejaaCr27
namespace Go.Proofs.Ytddafnipfkeejaa
open Go.RowKit
/-- How much the first segments and the first unknown ones add. -/
def smP (l : List (Bool × List Int)) : Nat → Int
  | 0 => 0
  | i + 1 => smP l i + (1 + ((l.getD i (false, [])).2.length : Int))
def smU (l : List (Int × Int × List Int)) : Nat → Int
  | 0 => 0
  | i + 1 => smU l i + ((l.getD i (0, 0, [])).2.2.length : Int)
theorem smP_ge (l : List (Bool × List Int)) : ∀ i : Nat, (i : Int) ≤ smP l i
  | 0 => Int.le_refl 0
  | i + 1 => by have := smP_ge l i; unfold smP; omega
theorem smU_ge (l : List (Int × Int × List Int)) : ∀ i : Nat, 0 ≤ smU l i
  | 0 => Int.le_refl 0
  | i + 1 => by have := smU_ge l i; unfold smU; omega
theorem smP_mem (l : List (Bool × List Int)) {j : Nat} : ∀ {i : Nat}, j < i → ((l.getD j (false, [])).2.length : Int) ≤ smP l i
  | i + 1, h => by
    unfold smP
    by_cases hj : j = i
    · subst hj; have := smP_ge l j; omega
    · have := smP_mem l (j := j) (i := i) (by omega); omega
theorem smU_mem (l : List (Int × Int × List Int)) {j : Nat} : ∀ {i : Nat}, j < i → ((l.getD j (0, 0, [])).2.2.length : Int) ≤ smU l i
  | i + 1, h => by
    unfold smU
    by_cases hj : j = i
    · subst hj; have := smU_ge l j; omega
    · have := smU_mem l (j := j) (i := i) (by omega); omega

theorem smP_le {l : List (Bool × List Int)} (h : ∀ s ∈ l, s.2.length ≤ 1000000000) : ∀ i : Nat, smP l i ≤ 1000000001 * (i : Int)
  | 0 => Int.le_refl 0
  | i + 1 => by
    have h1 := smP_le h i
    have h2 : (l.getD i (false, [])).2.length ≤ 1000000000 := by
      rw [List.getD_eq_getElem?_getD]
      cases e : l[i]? with
      | none => simp
      | some s => exact h s (List.mem_of_getElem? e)
    unfold smP
    omega
theorem smU_le {l : List (Int × Int × List Int)} (h : ∀ u ∈ l, u.2.2.length ≤ 1000000000) : ∀ i : Nat, smU l i ≤ 1000000000 * (i : Int)
  | 0 => Int.le_refl 0
  | i + 1 => by
    have h1 := smU_le h i
    have h2 : (l.getD i (0, 0, [])).2.2.length ≤ 1000000000 := by
      rw [List.getD_eq_getElem?_getD]
      cases e : l[i]? with
      | none => simp
      | some s => exact h s (List.mem_of_getElem? e)
    unfold smU
    omega
/-- No part of it is too long to be counted. -/
def AK.fit (a : AK) : Prop := a.p.length ≤ 1000000000 ∧ a.cs.length ≤ 1000000000 ∧ a.ls.length ≤ 1000000000 ∧ a.us.length ≤ 1000000000 ∧ (∀ s ∈ a.p, s.2.length ≤ 1000000000) ∧ ∀ u ∈ a.us, u.2.2.length ≤ 1000000000
/-- How many values attributes name. -/
def numsA (a : AK) : Int := (a.cs.length : Int) + (a.ls.length : Int) + (a.us.length : Int) + smP a.p a.p.length + smU a.us a.us.length
theorem smP_all {l : List (Bool × List Int)} {s : Bool × List Int} (h : s ∈ l) : (s.2.length : Int) ≤ smP l l.length := by
  obtain ⟨j, hj, rfl⟩ := List.mem_iff_getElem.1 h
  have := smP_mem l hj
  rwa [List.getD_eq_getElem?_getD, List.getElem?_eq_getElem hj] at this
theorem smU_all {l : List (Int × Int × List Int)} {s : Int × Int × List Int} (h : s ∈ l) : (s.2.2.length : Int) ≤ smU l l.length := by
  obtain ⟨j, hj, rfl⟩ := List.mem_iff_getElem.1 h
  have := smU_mem l hj
  rwa [List.getD_eq_getElem?_getD, List.getElem?_eq_getElem hj] at this
theorem numsA_lim {a : AK} (h : numsA a ≤ 2000) : a.lim := by
  have hp := smP_ge a.p a.p.length
  have hu := smU_ge a.us a.us.length
  unfold numsA at h
  refine ⟨by omega, by omega, by omega, by omega, fun s hs => ?_, fun u hu' => ?_⟩
  · have := smP_all hs; omega
  · have := smU_all hu'; omega
set_option maxHeartbeats 8000000 in
set_option maxRecDepth 100000 in
theorem small_spec (a : AK) (h : a.fit) : Spec Try.prog 8 [.agg a.A] [] (.val (.bool (decide (numsA a ≤ 2000)))) [] := by
  obtain ⟨h1, h2, h3, h4, h5, h6⟩ := h
  have pb := smP_le h5
  have ub := smU_le h6
  have hp := smP_ge a.p
  have hu := smU_ge a.us
  obtain ⟨o, p, v6, hi, lo, med, pref, otc, cs, ls, us⟩ := a
  unfold AK.A numsA
  dsimp only at *
  have hmp : ((p.map segA).length : Int) = (p.length : Int) := by rw [List.length_map]
  have hmu : ((us.map unkA).length : Int) = (us.length : Int) := by rw [List.length_map]
  have atp : ∀ i, i < p.length → (p.map segA)[i]? = some (segA (p.getD i (false, []))) := fun i hi => by
    rw [List.getElem?_map, List.getElem?_eq_getElem hi, List.getD_eq_getElem?_getD, List.getElem?_eq_getElem hi]; rfl
  have atu : ∀ i, i < us.length → (us.map unkA)[i]? = some (unkA (us.getD i (0, 0, []))) := fun i hi => by
    rw [List.getElem?_map, List.getElem?_eq_getElem hi, List.getD_eq_getElem?_getD, List.getElem?_eq_getElem hi]; rfl
  have w0 : IntKind.i64.wrap ((cs.length : Int) + (ls.length : Int)) = (cs.length : Int) + (ls.length : Int) := by rw [IntKind.wrap_i64]; omega
  have w1 : IntKind.i64.wrap ((cs.length : Int) + (ls.length : Int) + (us.length : Int)) = (cs.length : Int) + (ls.length : Int) + (us.length : Int) := by rw [IntKind.wrap_i64]; omega
  refine spec_of_awp Try.func8 rfl (Nat.le_of_ble_eq_true rfl) fun ini => ?_
  simp only [Try.ntmps8]
  (repeat (first | refine awp_reg_seq rfl fun k => ?_ | refine awp_seq ?_ | refine awp_isF rfl (by assumption) ?_ | refine awp_block ?_ | (apply runk0 rfl rfl (opok_move rfl ?_) ?_; rotate_left 1; (· (conv => (lhs; whnf)))) | (apply runk0 rfl rfl (opok_assign rfl ?_) ?_; rotate_left 1; (· (conv => (lhs; whnf)))) | (apply runk_fa rfl rfl rfl ?_ rfl rfl ?_ ?_ ?_ ?_; rotate_left 5; (· (conv => (lhs; whnf))); (· (unfold sizeIs; conv => (lhs; whnf; arg 1; whnf))); (· rfl); (· (conv => (lhs; whnf)))) | (first | (apply runk0 rfl rfl (opok_load rfl ?_ ?_ ?_ ?_) ?_; rotate_left 5; (· (conv => (lhs; whnf))); (· (conv => (lhs; whnf; arg 1; whnf; arg 2; whnf))); (· rfl); (· (conv => (lhs; whnf; arg 1; whnf)))) | (apply runk0 rfl rfl (opok_loadR rfl ?_ ?_ ?_) ?_; rotate_left 2; (· (conv => (lhs; whnf))); (· rfl); (· (conv => (lhs; whnf; arg 1; whnf))))) | (apply runk0 rfl rfl (opok_bin rfl ?_ ?_ ?_) ?_; rotate_left 3; (· (conv => (lhs; whnf))); (· (conv => (lhs; whnf))); (· (intro w; go_simp; first | done | rfl))) | (first | (apply runk0 rfl rfl (opok_lenO rfl ?_ ?_ ?_) ?_; rotate_left 5; (· (conv => (lhs; whnf))); (· (conv => (lhs; whnf; arg 1; whnf))); (· first | exact length_ints _ _ | rfl)) | (apply runk0 rfl rfl (opok_len_own rfl ?_ ?_) ?_; rotate_left 4; (· (conv => (lhs; whnf))); (· (conv => (lhs; whnf; arg 1; whnf)))) | (apply runk0 rfl rfl (opok_len rfl ?_ ?_ ?_) ?_; rotate_left 3; (· (conv => (lhs; whnf))); (· (conv => (lhs; whnf; arg 1; whnf))); (· first | exact length_ints _ _ | rfl))) | (apply runk_box rfl rfl rfl ?_ ?_ ?_ ?_; rotate_left 2; (· (conv => (lhs; whnf))); (· rfl); (· (conv => (lhs; whnf)))) | refine runk_end (by kernel_rfl) ?_))
  rename_i ka kb
  refine awp_less (st' := ⟨[(1, .ptr 1 ka 0), (2, .val (.bool false)), (3, .val (.int .i64 ((cs.length : Int) + (ls.length : Int) + (us.length : Int)))), (20, .ro (p.map segA)), (21, .val (.int .i64 (p.length : Int))), (22, .val (.int .i64 0))], [(1, some (ka, AObj.box 30 [.val (.int .i64 o), .ro (p.map segA), .val (.bool v6), .val (.int .u64 hi), .val (.int .u64 lo), .val (.int .i64 med), .val (.int .i64 pref), .val (.int .i64 otc), .ro (cs.map comA), .ro (ls.map lrgA), .ro (us.map unkA)]))]⟩) ?_ ?_
  · (refine leB_of ?_ ?_; (· (repeat (first | exact EnvIs.nil | (refine EnvIs.cons ?_ ?_; (· first | rfl | ((conv => (lhs; whnf)); first | (simp [hmp]; done) | (simp [hmp]; omega))))))); (· (repeat (first | exact ObjsAre.nil | (refine ObjsAre.cons ?_ ?_; (· first | rfl | ((conv => (lhs; whnf)); first | (simp [hmp]; done) | (simp [hmp]; omega))))))))
  refine awp_loop (fun n st => ∃ (i : Nat), i + n = p.length ∧ st.leB ⟨[(1, .ptr 1 ka 0), (2, .val (.bool false)), (3, .val (.int .i64 ((cs.length : Int) + (ls.length : Int) + (us.length : Int) + smP p i))), (20, .ro (p.map segA)), (21, .val (.int .i64 (p.length : Int))), (22, .val (.int .i64 (i : Int)))], [(1, some (ka, AObj.box 30 [.val (.int .i64 o), .ro (p.map segA), .val (.bool v6), .val (.int .u64 hi), .val (.int .u64 lo), .val (.int .i64 med), .val (.int .i64 pref), .val (.int .i64 otc), .ro (cs.map comA), .ro (ls.map lrgA), .ro (us.map unkA)]))]⟩) p.length ⟨0, by omega, ?_⟩ ?_
  · (refine leB_of ?_ ?_; (· (repeat (first | exact EnvIs.nil | (refine EnvIs.cons ?_ ?_; (· first | rfl | ((conv => (lhs; whnf)); first | (simp [smP]; done) | (simp [smP]; omega))))))); (· (repeat (first | exact ObjsAre.nil | (refine ObjsAre.cons ?_ ?_; (· first | rfl | ((conv => (lhs; whnf)); first | (simp [smP]; done) | (simp [smP]; omega))))))))
  · rintro n st ⟨i, hin, hle⟩
    refine awp_less hle ?_
    clear hle st
    (repeat (first | refine awp_reg_seq rfl fun k => ?_ | refine awp_seq ?_ | (apply runk0 rfl rfl (opok_bin rfl ?_ ?_ ?_) ?_; rotate_left 3; (· (conv => (lhs; whnf))); (· (conv => (lhs; whnf))); (· (intro w; go_simp; first | done | rfl))) | refine runk_end (by kernel_rfl) ?_))
    refine awp_if rfl (fun hc => ?_) (fun hc => ?_)
    · have hlt : i < p.length := by simpa using hc
      clear hc
      have wi : IntKind.i64.wrap ((i : Int) + 1) = ((i + 1 : Nat) : Int) := by rw [IntKind.wrap_i64]; omega
      have hxi := atp i hlt
      have e := pb i
      have e0 := hp i
      have hs1 : smP p (i + 1) = smP p i + (1 + ((p.getD i (false, [])).2.length : Int)) := rfl
      have e1 := pb (i + 1)
      generalize p.getD i (false, []) = x at *
      have hxA : segA x = .agg [.val (.bool x.1), .ro (ints .i64 x.2)] := rfl
      rw [hxA] at hxi
      clear hxA
      have w2 : IntKind.i64.wrap (1 + (x.2.length : Int)) = 1 + (x.2.length : Int) := by rw [IntKind.wrap_i64]; omega
      have w3 : IntKind.i64.wrap ((cs.length : Int) + (ls.length : Int) + (us.length : Int) + smP p i + (1 + (x.2.length : Int))) = (cs.length : Int) + (ls.length : Int) + (us.length : Int) + smP p (i + 1) := by rw [IntKind.wrap_i64]; omega
      (repeat (first | refine awp_reg_seq rfl fun k => ?_ | refine awp_seq ?_ | refine awp_skip (?_ : Awp _ _ _ _ _ _) | refine awp_block ?_))
      (apply runk0 rfl rfl (opok_index_ro rfl ?_ ?_ ?_ ?_ ?_ ?_ ?_) ?_; rotate_left 6; (· (conv => (lhs; whnf))); (· (conv => (lhs; whnf))); (· (conv => (lhs; whnf; arg 1; whnf))); (· (unfold sizeIs; conv => (lhs; whnf; arg 1; whnf))); (· simp); (· first | omega | (simp; done) | (simp; omega)); (· simp only [Int.toNat_natCast]; exact hxi))
      (repeat (first | refine awp_reg rfl fun k => ?_ | refine awp_isF rfl (by assumption) ?_ | (apply runk0 rfl rfl (opok_move rfl ?_) ?_; rotate_left 1; (· (conv => (lhs; whnf)))) | (apply runk0 rfl rfl (opok_assign rfl ?_) ?_; rotate_left 1; (· (conv => (lhs; whnf)))) | (apply runk_fa rfl rfl rfl ?_ rfl rfl ?_ ?_ ?_ ?_; rotate_left 5; (· (conv => (lhs; whnf))); (· (unfold sizeIs; conv => (lhs; whnf; arg 1; whnf))); (· rfl); (· (conv => (lhs; whnf)))) | (first | (apply runk0 rfl rfl (opok_load rfl ?_ ?_ ?_ ?_) ?_; rotate_left 5; (· (conv => (lhs; whnf))); (· (conv => (lhs; whnf; arg 1; whnf; arg 2; whnf))); (· rfl); (· (conv => (lhs; whnf; arg 1; whnf)))) | (apply runk0 rfl rfl (opok_loadR rfl ?_ ?_ ?_) ?_; rotate_left 2; (· (conv => (lhs; whnf))); (· rfl); (· (conv => (lhs; whnf; arg 1; whnf))))) | (apply runk0 rfl rfl (opok_bin rfl ?_ ?_ ?_) ?_; rotate_left 3; (· (conv => (lhs; whnf))); (· (conv => (lhs; whnf))); (· (intro w; go_simp; first | done | rfl))) | (first | (apply runk0 rfl rfl (opok_lenO rfl ?_ ?_ ?_) ?_; rotate_left 5; (· (conv => (lhs; whnf))); (· (conv => (lhs; whnf; arg 1; whnf))); (· first | exact length_ints _ _ | rfl)) | (apply runk0 rfl rfl (opok_len_own rfl ?_ ?_) ?_; rotate_left 4; (· (conv => (lhs; whnf))); (· (conv => (lhs; whnf; arg 1; whnf)))) | (apply runk0 rfl rfl (opok_len rfl ?_ ?_ ?_) ?_; rotate_left 3; (· (conv => (lhs; whnf))); (· (conv => (lhs; whnf; arg 1; whnf))); (· first | exact length_ints _ _ | rfl))) | (apply runk_alloc rfl rfl rfl ?_ ?_ ?_; rotate_left 2; (· (conv => (lhs; whnf; arg 1; whnf))); (· (conv => (lhs; whnf)))) | (apply runk_store rfl rfl rfl ?_ ?_ ?_ ?_ ?_ ?_ ?_ ?_ ?_ ?_ ?_; rotate_left 9; (· (conv => (lhs; whnf))); (· (conv => (lhs; whnf))); (· (conv => (lhs; whnf; arg 1; whnf; arg 2; whnf))); (· rfl); (· (conv => (lhs; whnf))); (· rfl); (· (unfold sizeIs; conv => (lhs; whnf; arg 1; whnf))); (· rfl); (· rfl); (· (conv => (lhs; repeat (whnf; arg 2))))) | refine runk_end (by kernel_rfl) ?_ | (apply runk0 rfl rfl (opok_loadRA2 rfl ?_ ?_ ?_ ?_) ?_; rotate_left 2; (· (conv => (lhs; whnf))); (· rfl); (· (unfold sizeIs; conv => (lhs; whnf; arg 1; whnf))); (· rfl))))
      refine ⟨n - 1, by omega, i + 1, by omega, ?_⟩
      (refine leB_of ?_ ?_; (· (repeat (first | exact EnvIs.nil | (refine EnvIs.cons ?_ ?_; (· first | rfl | ((conv => (lhs; whnf)); first | (simp [ints]; done) | (simp [ints]; omega))))))); (· (repeat (first | exact ObjsAre.nil | (refine ObjsAre.cons ?_ ?_; (· first | rfl | ((conv => (lhs; whnf)); first | (simp [ints]; done) | (simp [ints]; omega))))))))
    · have hie : i = p.length := by simp at hc; omega
      subst hie
      clear hc
      refine awp_exit (?_ : Awp _ _ _ _ _ _)
      (repeat (first | refine awp_reg_seq rfl fun k => ?_ | refine awp_seq ?_ | refine awp_isF rfl (by assumption) ?_ | refine awp_block ?_ | (apply runk0 rfl rfl (opok_move rfl ?_) ?_; rotate_left 1; (· (conv => (lhs; whnf)))) | (apply runk_fa rfl rfl rfl ?_ rfl rfl ?_ ?_ ?_ ?_; rotate_left 5; (· (conv => (lhs; whnf))); (· (unfold sizeIs; conv => (lhs; whnf; arg 1; whnf))); (· rfl); (· (conv => (lhs; whnf)))) | (first | (apply runk0 rfl rfl (opok_load rfl ?_ ?_ ?_ ?_) ?_; rotate_left 5; (· (conv => (lhs; whnf))); (· (conv => (lhs; whnf; arg 1; whnf; arg 2; whnf))); (· rfl); (· (conv => (lhs; whnf; arg 1; whnf)))) | (apply runk0 rfl rfl (opok_loadR rfl ?_ ?_ ?_) ?_; rotate_left 2; (· (conv => (lhs; whnf))); (· rfl); (· (conv => (lhs; whnf; arg 1; whnf))))) | (first | (apply runk0 rfl rfl (opok_lenO rfl ?_ ?_ ?_) ?_; rotate_left 5; (· (conv => (lhs; whnf))); (· (conv => (lhs; whnf; arg 1; whnf))); (· first | exact length_ints _ _ | rfl)) | (apply runk0 rfl rfl (opok_len_own rfl ?_ ?_) ?_; rotate_left 4; (· (conv => (lhs; whnf))); (· (conv => (lhs; whnf; arg 1; whnf)))) | (apply runk0 rfl rfl (opok_len rfl ?_ ?_ ?_) ?_; rotate_left 3; (· (conv => (lhs; whnf))); (· (conv => (lhs; whnf; arg 1; whnf))); (· first | exact length_ints _ _ | rfl))) | refine runk_end (by kernel_rfl) ?_))
      refine awp_less (st' := ⟨[(1, .ptr 1 ka 0), (2, .val (.bool false)), (3, .val (.int .i64 ((cs.length : Int) + (ls.length : Int) + (us.length : Int) + smP p p.length))), (34, .ro (us.map unkA)), (35, .val (.int .i64 (us.length : Int))), (36, .val (.int .i64 0))], [(1, some (ka, AObj.box 30 [.val (.int .i64 o), .ro (p.map segA), .val (.bool v6), .val (.int .u64 hi), .val (.int .u64 lo), .val (.int .i64 med), .val (.int .i64 pref), .val (.int .i64 otc), .ro (cs.map comA), .ro (ls.map lrgA), .ro (us.map unkA)]))]⟩) ?_ ?_
      · (refine leB_of ?_ ?_; (· (repeat (first | exact EnvIs.nil | (refine EnvIs.cons ?_ ?_; (· first | rfl | ((conv => (lhs; whnf)); first | (simp [hmu]; done) | (simp [hmu]; omega))))))); (· (repeat (first | exact ObjsAre.nil | (refine ObjsAre.cons ?_ ?_; (· first | rfl | ((conv => (lhs; whnf)); first | (simp [hmu]; done) | (simp [hmu]; omega))))))))
      have eP := pb p.length
      have eQ := hp p.length
      generalize smP p p.length = M at *
      refine awp_loop (fun n st => ∃ (i : Nat), i + n = us.length ∧ st.leB ⟨[(1, .ptr 1 ka 0), (2, .val (.bool false)), (3, .val (.int .i64 ((cs.length : Int) + (ls.length : Int) + (us.length : Int) + M + smU us i))), (34, .ro (us.map unkA)), (35, .val (.int .i64 (us.length : Int))), (36, .val (.int .i64 (i : Int)))], [(1, some (ka, AObj.box 30 [.val (.int .i64 o), .ro (p.map segA), .val (.bool v6), .val (.int .u64 hi), .val (.int .u64 lo), .val (.int .i64 med), .val (.int .i64 pref), .val (.int .i64 otc), .ro (cs.map comA), .ro (ls.map lrgA), .ro (us.map unkA)]))]⟩) us.length ⟨0, by omega, ?_⟩ ?_
      · (refine leB_of ?_ ?_; (· (repeat (first | exact EnvIs.nil | (refine EnvIs.cons ?_ ?_; (· first | rfl | ((conv => (lhs; whnf)); first | (simp [smU]; done) | (simp [smU]; omega))))))); (· (repeat (first | exact ObjsAre.nil | (refine ObjsAre.cons ?_ ?_; (· first | rfl | ((conv => (lhs; whnf)); first | (simp [smU]; done) | (simp [smU]; omega))))))))
      · rintro n st ⟨i, hin, hle⟩
        refine awp_less hle ?_
        clear hle st
        (repeat (first | refine awp_reg_seq rfl fun k => ?_ | refine awp_seq ?_ | (apply runk0 rfl rfl (opok_bin rfl ?_ ?_ ?_) ?_; rotate_left 3; (· (conv => (lhs; whnf))); (· (conv => (lhs; whnf))); (· (intro w; go_simp; first | done | rfl))) | refine runk_end (by kernel_rfl) ?_))
        refine awp_if rfl (fun hc => ?_) (fun hc => ?_)
        · have hlt : i < us.length := by simpa using hc
          clear hc
          have wi : IntKind.i64.wrap ((i : Int) + 1) = ((i + 1 : Nat) : Int) := by rw [IntKind.wrap_i64]; omega
          have hxi := atu i hlt
          have e := ub i
          have e0 := hu i
          have hs1 : smU us (i + 1) = smU us i + ((us.getD i (0, 0, [])).2.2.length : Int) := rfl
          have e1 := ub (i + 1)
          generalize us.getD i (0, 0, []) = x at *
          have hxA : unkA x = .agg [.val (.int .i64 x.1), .val (.int .i64 x.2.1), .ro (ints .u8 x.2.2)] := rfl
          rw [hxA] at hxi
          clear hxA
          have w3 : IntKind.i64.wrap ((cs.length : Int) + (ls.length : Int) + (us.length : Int) + M + smU us i + (x.2.2.length : Int)) = (cs.length : Int) + (ls.length : Int) + (us.length : Int) + M + smU us (i + 1) := by rw [IntKind.wrap_i64]; omega
          (repeat (first | refine awp_reg_seq rfl fun k => ?_ | refine awp_seq ?_ | refine awp_skip (?_ : Awp _ _ _ _ _ _) | refine awp_block ?_))
          (apply runk0 rfl rfl (opok_index_ro rfl ?_ ?_ ?_ ?_ ?_ ?_ ?_) ?_; rotate_left 6; (· (conv => (lhs; whnf))); (· (conv => (lhs; whnf))); (· (conv => (lhs; whnf; arg 1; whnf))); (· (unfold sizeIs; conv => (lhs; whnf; arg 1; whnf))); (· simp); (· first | omega | (simp; done) | (simp; omega)); (· simp only [Int.toNat_natCast]; exact hxi))
          (repeat (first | refine awp_reg rfl fun k => ?_ | refine awp_isF rfl (by assumption) ?_ | (apply runk0 rfl rfl (opok_move rfl ?_) ?_; rotate_left 1; (· (conv => (lhs; whnf)))) | (apply runk0 rfl rfl (opok_assign rfl ?_) ?_; rotate_left 1; (· (conv => (lhs; whnf)))) | (apply runk_fa rfl rfl rfl ?_ rfl rfl ?_ ?_ ?_ ?_; rotate_left 5; (· (conv => (lhs; whnf))); (· (unfold sizeIs; conv => (lhs; whnf; arg 1; whnf))); (· rfl); (· (conv => (lhs; whnf)))) | (first | (apply runk0 rfl rfl (opok_load rfl ?_ ?_ ?_ ?_) ?_; rotate_left 5; (· (conv => (lhs; whnf))); (· (conv => (lhs; whnf; arg 1; whnf; arg 2; whnf))); (· rfl); (· (conv => (lhs; whnf; arg 1; whnf)))) | (apply runk0 rfl rfl (opok_loadR rfl ?_ ?_ ?_) ?_; rotate_left 2; (· (conv => (lhs; whnf))); (· rfl); (· (conv => (lhs; whnf; arg 1; whnf))))) | (apply runk0 rfl rfl (opok_bin rfl ?_ ?_ ?_) ?_; rotate_left 3; (· (conv => (lhs; whnf))); (· (conv => (lhs; whnf))); (· (intro w; go_simp; first | done | rfl))) | (first | (apply runk0 rfl rfl (opok_lenO rfl ?_ ?_ ?_) ?_; rotate_left 5; (· (conv => (lhs; whnf))); (· (conv => (lhs; whnf; arg 1; whnf))); (· first | exact length_ints _ _ | rfl)) | (apply runk0 rfl rfl (opok_len_own rfl ?_ ?_) ?_; rotate_left 4; (· (conv => (lhs; whnf))); (· (conv => (lhs; whnf; arg 1; whnf)))) | (apply runk0 rfl rfl (opok_len rfl ?_ ?_ ?_) ?_; rotate_left 3; (· (conv => (lhs; whnf))); (· (conv => (lhs; whnf; arg 1; whnf))); (· first | exact length_ints _ _ | rfl))) | (apply runk_alloc rfl rfl rfl ?_ ?_ ?_; rotate_left 2; (· (conv => (lhs; whnf; arg 1; whnf))); (· (conv => (lhs; whnf)))) | (apply runk_store rfl rfl rfl ?_ ?_ ?_ ?_ ?_ ?_ ?_ ?_ ?_ ?_ ?_; rotate_left 9; (· (conv => (lhs; whnf))); (· (conv => (lhs; whnf))); (· (conv => (lhs; whnf; arg 1; whnf; arg 2; whnf))); (· rfl); (· (conv => (lhs; whnf))); (· rfl); (· (unfold sizeIs; conv => (lhs; whnf; arg 1; whnf))); (· rfl); (· rfl); (· (conv => (lhs; repeat (whnf; arg 2))))) | refine runk_end (by kernel_rfl) ?_ | (apply runk0 rfl rfl (opok_loadRA2 rfl ?_ ?_ ?_ ?_) ?_; rotate_left 2; (· (conv => (lhs; whnf))); (· rfl); (· (unfold sizeIs; conv => (lhs; whnf; arg 1; whnf))); (· rfl))))
          refine ⟨n - 1, by omega, i + 1, by omega, ?_⟩
          (refine leB_of ?_ ?_; (· (repeat (first | exact EnvIs.nil | (refine EnvIs.cons ?_ ?_; (· first | rfl | ((conv => (lhs; whnf)); first | (simp [ints]; done) | (simp [ints]; omega))))))); (· (repeat (first | exact ObjsAre.nil | (refine ObjsAre.cons ?_ ?_; (· first | rfl | ((conv => (lhs; whnf)); first | (simp [ints]; done) | (simp [ints]; omega))))))))
        · have hie : i = us.length := by simp at hc; omega
          subst hie
          clear hc
          refine awp_exit (?_ : Awp _ _ _ _ _ _)
          (repeat (first | refine awp_reg_seq rfl fun k => ?_ | (refine awp_ret ?_; (apply ends_pure ?_ ?_ ?_ ?_ ?_ (.inl rfl); rotate_left 1; (· first | exact res_one rfl rfl | exact res_two rfl rfl rfl | exact res_none rfl | exact res_three rfl rfl rfl rfl | exact res_cell rfl rfl rfl rfl rfl | exact res_cell2 rfl rfl rfl rfl rfl rfl | exact res3 rfl (rv_cell rfl rfl rfl rfl) (rv_tmp rfl) (rv_tmp rfl) | exact res3 rfl (rv_cell rfl rfl rfl rfl) (rv_cell rfl rfl rfl rfl) (rv_cell rfl rfl rfl rfl)); (· first | rfl | ((conv => (lhs; whnf)); first | rfl | (simp; done))); (· first | rfl | (simp; done) | (simp [AVal.pure, AVal.pures, AObj.pure]; done)); (· rfl); (· rfl))) | (apply runk0 rfl rfl (opok_move rfl ?_) ?_; rotate_left 1; (· (conv => (lhs; whnf)))) | (apply runk0 rfl rfl (opok_assign rfl ?_) ?_; rotate_left 1; (· (conv => (lhs; whnf)))) | (apply runk0 rfl rfl (opok_bin rfl ?_ ?_ ?_) ?_; rotate_left 3; (· (conv => (lhs; whnf))); (· (conv => (lhs; whnf))); (· (intro w; go_simp; first | done | rfl))) | refine runk_end (by kernel_rfl) ?_))
end Go.Proofs.Ytddafnipfkeejaa
