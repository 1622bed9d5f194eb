/-
  Layer 27: Best of the program, by states.
-/
import Derived.Test.YtddafnipfkeejaaRt27l
namespace Go.Proofs.Ytddafnipfkeejaa
open Go.RowKit
def zRK : RK := ⟨false, 0, 0, 0, 0, ⟨0, [], false, 0, 0, 0, 0, 0, [], [], []⟩⟩
def bst (K : Nat → KY) : Nat → Nat
  | 0 => 0
  | j + 1 => bif decide ((ordZ (K j) (K (bst K j))).1 < 0) then j else bst K j
theorem bst_lt (K : Nat → KY) : ∀ j, 0 < j → bst K j < j
  | 0, h => absurd h (Nat.lt_irrefl 0)
  | j + 1, _ => by
    unfold bst
    cases decide ((ordZ (K j) (K (bst K j))).1 < 0) with
    | true => exact Nat.lt_succ_self j
    | false =>
      show bst K j < j + 1
      by_cases h0 : j = 0
      · subst h0
        exact Nat.zero_lt_one
      · exact Nat.lt_succ_of_lt (bst_lt K j (by omega))
theorem bst_le (K : Nat → KY) (j : Nat) : bst K j ≤ j := by
  by_cases h : j = 0
  · subst h; exact Nat.le_refl _
  · exact Nat.le_of_lt (bst_lt K j (by omega))
theorem bst_min (K : Nat → KY) : ∀ j, ∀ i, i < j → (ordZ (K (bst K j)) (K i)).1 ≤ 0
  | 0, i, h => absurd h (Nat.not_lt_zero i)
  | j + 1, i, h => by
    unfold bst
    have ih := bst_min K j
    cases d : decide ((ordZ (K j) (K (bst K j))).1 < 0) with
    | true =>
      simp only [cond_true]
      have d' : (ordZ (K j) (K (bst K j))).1 < 0 := by simpa using d
      by_cases e : i = j
      · subst e
        rw [ordZ_self]
        exact Int.le_refl _
      · exact (ordZ_trans _ _ _ (by omega) (ih i (by omega))).1
    | false =>
      simp only [cond_false]
      have d' : ¬ (ordZ (K j) (K (bst K j))).1 < 0 := by simpa using d
      by_cases e : i = j
      · subst e
        rw [ordZ_swap (K i) (K (bst K i))]
        dsimp only
        omega
      · exact ih i (by omega)
def keyF (w : WK) (M : List RK) (i : Nat) : KY := keyZ w (M.getD i zRK)
theorem rt_get (M : List RK) {i : Nat} (h : i < M.length) : M.getD i zRK ∈ M ∧ (M.map rtA)[i]? = some (.agg (M.getD i zRK).A) := by
  have e : M.getD i zRK = M[i] := by simp [List.getD_eq_getElem?_getD, h]
  rw [e]
  refine ⟨List.getElem_mem h, ?_⟩
  rw [List.getElem?_map, List.getElem?_eq_getElem h]
  rfl
set_option maxHeartbeats 32000000 in
set_option maxRecDepth 100000 in
theorem best_spec (w : WK) (M : List RK) (hw : w.pf.length ≤ 1000000) (hM : ∀ r ∈ M, r.a.p.length ≤ 1000000) (hl : M.length ≤ 1000000) : Spec Try.prog 26 [.agg w.A, .ro (M.map rtA)] [] (.tuple [.val (.int .i64 (bst (keyF w M) M.length : Int)), .val (.bool (decide (0 < M.length)))]) [] := by
  have cp : ∀ i j, i < M.length → j < M.length → ∃ st : Int, Spec Try.prog 23 [.agg w.A, .agg (M.getD i zRK).A, .agg (M.getD j zRK).A] [] (.tuple [.val (.int .i64 (ordZ (keyF w M i) (keyF w M j)).1), .val (.int .i64 st)]) [] := fun i j hi hj =>
    ⟨_, compare_spec w _ _ hw (hM _ (rt_get M hi).1) (hM _ (rt_get M hj).1)⟩
  generalize hK : keyF w M = K at *
  clear hK hM hw
  obtain ⟨asn, n4, n6, hls, hops, deny, pf⟩ := w
  unfold WK.A at *
  dsimp only at cp ⊢
  refine spec_of_awp Try.func26 rfl (Nat.le_of_ble_eq_true rfl) fun ini => ?_
  simp only [Try.ntmps26]
  (repeat (first | refine awp_reg_seq rfl fun k => ?_ | refine awp_seq ?_ | refine awp_block ?_ | (apply runk0 rfl rfl (opok_box_ro rfl ?_ ?_ ?_) ?_; rotate_left 2; (· (conv => (lhs; whnf))); (· rfl); (· (conv => (lhs; whnf)))) | (apply runk0 rfl rfl (opok_move rfl ?_) ?_; rotate_left 1; (· (conv => (lhs; whnf)))) | (apply runk0 rfl rfl (opok_assign rfl ?_) ?_; rotate_left 1; (· (conv => (lhs; whnf)))) | (first | (apply runk0 rfl rfl (opok_lenO rfl ?_ ?_ ?_) ?_; rotate_left 5; (· (conv => (lhs; whnf))); (· (conv => (lhs; whnf; arg 1; whnf))); (· first | exact length_ints _ _ | rfl)) | (apply runk0 rfl rfl (opok_len_own rfl ?_ ?_) ?_; rotate_left 4; (· (conv => (lhs; whnf))); (· (conv => (lhs; whnf; arg 1; whnf)))) | (apply runk0 rfl rfl (opok_len rfl ?_ ?_ ?_) ?_; rotate_left 3; (· (conv => (lhs; whnf))); (· (conv => (lhs; whnf; arg 1; whnf))); (· first | exact length_ints _ _ | rfl))) | refine runk_end (by kernel_rfl) ?_))
  refine awp_loop (fun n st => ∃ j : Nat, j + n = M.length ∧ st.leB ⟨[(1, .ro (M.map rtA)), (2, .rref [.val (.int .i64 asn), .val (.bool n4), .val (.bool n6), .val (.bool hls), .val (.int .i64 hops), .ro (ints .i64 deny), .ro (pf.map prfA)]), (6, .val (.int .i64 (bst K j : Int))), (10, .ro (M.map rtA)), (11, .val (.int .i64 (M.length : Int))), (12, .val (.int .i64 (j : Int)))], []⟩) M.length ⟨0, by omega, ?_⟩ ?_
  · (refine leB_of ?_ ?_; (· (repeat (first | exact EnvIs.nil | (refine EnvIs.cons ?_ ?_; (· first | rfl | ((conv => (lhs; whnf)); first | (simp [ints, bst]; done) | (simp [ints, bst]; omega))))))); (· (repeat (first | exact ObjsAre.nil | (refine ObjsAre.cons ?_ ?_; (· first | rfl | ((conv => (lhs; whnf)); first | (simp [ints, bst]; done) | (simp [ints, bst]; omega))))))))
  · rintro n st ⟨j, hj, hle⟩
    refine awp_less hle ?_
    clear hle st
    (repeat (first | refine awp_reg_seq rfl fun k => ?_ | refine awp_seq ?_ | (apply runk0 rfl rfl (opok_bin rfl ?_ ?_ ?_) ?_; rotate_left 3; (· (conv => (lhs; whnf))); (· (conv => (lhs; whnf))); (· (intro w; go_simp; first | done | rfl))) | refine runk_end (by kernel_rfl) ?_))
    refine awp_if rfl (fun hc => ?_) (fun hc => ?_)
    · have hlt : j < M.length := by simpa using hc
      clear hc
      have hwj : IntKind.i64.wrap ((j : Int) + 1) = ((j + 1 : Nat) : Int) := by rw [IntKind.wrap_i64]; omega
      have hb : bst K j < M.length := Nat.lt_of_le_of_lt (bst_le K j) hlt
      have h1 := (rt_get M hlt).2
      have h2 := (rt_get M hb).2
      obtain ⟨st, c1⟩ := cp j (bst K j) hlt hb
      have eB : bst K (j + 1) = bif decide ((ordZ (K j) (K (bst K j))).1 < 0) then j else bst K j := rfl
      generalize (ordZ (K j) (K (bst K j))).1 = x1 at *
      generalize hb1 : bst K (j + 1) = b1 at *
      generalize bst K j = b at *
      generalize M.getD j zRK = r at *
      generalize M.getD b zRK = s at *
      obtain ⟨rv6, rhi, rlo, rlen, rfr, ro, rpp, ra6, rah, ral, rmed, rpref, rotc, rcs, rls, rus⟩ := r
      obtain ⟨sv6, shi, slo, slen, sfr, so, spp, sa6, sah, sal, smed, spref, sotc, scs, sls, sus⟩ := s
      unfold RK.A AK.A at h1 h2 c1
      dsimp only [List.cons_append, List.nil_append] at h1 h2 c1
      cases d : decide (x1 < 0) with
      | true =>
        rw [d] at eB
        simp only [cond_true] at eB
        (repeat (first | refine awp_reg_seq rfl fun k => ?_ | refine awp_seq ?_ | refine awp_skip (?_ : Awp _ _ _ _ _ _) | refine awp_block ?_ | (apply runk0 rfl rfl (opok_move rfl ?_) ?_; rotate_left 1; (· (conv => (lhs; whnf)))) | (apply runk0 rfl rfl (opok_assign rfl ?_) ?_; rotate_left 1; (· (conv => (lhs; whnf)))) | refine runk_end (by kernel_rfl) ?_ | (apply runk0 rfl rfl (opok_loadRA2 rfl ?_ ?_ ?_ ?_) ?_; rotate_left 2; (· (conv => (lhs; whnf))); (· rfl); (· (unfold sizeIs; conv => (lhs; whnf; arg 1; whnf))); (· rfl))))
        (apply runk0 rfl rfl (opok_index_ro rfl ?_ ?_ ?_ ?_ ?_ ?_ ?_) ?_; rotate_left 6; (· (conv => (lhs; whnf))); (· (conv => (lhs; whnf))); (· (conv => (lhs; whnf; arg 1; whnf))); (· (unfold sizeIs; conv => (lhs; whnf; arg 1; whnf))); (· simp); (· first | omega | (simp; done) | (simp; omega)); (· simp only [Int.toNat_natCast]; exact h1))
        (repeat (first | (apply runk0 rfl rfl (opok_move rfl ?_) ?_; rotate_left 1; (· (conv => (lhs; whnf)))) | (apply runk0 rfl rfl (opok_loadRA2 rfl ?_ ?_ ?_ ?_) ?_; rotate_left 2; (· (conv => (lhs; whnf))); (· rfl); (· (unfold sizeIs; conv => (lhs; whnf; arg 1; whnf))); (· rfl))))
        (apply runk0 rfl rfl (opok_index_ro rfl ?_ ?_ ?_ ?_ ?_ ?_ ?_) ?_; rotate_left 6; (· (conv => (lhs; whnf))); (· (conv => (lhs; whnf))); (· (conv => (lhs; whnf; arg 1; whnf))); (· (unfold sizeIs; conv => (lhs; whnf; arg 1; whnf))); (· simp); (· first | omega | (simp; done) | (simp; omega)); (· simp only [Int.toNat_natCast]; exact h2))
        (repeat (first | refine awp_reg_seq rfl fun k => ?_ | refine awp_reg rfl fun k => ?_ | refine awp_true rfl ?_ | refine awp_exit (?_ : Awp _ _ _ _ _ _) | (apply runk_pure rfl rfl rfl ?_ ?_ ?_ ?_ ?_ ?_ ?_ ?_; rotate_left 6; (· (conv => (lhs; whnf))); (· exact Try.func23); (· rfl); (· rfl); (· exact (c1)); (· (repeat (first | exact Rens.nil | (refine Rens.cons ?_ ?_; (· first | exact Ren.own _ _ _ _ _ _ rfl List.mem_cons_self | exact Ren.own _ _ _ _ _ _ rfl (List.mem_cons_of_mem _ List.mem_cons_self) | (refine (Ren.own _ _ _ _ _ _ ?_ List.mem_cons_self); first | rfl | (simp; done)) | (refine (Ren.own _ _ _ _ _ _ ?_ (List.mem_cons_of_mem _ List.mem_cons_self)); first | rfl | (simp; done)) | exact Ren.ptr _ _ _ _ _ List.mem_cons_self | (refine Ren.pureR ?_ rfl; (first | rfl | (simp; done) | (simp [AVal.pure, AVal.pures, AObj.pure]; done)))))))); (· first | rfl | (simp; done) | simp [AVal.pure, AVal.pures, AObj.pure])) | (apply runk0 rfl rfl (opok_move rfl ?_) ?_; rotate_left 1; (· (conv => (lhs; whnf)))) | (apply runk0 rfl rfl (opok_assign rfl ?_) ?_; rotate_left 1; (· (conv => (lhs; whnf)))) | (apply runk0 rfl rfl (opok_bin rfl ?_ ?_ ?_) ?_; rotate_left 3; (· (conv => (lhs; whnf))); (· (conv => (lhs; whnf))); (· (intro w; go_simp; first | done | rfl))) | (apply runk0 rfl rfl (opok_extract rfl ?_ ?_) ?_; rotate_left 2; (· (conv => (lhs; whnf))); (· (conv => (lhs; whnf; arg 1; whnf)))) | refine runk_end (by kernel_rfl) ?_ | (apply runk0 rfl rfl (opok_loadRA2 rfl ?_ ?_ ?_ ?_) ?_; rotate_left 2; (· (conv => (lhs; whnf))); (· rfl); (· (unfold sizeIs; conv => (lhs; whnf; arg 1; whnf))); (· rfl))))
        refine ⟨n - 1, by omega, j + 1, by omega, ?_⟩
        rw [hb1, eB]
        (refine leB_of ?_ ?_; (· (repeat (first | exact EnvIs.nil | (refine EnvIs.cons ?_ ?_; (· first | rfl | ((conv => (lhs; whnf)); first | (simp [ints]; done) | (simp [ints]; omega))))))); (· (repeat (first | exact ObjsAre.nil | (refine ObjsAre.cons ?_ ?_; (· first | rfl | ((conv => (lhs; whnf)); first | (simp [ints]; done) | (simp [ints]; omega))))))))
      | false =>
        rw [d] at eB
        simp only [cond_false] at eB
        (repeat (first | refine awp_reg_seq rfl fun k => ?_ | refine awp_seq ?_ | refine awp_skip (?_ : Awp _ _ _ _ _ _) | refine awp_block ?_ | (apply runk0 rfl rfl (opok_move rfl ?_) ?_; rotate_left 1; (· (conv => (lhs; whnf)))) | (apply runk0 rfl rfl (opok_assign rfl ?_) ?_; rotate_left 1; (· (conv => (lhs; whnf)))) | refine runk_end (by kernel_rfl) ?_ | (apply runk0 rfl rfl (opok_loadRA2 rfl ?_ ?_ ?_ ?_) ?_; rotate_left 2; (· (conv => (lhs; whnf))); (· rfl); (· (unfold sizeIs; conv => (lhs; whnf; arg 1; whnf))); (· rfl))))
        (apply runk0 rfl rfl (opok_index_ro rfl ?_ ?_ ?_ ?_ ?_ ?_ ?_) ?_; rotate_left 6; (· (conv => (lhs; whnf))); (· (conv => (lhs; whnf))); (· (conv => (lhs; whnf; arg 1; whnf))); (· (unfold sizeIs; conv => (lhs; whnf; arg 1; whnf))); (· simp); (· first | omega | (simp; done) | (simp; omega)); (· simp only [Int.toNat_natCast]; exact h1))
        (repeat (first | (apply runk0 rfl rfl (opok_move rfl ?_) ?_; rotate_left 1; (· (conv => (lhs; whnf)))) | (apply runk0 rfl rfl (opok_loadRA2 rfl ?_ ?_ ?_ ?_) ?_; rotate_left 2; (· (conv => (lhs; whnf))); (· rfl); (· (unfold sizeIs; conv => (lhs; whnf; arg 1; whnf))); (· rfl))))
        (apply runk0 rfl rfl (opok_index_ro rfl ?_ ?_ ?_ ?_ ?_ ?_ ?_) ?_; rotate_left 6; (· (conv => (lhs; whnf))); (· (conv => (lhs; whnf))); (· (conv => (lhs; whnf; arg 1; whnf))); (· (unfold sizeIs; conv => (lhs; whnf; arg 1; whnf))); (· simp); (· first | omega | (simp; done) | (simp; omega)); (· simp only [Int.toNat_natCast]; exact h2))
        (repeat (first | refine awp_reg_seq rfl fun k => ?_ | refine awp_reg rfl fun k => ?_ | refine awp_false rfl ?_ | refine awp_skip (?_ : Awp _ _ _ _ _ _) | refine awp_exit (?_ : Awp _ _ _ _ _ _) | (apply runk_pure rfl rfl rfl ?_ ?_ ?_ ?_ ?_ ?_ ?_ ?_; rotate_left 6; (· (conv => (lhs; whnf))); (· exact Try.func23); (· rfl); (· rfl); (· exact (c1)); (· (repeat (first | exact Rens.nil | (refine Rens.cons ?_ ?_; (· first | exact Ren.own _ _ _ _ _ _ rfl List.mem_cons_self | exact Ren.own _ _ _ _ _ _ rfl (List.mem_cons_of_mem _ List.mem_cons_self) | (refine (Ren.own _ _ _ _ _ _ ?_ List.mem_cons_self); first | rfl | (simp; done)) | (refine (Ren.own _ _ _ _ _ _ ?_ (List.mem_cons_of_mem _ List.mem_cons_self)); first | rfl | (simp; done)) | exact Ren.ptr _ _ _ _ _ List.mem_cons_self | (refine Ren.pureR ?_ rfl; (first | rfl | (simp; done) | (simp [AVal.pure, AVal.pures, AObj.pure]; done)))))))); (· first | rfl | (simp; done) | simp [AVal.pure, AVal.pures, AObj.pure])) | (apply runk0 rfl rfl (opok_move rfl ?_) ?_; rotate_left 1; (· (conv => (lhs; whnf)))) | (apply runk0 rfl rfl (opok_assign rfl ?_) ?_; rotate_left 1; (· (conv => (lhs; whnf)))) | (apply runk0 rfl rfl (opok_bin rfl ?_ ?_ ?_) ?_; rotate_left 3; (· (conv => (lhs; whnf))); (· (conv => (lhs; whnf))); (· (intro w; go_simp; first | done | rfl))) | (apply runk0 rfl rfl (opok_extract rfl ?_ ?_) ?_; rotate_left 2; (· (conv => (lhs; whnf))); (· (conv => (lhs; whnf; arg 1; whnf)))) | refine runk_end (by kernel_rfl) ?_ | (apply runk0 rfl rfl (opok_loadRA2 rfl ?_ ?_ ?_ ?_) ?_; rotate_left 2; (· (conv => (lhs; whnf))); (· rfl); (· (unfold sizeIs; conv => (lhs; whnf; arg 1; whnf))); (· rfl))))
        refine ⟨n - 1, by omega, j + 1, by omega, ?_⟩
        rw [hb1, eB]
        (refine leB_of ?_ ?_; (· (repeat (first | exact EnvIs.nil | (refine EnvIs.cons ?_ ?_; (· first | rfl | ((conv => (lhs; whnf)); first | (simp [ints]; done) | (simp [ints]; omega))))))); (· (repeat (first | exact ObjsAre.nil | (refine ObjsAre.cons ?_ ?_; (· first | rfl | ((conv => (lhs; whnf)); first | (simp [ints]; done) | (simp [ints]; omega))))))))
    · have hie : j = M.length := by simp at hc; omega
      subst hie
      clear hc cp
      refine awp_exit (?_ : Awp _ _ _ _ _ _)
      have e0 : decide ((0 : Int) < (M.length : Int)) = decide (0 < M.length) := by congr 1; exact propext ⟨fun h => by omega, fun h => by omega⟩
      (repeat (first | refine awp_reg_seq rfl fun k => ?_ | (refine awp_ret ?_; (apply ends_pure ?_ ?_ ?_ ?_ ?_ (.inl rfl); rotate_left 1; (· first | exact res_one rfl rfl | exact res_two rfl rfl rfl | exact res_none rfl | exact res_three rfl rfl rfl rfl | exact res_cell rfl rfl rfl rfl rfl | exact res_cell2 rfl rfl rfl rfl rfl rfl | exact res3 rfl (rv_cell rfl rfl rfl rfl) (rv_tmp rfl) (rv_tmp rfl) | exact res3 rfl (rv_cell rfl rfl rfl rfl) (rv_cell rfl rfl rfl rfl) (rv_cell rfl rfl rfl rfl)); (· first | rfl | ((conv => (lhs; whnf)); first | rfl | (simp; done))); (· first | rfl | (simp; done) | (simp [AVal.pure, AVal.pures, AObj.pure]; done)); (· rfl); (· rfl))) | (apply runk0 rfl rfl (opok_move rfl ?_) ?_; rotate_left 1; (· (conv => (lhs; whnf)))) | (apply runk0 rfl rfl (opok_assign rfl ?_) ?_; rotate_left 1; (· (conv => (lhs; whnf)))) | (apply runk0 rfl rfl (opok_bin rfl ?_ ?_ ?_) ?_; rotate_left 3; (· (conv => (lhs; whnf))); (· (conv => (lhs; whnf))); (· (intro w; go_simp; first | done | rfl))) | (first | (apply runk0 rfl rfl (opok_lenO rfl ?_ ?_ ?_) ?_; rotate_left 5; (· (conv => (lhs; whnf))); (· (conv => (lhs; whnf; arg 1; whnf))); (· first | exact length_ints _ _ | rfl)) | (apply runk0 rfl rfl (opok_len_own rfl ?_ ?_) ?_; rotate_left 4; (· (conv => (lhs; whnf))); (· (conv => (lhs; whnf; arg 1; whnf)))) | (apply runk0 rfl rfl (opok_len rfl ?_ ?_ ?_) ?_; rotate_left 3; (· (conv => (lhs; whnf))); (· (conv => (lhs; whnf; arg 1; whnf))); (· first | exact length_ints _ _ | rfl))) | refine runk_end (by kernel_rfl) ?_))
/-- The best ones of two lists that hold each other's best are of one member. -/
theorem best_same {w : WK} {M1 M2 : List RK} (h1 : 0 < M1.length) (h2 : 0 < M2.length) (g1 : M1.getD (bst (keyF w M1) M1.length) zRK ∈ M2) (g2 : M2.getD (bst (keyF w M2) M2.length) zRK ∈ M1) : (M1.getD (bst (keyF w M1) M1.length) zRK).from_ = (M2.getD (bst (keyF w M2) M2.length) zRK).from_ := by
  have k : ∀ (M : List RK) (r : RK), r ∈ M → ∃ i, i < M.length ∧ M.getD i zRK = r := fun M r hr => by
    obtain ⟨i, hi, e⟩ := List.mem_iff_getElem.1 hr
    exact ⟨i, hi, by simp [List.getD_eq_getElem?_getD, hi, e]⟩
  obtain ⟨i1, hi1, e1⟩ := k _ _ g1
  obtain ⟨i2, hi2, e2⟩ := k _ _ g2
  have a1 := bst_min (keyF w M1) M1.length i2 hi2
  have a2 := bst_min (keyF w M2) M2.length i1 hi1
  change (ordZ (keyZ w (M1.getD (bst (keyF w M1) M1.length) zRK)) (keyZ w (M1.getD i2 zRK))).1 ≤ 0 at a1
  change (ordZ (keyZ w (M2.getD (bst (keyF w M2) M2.length) zRK)) (keyZ w (M2.getD i1 zRK))).1 ≤ 0 at a2
  rw [e2] at a1
  rw [e1, ordZ_swap] at a2
  dsimp only at a2
  exact ordZ_zero (Int.le_antisymm a1 (by omega))
end Go.Proofs.Ytddafnipfkeejaa
