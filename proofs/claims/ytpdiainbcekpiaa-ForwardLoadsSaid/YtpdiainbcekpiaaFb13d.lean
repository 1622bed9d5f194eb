/-
  Layer 13: Distances, of the program, by states.
-/
import Derived.Test.YtpdiainbcekpiaaFb13c
import Derived.Test.YtpdiainbcekpiaaAbsZ
namespace Go.Proofs.Ytpdiainbcekpiaa
open Go.RowKit
theorem wkL_at {f : FK} {n : Nat} : ∀ k, k < (wkL f n).length → ∃ i : Nat, (wkL f n).getD k 0 = i ∧ i < n ∧ f.wk i = true := fun k hk => by
  have hm : (wkL f n).getD k 0 ∈ wkL f n := by
    rw [List.getD_eq_getElem?_getD, List.getElem?_eq_getElem hk]
    exact List.getElem_mem hk
  generalize (wkL f n).getD k 0 = x at *
  unfold wkL at hm
  obtain ⟨i, hi, rfl⟩ := List.mem_map.1 hm
  obtain ⟨h1, h2⟩ := List.mem_filter.1 hi
  exact ⟨i, rfl, List.mem_range.1 h1, h2⟩
/-- The numbers that Distances answers. -/
def dsts (f : FK) (to : Int) : List Int := distZ f (wkL f f.ls.length) to
theorem dsts_len (f : FK) (to : Int) : (dsts f to).length = 8 := distZ_len _ _ _
set_option maxHeartbeats 16000000 in
set_option maxRecDepth 100000 in
theorem Distances_spec {F : FK} (h : F.ok = true) (to : Int) : Spec Try.prog 23 [.agg F.A, .val (.int .i64 to)] [] (.ro (ints .i64 ((dsts F to).take F.sw.toNat))) [] := by
  have sv := valid_spec F
  rw [h] at sv
  have s1 := working_spec h
  obtain ⟨hs1, hs8, hl24, -, -, -⟩ := FK.ok_facts h
  have hl := wkL_len F F.ls.length
  have s2 := distances_spec h (wkL F F.ls.length) to (fun k hk => by
    obtain ⟨i, e1, e2, -⟩ := wkL_at k hk
    exact ⟨i, e1, e2⟩) (by omega)
  have e8 := eight (distZ_len F (wkL F F.ls.length) to)
  unfold dsts
  generalize distZ F (wkL F F.ls.length) to = D at *
  generalize wkL F F.ls.length = W at *
  clear h hl
  obtain ⟨sw, ls, dn, dd⟩ := F
  unfold FK.A at *
  dsimp only at *
  obtain ⟨n, rfl⟩ : ∃ n : Nat, sw = n := ⟨sw.toNat, by omega⟩
  rw [Int.toNat_natCast]
  obtain ⟨a, b, c, e, f, g, i, j, rfl⟩ := e8
  rw [show ints .i64 [a, b, c, e, f, g, i, j] = [.val (.int .i64 a), .val (.int .i64 b), .val (.int .i64 c), .val (.int .i64 e), .val (.int .i64 f), .val (.int .i64 g), .val (.int .i64 i), .val (.int .i64 j)] from rfl] at s2
  refine spec_of_awp Try.func23 rfl (Nat.le_of_ble_eq_true rfl) fun ini => ?_
  simp only [Try.ntmps23]
  (repeat (first | refine awp_reg_seq rfl fun k => ?_ | refine awp_seq ?_ | refine awp_false rfl ?_ | refine awp_skip (?_ : Awp _ _ _ _ _ _) | (apply runk_pure rfl rfl rfl ?_ ?_ ?_ ?_ ?_ ?_ ?_ ?_; rotate_left 6; (· (conv => (lhs; whnf))); (· exact Try.func28); (· rfl); (· rfl); (· exact (sv)); (· (repeat (first | exact Rens.nil | (refine Rens.cons ?_ ?_; (· first | exact Ren.own _ _ _ _ _ _ rfl List.mem_cons_self | exact Ren.own _ _ _ _ _ _ rfl (List.mem_cons_of_mem _ List.mem_cons_self) | (refine (Ren.own _ _ _ _ _ _ ?_ List.mem_cons_self); first | rfl | (simp; done)) | (refine (Ren.own _ _ _ _ _ _ ?_ (List.mem_cons_of_mem _ List.mem_cons_self)); first | rfl | (simp; done)) | exact Ren.ptr _ _ _ _ _ List.mem_cons_self | (refine Ren.pureR ?_ rfl; (first | rfl | (simp; done) | (simp [AVal.pure, AVal.pures, AObj.pure]; done)))))))); (· first | rfl | (simp; done) | simp [AVal.pure, AVal.pures, AObj.pure])) | (apply runk_pure rfl rfl rfl ?_ ?_ ?_ ?_ ?_ ?_ ?_ ?_; rotate_left 6; (· (conv => (lhs; whnf))); (· exact Try.func30); (· rfl); (· rfl); (· exact (s1)); (· (repeat (first | exact Rens.nil | (refine Rens.cons ?_ ?_; (· first | exact Ren.own _ _ _ _ _ _ rfl List.mem_cons_self | exact Ren.own _ _ _ _ _ _ rfl (List.mem_cons_of_mem _ List.mem_cons_self) | (refine (Ren.own _ _ _ _ _ _ ?_ List.mem_cons_self); first | rfl | (simp; done)) | (refine (Ren.own _ _ _ _ _ _ ?_ (List.mem_cons_of_mem _ List.mem_cons_self)); first | rfl | (simp; done)) | exact Ren.ptr _ _ _ _ _ List.mem_cons_self | (refine Ren.pureR ?_ rfl; (first | rfl | (simp; done) | (simp [AVal.pure, AVal.pures, AObj.pure]; done)))))))); (· first | rfl | (simp; done) | simp [AVal.pure, AVal.pures, AObj.pure])) | (apply runk0 rfl rfl (opok_box_ro rfl ?_ ?_ ?_) ?_; rotate_left 2; (· (conv => (lhs; whnf))); (· rfl); (· (conv => (lhs; whnf)))) | (apply runk0 rfl rfl (opok_move rfl ?_) ?_; rotate_left 1; (· (conv => (lhs; whnf)))) | (apply runk0 rfl rfl (opok_assign rfl ?_) ?_; rotate_left 1; (· (conv => (lhs; whnf)))) | (apply runk0 rfl rfl (opok_un rfl ?_ ?_) ?_; rotate_left 2; (· (conv => (lhs; whnf))); (· (intro w; go_simp; first | done | rfl))) | refine runk_end (by kernel_rfl) ?_ | (apply runk0 rfl rfl (opok_loadRA2 rfl ?_ ?_ ?_ ?_) ?_; rotate_left 2; (· (conv => (lhs; whnf))); (· rfl); (· (unfold sizeIs; conv => (lhs; whnf; arg 1; whnf))); (· rfl))))
  (apply runk_pure rfl rfl rfl ?_ ?_ ?_ ?_ ?_ ?_ ?_ ?_; rotate_left 6; (· (conv => (lhs; whnf))); (· exact Try.func29); (· rfl); (· rfl); (· exact (s2)); (· (repeat (first | exact Rens.nil | (refine Rens.cons ?_ ?_; (· first | exact Ren.own _ _ _ _ _ _ rfl List.mem_cons_self | exact Ren.own _ _ _ _ _ _ rfl (List.mem_cons_of_mem _ List.mem_cons_self) | (refine (Ren.own _ _ _ _ _ _ ?_ List.mem_cons_self); first | rfl | (simp; done)) | (refine (Ren.own _ _ _ _ _ _ ?_ (List.mem_cons_of_mem _ List.mem_cons_self)); first | rfl | (simp; done)) | exact Ren.ptr _ _ _ _ _ List.mem_cons_self | (refine Ren.pureR ?_ rfl; (first | rfl | (simp; done) | (simp [AVal.pure, AVal.pures, AObj.pure]; done)))))))); (· first | rfl | (simp; done) | simp [AVal.pure, AVal.pures, AObj.pure]))
  (repeat (first | (apply runk_alloc rfl rfl rfl ?_ ?_ ?_; rotate_left 2; (· (conv => (lhs; whnf; arg 1; whnf))); (· (conv => (lhs; whnf)))) | (apply runk_store rfl rfl rfl ?_ ?_ ?_ ?_ ?_ ?_ ?_ ?_ ?_ ?_ ?_; rotate_left 9; (· (conv => (lhs; whnf))); (· (conv => (lhs; whnf))); (· (conv => (lhs; whnf; arg 1; whnf; arg 2; whnf))); (· rfl); (· (conv => (lhs; whnf))); (· rfl); (· (unfold sizeIs; conv => (lhs; whnf; arg 1; whnf))); (· rfl); (· rfl); (· (conv => (lhs; repeat (whnf; arg 2))))) | refine runk_end (by kernel_rfl) ?_))
  generalize k = k5
  refine awp_less (st' := ⟨[(2, .rref [.val (.int .i64 (n : Int)), .ro (ls.map lkA), .ro (bls dn), .ro (bls dd)]), (5, .ptr 5 k5 0)], [(5, some (k5, .box 61 [.val (.int .i64 a), .val (.int .i64 b), .val (.int .i64 c), .val (.int .i64 e), .val (.int .i64 f), .val (.int .i64 g), .val (.int .i64 i), .val (.int .i64 j)]))]⟩) ?_ ?_
  · (refine leB_of ?_ ?_; (· (repeat (first | exact EnvIs.nil | (refine EnvIs.cons ?_ ?_; (· first | rfl | ((conv => (lhs; whnf)); first | (simp [ints]; done) | (simp [ints]; omega))))))); (· (repeat (first | exact ObjsAre.nil | (refine ObjsAre.cons ?_ ?_; (· first | rfl | ((conv => (lhs; whnf)); first | (simp [ints]; done) | (simp [ints]; omega))))))))
  refine awp_frzB 5 k5 [.val (.int .i64 a), .val (.int .i64 b), .val (.int .i64 c), .val (.int .i64 e), .val (.int .i64 f), .val (.int .i64 g), .val (.int .i64 i), .val (.int .i64 j)] [(2, .rref [.val (.int .i64 (n : Int)), .ro (ls.map lkA), .ro (bls dn), .ro (bls dd)]), (5, .rref [.val (.int .i64 a), .val (.int .i64 b), .val (.int .i64 c), .val (.int .i64 e), .val (.int .i64 f), .val (.int .i64 g), .val (.int .i64 i), .val (.int .i64 j)])] [] rfl (.cons rfl (.same _) (.cons rfl (.ptr 0) .nil)) .nil ?_
  have hf : (List.take n ([.val (.int .i64 a), .val (.int .i64 b), .val (.int .i64 c), .val (.int .i64 e), .val (.int .i64 f), .val (.int .i64 g), .val (.int .i64 i), .val (.int .i64 j)] : List AVal)).flatMap AVal.flat = List.take n [.val (.int .i64 a), .val (.int .i64 b), .val (.int .i64 c), .val (.int .i64 e), .val (.int .i64 f), .val (.int .i64 g), .val (.int .i64 i), .val (.int .i64 j)] := by
    have e0 : (List.take n ([.val (.int .i64 a), .val (.int .i64 b), .val (.int .i64 c), .val (.int .i64 e), .val (.int .i64 f), .val (.int .i64 g), .val (.int .i64 i), .val (.int .i64 j)] : List AVal)) = ints .i64 (List.take n [a, b, c, e, f, g, i, j]) := by simp [ints, List.map_take]
    rw [e0]
    exact flat_ints _ _
  have e0 : (List.take n ([.val (.int .i64 a), .val (.int .i64 b), .val (.int .i64 c), .val (.int .i64 e), .val (.int .i64 f), .val (.int .i64 g), .val (.int .i64 i), .val (.int .i64 j)] : List AVal)) = ints .i64 (List.take n [a, b, c, e, f, g, i, j]) := by simp [ints, List.map_take]
  (repeat (first | refine awp_reg_seq rfl fun k => ?_ | (((apply runk_lit0 rfl rfl rfl ?_ ?_ ?_ ?_; rotate_left 3; (· (conv => (lhs; whnf; arg 1; whnf))); (· (unfold sizeIs; conv => (lhs; whnf; arg 1; whnf))); (· (conv => (lhs; whnf; arg 1; whnf)))))) | (((apply runk0 rfl rfl (opok_arrRoN rfl ?_ ?_ ?_ ?_ ?_ ?_ ?_) ?_; rotate_left 5; (· (conv => (lhs; whnf))); (· (conv => (lhs; whnf))); (· (conv => (lhs; whnf; arg 1; whnf))); (· (unfold sizeIs; conv => (lhs; whnf; arg 1; whnf))); (· rfl); (· assumption); (· first | assumption | omega | (simp; done) | (simp; omega))))) | (first | (apply runk0 rfl rfl (opok_load rfl ?_ ?_ ?_ ?_) ?_; rotate_left 5; (· (conv => (lhs; whnf))); (· (conv => (lhs; whnf; arg 1; whnf; arg 2; whnf))); (· rfl); (· (conv => (lhs; whnf; arg 1; whnf)))) | (apply runk0 rfl rfl (opok_loadR rfl ?_ ?_ ?_) ?_; rotate_left 2; (· (conv => (lhs; whnf))); (· rfl); (· (conv => (lhs; whnf; arg 1; whnf))))) | (apply runk0 rfl rfl (opok_faR rfl ?_ rfl rfl ?_ ?_ ?_) ?_; rotate_left 3; (· (conv => (lhs; whnf))); (· (unfold sizeIs; conv => (lhs; whnf; arg 1; whnf))); (· rfl); (· (conv => (lhs; (repeat (whnf; arg 2)); whnf))))))
  rw [e0]
  clear e0 hf sv s1 s2
  have hR : (List.take n [a, b, c, e, f, g, i, j]).length ≤ 8 := by rw [List.length_take]; exact Nat.min_le_right _ _
  generalize List.take n [a, b, c, e, f, g, i, j] = R at *
  (repeat (first | (apply runk_assignOwn rfl rfl rfl ?_ ?_ ?_; rotate_left 4; (· (conv => (lhs; whnf))); (· (conv => (lhs; whnf; arg 1; whnf)))) | refine runk_end (by kernel_rfl) ?_ | (apply runk_app rfl rfl rfl ?_ ?_ ?_ ?_ ?_ ?_ ?_ ?_ ?_ ?_ ?_ ?_ ?_ ?_ ?_ ?_; rotate_left 11; (· (conv => (lhs; whnf))); (· (conv => (lhs; whnf))); (· (conv => (lhs; whnf; arg 1; whnf))); (· (unfold sizeIs; conv => (lhs; whnf; arg 1; whnf))); (· (conv => (lhs; whnf; arg 1; whnf))); (· (conv => (lhs; whnf; arg 1; whnf))); (· rfl); (· rfl); (· rfl); (· first | exact .nil | (refine .own _ _ _ _ rfl ?_; first | rfl | (simp; done)) | (refine .pre _ _ _ _ rfl ?_ ?_; (· first | omega | (simp; done) | (simp; omega)); (· first | exact widths_ints _ _ | rfl | (simp; done)))); (· first | exact .ro _ | (refine .own _ _ _ _ _ _ rfl ?_; first | rfl | (simp; done)) | exact .nil | (refine .pre _ _ _ _ _ _ rfl ?_ ?_; (· first | omega | (simp; done) | (simp; omega)); (· first | exact widths_ints _ _ | rfl | (simp; done))) | (refine .sub _ _ _ _ _ _ _ rfl ?_ ?_; (· first | omega | (simp; done) | (simp; omega)); (· first | exact widths_ints _ _ | rfl | (simp; done)))); (· first | rfl | exact one_ints _ _ | exact widths_ints _ _ | (simp only [ints_takeR, ints_dropR]; first | exact one_ints _ _ | exact widths_ints _ _) | simp); (· first | rfl | exact one_ints _ _ | exact widths_ints _ _ | (simp only [ints_takeR, ints_dropR]; first | exact one_ints _ _ | exact widths_ints _ _) | simp); (· first | omega | (simp; done) | (simp; omega)); (· first | (simp only [List.nil_append, ints_takeR, ints_dropR, ints_one, ints_consR, ints_append]; done) | (simp only [List.nil_append, ints_takeR, ints_dropR, ints_one, ints_consR, ints_append]; rfl) | rfl))))
  generalize k = k4
  refine awp_less (st' := ⟨[(4, .own 4 k4 (ints .i64 R).length)], [(4, some (k4, .row 3 1 (ints .i64 R)))]⟩) ?_ ?_
  · (refine leB_of ?_ ?_; (· (repeat (first | exact EnvIs.nil | (refine EnvIs.cons ?_ ?_; (· first | rfl | ((conv => (lhs; whnf)); first | (simp [ints]; done) | (simp [ints]; omega))))))); (· (repeat (first | exact ObjsAre.nil | (refine ObjsAre.cons ?_ ?_; (· first | rfl | ((conv => (lhs; whnf)); first | (simp [ints]; done) | (simp [ints]; omega))))))))
  (refine awp_frz 4 k4 (ints .i64 R) ([(4, .ro (ints .i64 R))]) ([]) rfl ?_ ?_ ?_; (· (repeat (first | exact EnvFrz.nil | (refine EnvFrz.cons rfl ?_ ?_; (· first | exact .one (.same _) | (refine .one (.own _ ?_); first | rfl | (simp; done) | (simp only [length_ints]; omega)) | (refine .agg ?_; (repeat (first | exact Frzs.nil | (refine Frzs.cons ?_ ?_; (· first | exact Frz1.same _ | (refine Frz1.own _ ?_; first | rfl | (simp; done) | (simp only [length_ints]; omega)) | exact Frz1.any _))))) | (refine .tuple ?_; (repeat (first | exact Frzs.nil | (refine Frzs.cons ?_ ?_; (· first | exact Frz1.same _ | (refine Frz1.own _ ?_; first | rfl | (simp; done) | (simp only [length_ints]; omega)) | exact Frz1.any _)))))))))); (· (repeat (first | exact ObjsFrz.nil | (refine ObjsFrz.cons rfl rfl ?_ ?_; (· first | exact .same _ | (refine .box ?_; (repeat (first | exact Frzs.nil | (refine Frzs.cons ?_ ?_; (· first | exact Frz1.same _ | (refine Frz1.own _ ?_; first | rfl | (simp; done) | (simp only [length_ints]; omega)) | exact Frz1.any _))))) | (refine .row ?_ rfl; (repeat (first | exact Frzs.nil | (refine Frzs.cons ?_ ?_; (· first | exact Frz1.same _ | (refine Frz1.own _ ?_; first | rfl | (simp; done) | (simp only [length_ints]; omega)) | exact Frz1.any _)))))))))))
  (repeat (first | (refine awp_ret ?_; (apply ends_pure ?_ ?_ ?_ ?_ ?_ (.inl rfl); rotate_left 1; (· first | exact res_one rfl rfl | exact res_two rfl rfl rfl | exact res_none rfl | exact res_three rfl rfl rfl rfl | exact res_cell rfl rfl rfl rfl rfl | exact res_cell2 rfl rfl rfl rfl rfl rfl | exact res3 rfl (rv_cell rfl rfl rfl rfl) (rv_tmp rfl) (rv_tmp rfl) | exact res3 rfl (rv_cell rfl rfl rfl rfl) (rv_cell rfl rfl rfl rfl) (rv_cell rfl rfl rfl rfl)); (· first | rfl | ((conv => (lhs; whnf)); first | rfl | (simp; done))); (· first | rfl | (simp; done) | (simp [AVal.pure, AVal.pures, AObj.pure]; done)); (· rfl); (· rfl)))))
end Go.Proofs.Ytpdiainbcekpiaa
