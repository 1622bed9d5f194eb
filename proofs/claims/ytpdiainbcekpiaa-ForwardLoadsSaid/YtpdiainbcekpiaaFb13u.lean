/-
  Layer 13: distances, of the reference, by states.
-/
import Derived.Test.YtpdiainbcekpiaaFb13r
namespace Go.Proofs.Ytpdiainbcekpiaa
open Go.RowKit
theorem take_set (d : List Int) (n i : Nat) (v : Int) : (d.set i v).take n = (d.take n).set i v := by
  rw [List.take_set]
theorem getD_take (d : List Int) (n i : Nat) (h : i < n) : (d.take n).getD i 0 = d.getD i 0 := by
  rw [List.getD_eq_getElem?_getD, List.getElem?_take, if_pos h, List.getD_eq_getElem?_getD]
theorem rx1_take {n : Int} {a b N : Nat} {d : List Int} (ha : a < N) (hb : b < N) : (rx1 n a b d).take N = rx1 n a b (d.take N) := by
  unfold rx1
  rw [getD_take _ _ _ ha, getD_take _ _ _ hb]
  cases (d.getD a 0 == n) && decide (d.getD b 0 < 0) with
  | true => rw [cond_true, cond_true, take_set]
  | false => rfl
theorem rx_take {n : Int} {a b N : Nat} {d : List Int} (ha : a < N) (hb : b < N) : (rx n a b d).take N = rx n a b (d.take N) := by
  unfold rx
  rw [rx1_take hb ha, rx1_take ha hb]
set_option maxHeartbeats 64000000 in
set_option maxRecDepth 100000 in
theorem rdists_spec {F : FK} (h : F.ok = true) (to : Int) : Spec Try.prog 22 [.agg F.A, .val (.int .i64 to)] [] (.ro (ints .i64 ((dsts F to).take F.sw.toNat))) [] := by
  obtain ⟨hs1, hs8, hl24, -, hdd, -⟩ := FK.ok_facts h
  have sd := rdead_spec h to
  have sw := fun k => rworks_spec h k
  have hend : ∀ i, i < F.ls.length → (F.ls.map lkA)[i]? = some (.agg [.val (.int .i64 (F.la i : Int)), .val (.int .i64 (F.lb i : Int)), .val (.int .i64 (F.ls.getD i (0, 0, 0)).2.2)]) ∧ (F.la i : Int) < F.sw ∧ (F.lb i : Int) < F.sw := fun i hi => by
    obtain ⟨e1, e2, ha, hb, -⟩ := FK.ends h hi
    have hx := lk_at F.ls hi
    rw [e1, e2] at hx
    exact ⟨hx, by omega, by omega⟩
  have hwk : ∀ i : Nat, i < F.ls.length → F.works (i : Int) = F.wk i := fun i hi => by
    unfold FK.works
    rw [Int.toNat_natCast]
    have e2 : decide ((i : Int) < (F.ls.length : Int)) = true := decide_eq_true (by omega)
    simp only [e2, Bool.and_true]
    simp
  have hal : F.al to = true → ∃ n : Nat, to = n ∧ (n : Int) < F.sw := fun g => by
    simp only [FK.al, Bool.and_eq_true, decide_eq_true_eq] at g
    exact ⟨to.toNat, by omega, by omega⟩
  have hS := wkL_succ F
  have hl8 := dsts_len F to
  have hrl : ∀ (n : Int) (L d : List Int), (rxL F n L d).length = d.length := fun n L d => rxL_len F n L d
  have hrn : ∀ (L : List Int) (m : Nat) (d : List Int), (rxN F L m d).length = d.length := fun L m d => rxN_len F L m d
  have hsn : ∀ (L : List Int) (m : Nat) (d : List Int), rxN F L (m + 1) d = rxL F m L (rxN F L m d) := fun L m d => rfl
  have hsl : ∀ (n : Int) (L : List Int) (i : Nat) (d : List Int), rxL F n (L ++ [(i : Int)]) d = rx n (F.la i) (F.lb i) (rxL F n L d) := fun n L i d => by
    unfold rxL
    rw [List.foldl_append]
    simp
  have hr0 : ∀ (L d : List Int), rxN F L 0 d = d := fun L d => rfl
  have hr1 : ∀ (n : Int) (d : List Int), rxL F n [] d = d := fun n d => rfl
  unfold dsts distZ at *
  clear h hdd
  obtain ⟨FAv, hFA⟩ : ∃ x, F.A = x := ⟨_, rfl⟩
  have hFA2 : FAv = [.val (.int .i64 F.sw), .ro (F.ls.map lkA), .ro (bls F.dn), .ro (bls F.dd)] := by rw [← hFA]; rfl
  rw [hFA] at sd sw ⊢
  rw [hFA2] at sd sw ⊢
  clear hFA hFA2 FAv
  have e8 : ∃ N : Nat, F.sw = N := ⟨F.sw.toNat, by omega⟩
  generalize F.al to = AL at *
  generalize hW : wkL F = W at *
  have hW0 : W 0 = [] := by rw [← hW]; rfl
  clear hW
  generalize rxN F = RN at *
  generalize rxL F = RL at *
  generalize F.la = la at *
  generalize F.lb = lb at *
  generalize F.wk = wk at *
  generalize F.works = works at *
  generalize F.ls = ls at *
  generalize F.dn = dn at *
  generalize F.dd = dd at *
  generalize F.sw = n0 at *
  obtain ⟨N, rfl⟩ := e8
  rw [Int.toNat_natCast] at *
  clear F
  refine spec_of_awp Try.func22 rfl (Nat.le_of_ble_eq_true rfl) fun ini => ?_
  simp only [Try.ntmps22]
  (repeat (first | refine awp_reg_seq rfl fun k => ?_ | refine awp_seq ?_ | refine awp_block ?_ | (apply runk0 rfl rfl (opok_box_ro rfl ?_ ?_ ?_) ?_; rotate_left 2; (· (conv => (lhs; whnf))); (· rfl); (· (conv => (lhs; whnf)))) | (apply runk0 rfl rfl (opok_move rfl ?_) ?_; rotate_left 1; (· (conv => (lhs; whnf)))) | (apply runk0 rfl rfl (opok_assign rfl ?_) ?_; rotate_left 1; (· (conv => (lhs; whnf)))) | (first | (apply runk0 rfl rfl (opok_load rfl ?_ ?_ ?_ ?_) ?_; rotate_left 5; (· (conv => (lhs; whnf))); (· (conv => (lhs; whnf; arg 1; whnf; arg 2; whnf))); (· rfl); (· (conv => (lhs; whnf; arg 1; whnf)))) | (apply runk0 rfl rfl (opok_loadR rfl ?_ ?_ ?_) ?_; rotate_left 2; (· (conv => (lhs; whnf))); (· rfl); (· (conv => (lhs; whnf; arg 1; whnf))))) | refine runk_end (by kernel_rfl) ?_ | (apply runk0 rfl rfl (opok_faR rfl ?_ rfl rfl ?_ ?_ ?_) ?_; rotate_left 3; (· (conv => (lhs; whnf))); (· (unfold sizeIs; conv => (lhs; whnf; arg 1; whnf))); (· rfl); (· (conv => (lhs; (repeat (whnf; arg 2)); whnf))))))
  refine awp_less (st' := ⟨[(2, .rref [.val (.int .i64 (N : Int)), .ro (ls.map lkA), .ro (bls dn), .ro (bls dd)]), (5, .val (.slice none 0 0)), (1, .val (.int .i64 to)), (10, .val (.int .i64 (N : Int))), (11, .val (.int .i64 0))], []⟩) ?_ ?_
  · (refine leB_of ?_ ?_; (· (repeat (first | exact EnvIs.nil | (refine EnvIs.cons ?_ ?_; (· first | rfl | ((conv => (lhs; whnf)); first | (simp [ints]; done) | (simp [ints]; omega))))))); (· (repeat (first | exact ObjsAre.nil | (refine ObjsAre.cons ?_ ?_; (· first | rfl | ((conv => (lhs; whnf)); first | (simp [ints]; done) | (simp [ints]; omega))))))))
  refine awp_adopt 5 5 3 1 rfl fun kq => ?_
  refine awp_loop (fun n st => ∃ (j kq : Nat), j + n = N ∧ st.leB ⟨[(10, .val (.int .i64 (N : Int))), (11, .val (.int .i64 (j : Int))), (5, .own 5 kq (ints .i64 (List.replicate j (-1))).length), (2, .rref [.val (.int .i64 (N : Int)), .ro (ls.map lkA), .ro (bls dn), .ro (bls dd)]), (1, .val (.int .i64 to))], [(5, some (kq, .row 3 1 (ints .i64 (List.replicate j (-1)))))]⟩) N ⟨0, kq, by omega, ?_⟩ ?_
  · (refine leB_of ?_ ?_; (· (repeat (first | exact EnvIs.nil | (refine EnvIs.cons ?_ ?_; (· first | rfl | ((conv => (lhs; whnf)); first | (simp [ints]; done) | (simp [ints]; omega))))))); (· (repeat (first | exact ObjsAre.nil | (refine ObjsAre.cons ?_ ?_; (· first | rfl | ((conv => (lhs; whnf)); first | (simp [ints]; done) | (simp [ints]; omega))))))))
  · rintro n st ⟨j, kq, hj, hle⟩
    refine awp_less hle ?_
    clear hle st
    (repeat (first | refine awp_reg_seq rfl fun k => ?_ | refine awp_seq ?_ | (apply runk0 rfl rfl (opok_bin rfl ?_ ?_ ?_) ?_; rotate_left 3; (· (conv => (lhs; whnf))); (· (conv => (lhs; whnf))); (· (intro w; go_simp; first | done | rfl))) | refine runk_end (by kernel_rfl) ?_))
    refine awp_if rfl (fun hc => ?_) (fun hc => ?_)
    · have hlt : j < N := by simpa using hc
      clear hc
      have wj : IntKind.i64.wrap ((j : Int) + 1) = ((j + 1 : Nat) : Int) := by rw [IntKind.wrap_i64]; omega
      (repeat (first | refine awp_reg rfl fun k => ?_ | refine awp_seq ?_ | refine awp_skip (?_ : Awp _ _ _ _ _ _) | refine awp_block ?_ | (apply runk0 rfl rfl (opok_move rfl ?_) ?_; rotate_left 1; (· (conv => (lhs; whnf)))) | (apply runk_assignOwn rfl rfl rfl ?_ ?_ ?_; rotate_left 4; (· (conv => (lhs; whnf))); (· (conv => (lhs; whnf; arg 1; whnf)))) | (apply runk0 rfl rfl (opok_bin rfl ?_ ?_ ?_) ?_; rotate_left 3; (· (conv => (lhs; whnf))); (· (conv => (lhs; whnf))); (· (intro w; go_simp; first | done | rfl))) | (apply runk_lit rfl rfl rfl ?_ ?_ ?_ ?_ ?_ ?_ ?_ ?_ ?_ ?_ ?_; rotate_left 4; (· (conv => (lhs; whnf; arg 1; whnf))); (· (unfold sizeIs; conv => (lhs; whnf; arg 1; whnf))); (· (conv => (lhs; whnf; arg 1; whnf))); (· rfl); (· rfl); (· rfl); (· rfl); (· (repeat (first | exact PartsAre.nil _ | (apply PartsAre.cons; (· (conv => (lhs; whnf))))))); (· first | rfl | exact one_ints _ _ | exact widths_ints _ _ | simp); (· first | rfl | exact one_ints _ _ | exact widths_ints _ _ | simp)) | refine runk_end (by kernel_rfl) ?_ | (apply runk_app rfl rfl rfl ?_ ?_ ?_ ?_ ?_ ?_ ?_ ?_ ?_ ?_ ?_ ?_ ?_ ?_ ?_ ?_; rotate_left 11; (· (conv => (lhs; whnf))); (· (conv => (lhs; whnf))); (· (conv => (lhs; whnf; arg 1; whnf))); (· (unfold sizeIs; conv => (lhs; whnf; arg 1; whnf))); (· (conv => (lhs; whnf; arg 1; whnf))); (· (conv => (lhs; whnf; arg 1; whnf))); (· rfl); (· rfl); (· rfl); (· first | exact .nil | (refine .own _ _ _ _ rfl ?_; first | rfl | (simp; done)) | (refine .pre _ _ _ _ rfl ?_ ?_; (· first | omega | (simp; done) | (simp; omega)); (· first | exact widths_ints _ _ | rfl | (simp; done)))); (· first | exact .ro _ | (refine .own _ _ _ _ _ _ rfl ?_; first | rfl | (simp; done)) | exact .nil | (refine .pre _ _ _ _ _ _ rfl ?_ ?_; (· first | omega | (simp; done) | (simp; omega)); (· first | exact widths_ints _ _ | rfl | (simp; done))) | (refine .sub _ _ _ _ _ _ _ rfl ?_ ?_; (· first | omega | (simp; done) | (simp; omega)); (· first | exact widths_ints _ _ | rfl | (simp; done)))); (· first | rfl | exact one_ints _ _ | exact widths_ints _ _ | (simp only [ints_takeR, ints_dropR]; first | exact one_ints _ _ | exact widths_ints _ _) | simp); (· first | rfl | exact one_ints _ _ | exact widths_ints _ _ | (simp only [ints_takeR, ints_dropR]; first | exact one_ints _ _ | exact widths_ints _ _) | simp); (· first | omega | (simp; done) | (simp; omega)); (· first | (simp only [List.nil_append, ints_takeR, ints_dropR, ints_one, ints_consR, ints_append]; done) | (simp only [List.nil_append, ints_takeR, ints_dropR, ints_one, ints_consR, ints_append]; rfl) | rfl))))
      rename_i ka
      refine ⟨n - 1, by omega, j + 1, ka, by omega, ?_⟩
      rw [List.replicate_succ']
      (refine leB_of ?_ ?_; (· (repeat (first | exact EnvIs.nil | (refine EnvIs.cons ?_ ?_; (· first | rfl | ((conv => (lhs; whnf)); first | (simp [ints]; done) | (simp [ints]; omega))))))); (· (repeat (first | exact ObjsAre.nil | (refine ObjsAre.cons ?_ ?_; (· first | rfl | ((conv => (lhs; whnf)); first | (simp [ints]; done) | (simp [ints]; omega))))))))
    · have hie : N = j := by simp at hc; omega
      subst hie
      clear hc
      refine awp_exit (?_ : Awp _ _ _ _ _ _)
      cases AL with
      | false =>
        simp only [cond_false]
        rw [List.take_replicate, Nat.min_eq_left (by omega)]
        refine awp_less (st' := ⟨[(5, .own 5 kq (ints .i64 (List.replicate N (-1))).length), (2, .rref [.val (.int .i64 (N : Int)), .ro (ls.map lkA), .ro (bls dn), .ro (bls dd)]), (1, .val (.int .i64 to))], [(5, some (kq, .row 3 1 (ints .i64 (List.replicate N (-1)))))]⟩) ?_ ?_
        · (refine leB_of ?_ ?_; (· (repeat (first | exact EnvIs.nil | (refine EnvIs.cons ?_ ?_; (· first | rfl | ((conv => (lhs; whnf)); first | (simp [ints]; done) | (simp [ints]; omega))))))); (· (repeat (first | exact ObjsAre.nil | (refine ObjsAre.cons ?_ ?_; (· first | rfl | ((conv => (lhs; whnf)); first | (simp [ints]; done) | (simp [ints]; omega))))))))
        (refine awp_frz 5 kq (ints .i64 (List.replicate N (-1))) ([(5, .ro (ints .i64 (List.replicate N (-1)))), (2, .rref [.val (.int .i64 (N : Int)), .ro (ls.map lkA), .ro (bls dn), .ro (bls dd)]), (1, .val (.int .i64 to))]) ([]) rfl ?_ ?_ ?_; (· (repeat (first | exact EnvFrz.nil | (refine EnvFrz.cons rfl ?_ ?_; (· first | exact .one (.same _) | (refine .one (.own _ ?_); first | rfl | (simp; done) | (simp only [length_ints]; omega)) | (refine .agg ?_; (repeat (first | exact Frzs.nil | (refine Frzs.cons ?_ ?_; (· first | exact Frz1.same _ | (refine Frz1.own _ ?_; first | rfl | (simp; done) | (simp only [length_ints]; omega)) | exact Frz1.any _))))) | (refine .tuple ?_; (repeat (first | exact Frzs.nil | (refine Frzs.cons ?_ ?_; (· first | exact Frz1.same _ | (refine Frz1.own _ ?_; first | rfl | (simp; done) | (simp only [length_ints]; omega)) | exact Frz1.any _)))))))))); (· (repeat (first | exact ObjsFrz.nil | (refine ObjsFrz.cons rfl rfl ?_ ?_; (· first | exact .same _ | (refine .box ?_; (repeat (first | exact Frzs.nil | (refine Frzs.cons ?_ ?_; (· first | exact Frz1.same _ | (refine Frz1.own _ ?_; first | rfl | (simp; done) | (simp only [length_ints]; omega)) | exact Frz1.any _))))) | (refine .row ?_ rfl; (repeat (first | exact Frzs.nil | (refine Frzs.cons ?_ ?_; (· first | exact Frz1.same _ | (refine Frz1.own _ ?_; first | rfl | (simp; done) | (simp only [length_ints]; omega)) | exact Frz1.any _)))))))))))
        (repeat (first | refine awp_reg_seq rfl fun k => ?_ | refine awp_seq ?_ | refine awp_true rfl ?_ | (refine awp_ret ?_; (apply ends_pure ?_ ?_ ?_ ?_ ?_ (.inl rfl); rotate_left 1; (· first | exact res_one rfl rfl | exact res_two rfl rfl rfl | exact res_none rfl | exact res_three rfl rfl rfl rfl | exact res_cell rfl rfl rfl rfl rfl | exact res_cell2 rfl rfl rfl rfl rfl rfl | exact res3 rfl (rv_cell rfl rfl rfl rfl) (rv_tmp rfl) (rv_tmp rfl) | exact res3 rfl (rv_cell rfl rfl rfl rfl) (rv_cell rfl rfl rfl rfl) (rv_cell rfl rfl rfl rfl)); (· first | rfl | ((conv => (lhs; whnf)); first | rfl | (simp; done))); (· first | rfl | (simp; done) | (simp [AVal.pure, AVal.pures, AObj.pure]; done)); (· rfl); (· rfl))) | (apply runk_pure rfl rfl rfl ?_ ?_ ?_ ?_ ?_ ?_ ?_ ?_; rotate_left 6; (· (conv => (lhs; whnf))); (· exact Try.func27); (· rfl); (· rfl); (· exact (sd)); (· (repeat (first | exact Rens.nil | (refine Rens.cons ?_ ?_; (· first | exact Ren.own _ _ _ _ _ _ rfl List.mem_cons_self | exact Ren.own _ _ _ _ _ _ rfl (List.mem_cons_of_mem _ List.mem_cons_self) | (refine (Ren.own _ _ _ _ _ _ ?_ List.mem_cons_self); first | rfl | (simp; done)) | (refine (Ren.own _ _ _ _ _ _ ?_ (List.mem_cons_of_mem _ List.mem_cons_self)); first | rfl | (simp; done)) | exact Ren.ptr _ _ _ _ _ List.mem_cons_self | (refine Ren.pureR ?_ rfl; (first | rfl | (simp; done) | (simp [AVal.pure, AVal.pures, AObj.pure]; done)))))))); (· first | rfl | (simp; done) | simp [AVal.pure, AVal.pures, AObj.pure])) | (apply runk0 rfl rfl (opok_move rfl ?_) ?_; rotate_left 1; (· (conv => (lhs; whnf)))) | (apply runk0 rfl rfl (opok_assign rfl ?_) ?_; rotate_left 1; (· (conv => (lhs; whnf)))) | refine runk_end (by kernel_rfl) ?_ | (apply runk0 rfl rfl (opok_loadRA2 rfl ?_ ?_ ?_ ?_) ?_; rotate_left 2; (· (conv => (lhs; whnf))); (· rfl); (· (unfold sizeIs; conv => (lhs; whnf; arg 1; whnf))); (· rfl))))
      | true =>
        obtain ⟨tn, rfl, htn⟩ := hal rfl
        simp only [cond_true, Int.toNat_natCast] at hl8 ⊢
        obtain ⟨d0, hd0⟩ : ∃ d, d = (List.replicate 8 (-1 : Int)).set tn 0 := ⟨_, rfl⟩
        have e0 : (List.replicate N (-1 : Int)).set tn 0 = d0.take N := by
          rw [hd0, take_set, List.take_replicate, Nat.min_eq_left (by omega)]
        have hl0 : d0.length = 8 := by rw [hd0]; simp
        rw [← hd0] at hl8 ⊢
        clear hd0
        have htn' : tn < N := by omega
        (repeat (first | refine awp_reg_seq rfl fun k => ?_ | refine awp_seq ?_ | refine awp_false rfl ?_ | refine awp_skip (?_ : Awp _ _ _ _ _ _) | refine awp_block ?_ | (apply runk_pure rfl rfl rfl ?_ ?_ ?_ ?_ ?_ ?_ ?_ ?_; rotate_left 6; (· (conv => (lhs; whnf))); (· exact Try.func27); (· rfl); (· rfl); (· exact (sd)); (· (repeat (first | exact Rens.nil | (refine Rens.cons ?_ ?_; (· first | exact Ren.own _ _ _ _ _ _ rfl List.mem_cons_self | exact Ren.own _ _ _ _ _ _ rfl (List.mem_cons_of_mem _ List.mem_cons_self) | (refine (Ren.own _ _ _ _ _ _ ?_ List.mem_cons_self); first | rfl | (simp; done)) | (refine (Ren.own _ _ _ _ _ _ ?_ (List.mem_cons_of_mem _ List.mem_cons_self)); first | rfl | (simp; done)) | exact Ren.ptr _ _ _ _ _ List.mem_cons_self | (refine Ren.pureR ?_ rfl; (first | rfl | (simp; done) | (simp [AVal.pure, AVal.pures, AObj.pure]; done)))))))); (· first | rfl | (simp; done) | simp [AVal.pure, AVal.pures, AObj.pure])) | (apply runk0 rfl rfl (opok_move rfl ?_) ?_; rotate_left 1; (· (conv => (lhs; whnf)))) | (first | (apply runk0 rfl rfl (opok_load rfl ?_ ?_ ?_ ?_) ?_; rotate_left 5; (· (conv => (lhs; whnf))); (· (conv => (lhs; whnf; arg 1; whnf; arg 2; whnf))); (· rfl); (· (conv => (lhs; whnf; arg 1; whnf)))) | (apply runk0 rfl rfl (opok_loadR rfl ?_ ?_ ?_) ?_; rotate_left 2; (· (conv => (lhs; whnf))); (· rfl); (· (conv => (lhs; whnf; arg 1; whnf))))) | (apply runk0 rfl rfl (opok_index_own rfl ?_ ?_ ?_ ?_ ?_ ?_ ?_ ?_) ?_; rotate_left 10; (· (conv => (lhs; whnf))); (· (conv => (lhs; whnf; arg 1; whnf; arg 2; whnf))); (· (conv => (lhs; whnf))); (· (conv => (lhs; whnf; arg 1; whnf))); (· (unfold sizeIs; conv => (lhs; whnf; arg 1; whnf))); (· first | omega | (simp; done) | (simp; omega)); (· first | omega | (simp; done) | (simp; omega)); (· first | rfl | (simp; done) | (simp; omega))) | refine runk_end (by kernel_rfl) ?_ | (apply runk0 rfl rfl (opok_faR rfl ?_ rfl rfl ?_ ?_ ?_) ?_; rotate_left 3; (· (conv => (lhs; whnf))); (· (unfold sizeIs; conv => (lhs; whnf; arg 1; whnf))); (· rfl); (· (conv => (lhs; (repeat (whnf; arg 2)); whnf)))) | (apply runk0 rfl rfl (opok_loadRA2 rfl ?_ ?_ ?_ ?_) ?_; rotate_left 2; (· (conv => (lhs; whnf))); (· rfl); (· (unfold sizeIs; conv => (lhs; whnf; arg 1; whnf))); (· rfl)) | (apply runk_setN rfl rfl rfl ?_ ?_ ?_ ?_ ?_ ?_ ?_; rotate_left 8; (· (conv => (lhs; whnf))); (· (conv => (lhs; whnf))); (· rfl); (· (unfold sizeIs; conv => (lhs; whnf; arg 1; whnf))); (· first | (simp only [Int.toNat_natCast, Nat.mul_one, Int.reduceToNat]; done) | (simp only [Int.toNat_natCast, Nat.mul_one, Int.reduceToNat]; rfl) | rfl); (· first | omega | (simp; done) | (simp; omega)))))
        clear sd hal
        obtain ⟨TN, hTN⟩ : ∃ T : Nat → List Int, T = fun m => (RN (W ls.length) m d0).take N := ⟨_, rfl⟩
        have hT0 : (RN (W ls.length) 0 d0).take N = d0.take N := by rw [hr0]
        have hTNe : ∀ m, (RN (W ls.length) m d0).take N = TN m := fun m => by rw [hTN]
        rw [hTNe]
        refine awp_loop (fun n st => ∃ (m kq : Nat), m + n = N ∧ st.leB ⟨[(25, .val (.int .i64 (N : Int))), (26, .val (.int .i64 (m : Int))), (5, .own 5 kq (ints .i64 (TN m)).length), (2, .rref [.val (.int .i64 (N : Int)), .ro (ls.map lkA), .ro (bls dn), .ro (bls dd)]), (1, .val (.int .i64 (tn : Int)))], [(5, some (kq, .row 3 1 (ints .i64 (TN m))))]⟩) N ⟨0, kq, by omega, ?_⟩ ?_
        · rw [← hTNe, hT0, ← e0]
          (refine leB_of ?_ ?_; (· (repeat (first | exact EnvIs.nil | (refine EnvIs.cons ?_ ?_; (· first | rfl | ((conv => (lhs; whnf)); first | (simp [ints, List.map_set, List.map_replicate]; done) | (simp [ints, List.map_set, List.map_replicate]; omega))))))); (· (repeat (first | exact ObjsAre.nil | (refine ObjsAre.cons ?_ ?_; (· first | rfl | ((conv => (lhs; whnf)); first | (simp [ints, List.map_set, List.map_replicate]; done) | (simp [ints, List.map_set, List.map_replicate]; omega))))))))
        rintro n st ⟨m, kq, hm, hle⟩
        refine awp_less hle ?_
        clear hle st e0 hT0
        (repeat (first | refine awp_reg_seq rfl fun k => ?_ | refine awp_seq ?_ | (apply runk0 rfl rfl (opok_bin rfl ?_ ?_ ?_) ?_; rotate_left 3; (· (conv => (lhs; whnf))); (· (conv => (lhs; whnf))); (· (intro w; go_simp; first | done | rfl))) | refine runk_end (by kernel_rfl) ?_))
        refine awp_if rfl (fun hc => ?_) (fun hc => ?_)
        · have hlt : m < N := by simpa using hc
          clear hc
          have wm : IntKind.i64.wrap ((m : Int) + 1) = ((m + 1 : Nat) : Int) := by rw [IntKind.wrap_i64]; omega
          have hSN := hsn (W ls.length) m d0
          have hDl : (RN (W ls.length) m d0).length = 8 := by rw [hrn]; exact hl0
          have hm1 := hTNe m
          have hm2 := hTNe (m + 1)
          rw [hSN] at hm2
          generalize RN (W ls.length) m d0 = D at *
          obtain ⟨TL, hTL⟩ : ∃ T : Nat → List Int, T = fun i => (RL m (W i) D).take N := ⟨_, rfl⟩
          have hTLe : ∀ i, (RL m (W i) D).take N = TL i := fun i => by rw [hTL]
          have hL0 : TL 0 = TN m := by rw [← hTLe, hW0, hr1, hm1]
          have hLE : TL ls.length = TN (m + 1) := by rw [← hTLe]; exact hm2
          have hLl : ∀ i, (TL i).length = N := fun i => by rw [← hTLe, List.length_take, hrl, hDl]; omega
          have hLs : ∀ i, i < ls.length → TL (i + 1) = bif wk i then rx m (la i) (lb i) (TL i) else TL i := fun i hi => by
            obtain ⟨-, h1, h2⟩ := hend i hi
            rw [← hTLe, ← hTLe, hS]
            cases wk i with
            | true => rw [cond_true, cond_true, hsl, rx_take (by omega) (by omega)]
            | false => rfl
          clear hTL hTLe hm1 hm2 hDl hSN hTN hTNe hrl hrn hsn hsl hS hW0 hr0 hr1 hl0 hl8
          (repeat (first | refine awp_reg_seq rfl fun k => ?_ | refine awp_seq ?_ | refine awp_skip (?_ : Awp _ _ _ _ _ _) | refine awp_block ?_ | (apply runk0 rfl rfl (opok_move rfl ?_) ?_; rotate_left 1; (· (conv => (lhs; whnf)))) | (apply runk0 rfl rfl (opok_assign rfl ?_) ?_; rotate_left 1; (· (conv => (lhs; whnf)))) | (first | (apply runk0 rfl rfl (opok_load rfl ?_ ?_ ?_ ?_) ?_; rotate_left 5; (· (conv => (lhs; whnf))); (· (conv => (lhs; whnf; arg 1; whnf; arg 2; whnf))); (· rfl); (· (conv => (lhs; whnf; arg 1; whnf)))) | (apply runk0 rfl rfl (opok_loadR rfl ?_ ?_ ?_) ?_; rotate_left 2; (· (conv => (lhs; whnf))); (· rfl); (· (conv => (lhs; whnf; arg 1; whnf))))) | (first | (apply runk0 rfl rfl (opok_lenO rfl ?_ ?_ ?_) ?_; rotate_left 5; (· (conv => (lhs; whnf))); (· (conv => (lhs; whnf; arg 1; whnf))); (· first | exact length_ints _ _ | rfl)) | (apply runk0 rfl rfl (opok_len_own rfl ?_ ?_) ?_; rotate_left 4; (· (conv => (lhs; whnf))); (· (conv => (lhs; whnf; arg 1; whnf)))) | (apply runk0 rfl rfl (opok_len rfl ?_ ?_ ?_) ?_; rotate_left 3; (· (conv => (lhs; whnf))); (· (conv => (lhs; whnf; arg 1; whnf))); (· first | exact length_ints _ _ | rfl))) | refine runk_end (by kernel_rfl) ?_ | (apply runk0 rfl rfl (opok_faR rfl ?_ rfl rfl ?_ ?_ ?_) ?_; rotate_left 3; (· (conv => (lhs; whnf))); (· (unfold sizeIs; conv => (lhs; whnf; arg 1; whnf))); (· rfl); (· (conv => (lhs; (repeat (whnf; arg 2)); whnf))))))
          refine awp_loop (fun n2 st => ∃ (i kq : Nat), i + n2 = ls.length ∧ st.leB ⟨[(6, .val (.int .i64 (m : Int))), (25, .val (.int .i64 (N : Int))), (26, .val (.int .i64 (m : Int))), (30, .ro (ls.map lkA)), (31, .val (.int .i64 (ls.length : Int))), (32, .val (.int .i64 (i : Int))), (5, .own 5 kq (ints .i64 (TL i)).length), (2, .rref [.val (.int .i64 (N : Int)), .ro (ls.map lkA), .ro (bls dn), .ro (bls dd)]), (1, .val (.int .i64 (tn : Int)))], [(5, some (kq, .row 3 1 (ints .i64 (TL i))))]⟩) ls.length ⟨0, kq, by omega, ?_⟩ ?_
          · rw [hL0]
            (refine leB_of ?_ ?_; (· (repeat (first | exact EnvIs.nil | (refine EnvIs.cons ?_ ?_; (· first | rfl | ((conv => (lhs; whnf)); first | (simp [ints]; done) | (simp [ints]; omega))))))); (· (repeat (first | exact ObjsAre.nil | (refine ObjsAre.cons ?_ ?_; (· first | rfl | ((conv => (lhs; whnf)); first | (simp [ints]; done) | (simp [ints]; omega))))))))
          rintro n2 st ⟨i, kq, hi, hle⟩
          refine awp_less hle ?_
          clear hle st hL0
          (repeat (first | refine awp_reg_seq rfl fun k => ?_ | refine awp_seq ?_ | (apply runk0 rfl rfl (opok_bin rfl ?_ ?_ ?_) ?_; rotate_left 3; (· (conv => (lhs; whnf))); (· (conv => (lhs; whnf))); (· (intro w; go_simp; first | done | rfl))) | refine runk_end (by kernel_rfl) ?_))
          refine awp_if rfl (fun hc => ?_) (fun hc => ?_)
          · have hil : i < ls.length := by simpa using hc
            clear hc
            have wi : IntKind.i64.wrap ((i : Int) + 1) = ((i + 1 : Nat) : Int) := by rw [IntKind.wrap_i64]; omega
            obtain ⟨hy, ha, hb⟩ := hend i hil
            have c1 := sw (i : Int)
            rw [hwk i hil] at c1
            have hR := hLl i
            have eT := hLs i hil
            generalize la i = a at *
            generalize lb i = b at *
            generalize (ls.getD i (0, 0, 0)).2.2 = c at *
            generalize hY : TL (i + 1) = Y at *
            generalize TL i = R at *
            clear hend hwk sw hLE hLl hLs
            (repeat (first | refine awp_reg_seq rfl fun k => ?_ | refine awp_seq ?_ | refine awp_skip (?_ : Awp _ _ _ _ _ _) | refine awp_block ?_ | (apply runk0 rfl rfl (opok_move rfl ?_) ?_; rotate_left 1; (· (conv => (lhs; whnf))))))
            (apply runk0 rfl rfl (opok_index_ro rfl ?_ ?_ ?_ ?_ ?_ ?_ ?_) ?_; rotate_left 6; (· (conv => (lhs; whnf))); (· (conv => (lhs; whnf))); (· (conv => (lhs; whnf; arg 1; whnf))); (· (unfold sizeIs; conv => (lhs; whnf; arg 1; whnf))); (· simp); (· first | omega | (simp; done) | (simp; omega)); (· simp only [Int.toNat_natCast]; exact hy))
            cases hw : wk i with
            | false =>
              rw [hw] at c1 eT
              rw [cond_false] at eT
              (repeat (first | refine awp_reg_seq rfl fun k => ?_ | refine awp_reg rfl fun k => ?_ | refine awp_seq ?_ | refine awp_true rfl ?_ | refine awp_exit (?_ : Awp _ _ _ _ _ _) | (apply runk_pure rfl rfl rfl ?_ ?_ ?_ ?_ ?_ ?_ ?_ ?_; rotate_left 6; (· (conv => (lhs; whnf))); (· exact Try.func21); (· rfl); (· rfl); (· exact (c1)); (· (repeat (first | exact Rens.nil | (refine Rens.cons ?_ ?_; (· first | exact Ren.own _ _ _ _ _ _ rfl List.mem_cons_self | exact Ren.own _ _ _ _ _ _ rfl (List.mem_cons_of_mem _ List.mem_cons_self) | (refine (Ren.own _ _ _ _ _ _ ?_ List.mem_cons_self); first | rfl | (simp; done)) | (refine (Ren.own _ _ _ _ _ _ ?_ (List.mem_cons_of_mem _ List.mem_cons_self)); first | rfl | (simp; done)) | exact Ren.ptr _ _ _ _ _ List.mem_cons_self | (refine Ren.pureR ?_ rfl; (first | rfl | (simp; done) | (simp [AVal.pure, AVal.pures, AObj.pure]; done)))))))); (· first | rfl | (simp; done) | simp [AVal.pure, AVal.pures, AObj.pure])) | (apply runk0 rfl rfl (opok_move rfl ?_) ?_; rotate_left 1; (· (conv => (lhs; whnf)))) | (apply runk0 rfl rfl (opok_assign rfl ?_) ?_; rotate_left 1; (· (conv => (lhs; whnf)))) | (apply runk0 rfl rfl (opok_bin rfl ?_ ?_ ?_) ?_; rotate_left 3; (· (conv => (lhs; whnf))); (· (conv => (lhs; whnf))); (· (intro w; go_simp; first | done | rfl))) | (apply runk0 rfl rfl (opok_un rfl ?_ ?_) ?_; rotate_left 2; (· (conv => (lhs; whnf))); (· (intro w; go_simp; first | done | rfl))) | (apply runk0 rfl rfl (opok_extract rfl ?_ ?_) ?_; rotate_left 2; (· (conv => (lhs; whnf))); (· (conv => (lhs; whnf; arg 1; whnf)))) | (apply runk_alloc rfl rfl rfl ?_ ?_ ?_; rotate_left 2; (· (conv => (lhs; whnf; arg 1; whnf))); (· (conv => (lhs; whnf)))) | (apply runk_store rfl rfl rfl ?_ ?_ ?_ ?_ ?_ ?_ ?_ ?_ ?_ ?_ ?_; rotate_left 9; (· (conv => (lhs; whnf))); (· (conv => (lhs; whnf))); (· (conv => (lhs; whnf; arg 1; whnf; arg 2; whnf))); (· rfl); (· (conv => (lhs; whnf))); (· rfl); (· (unfold sizeIs; conv => (lhs; whnf; arg 1; whnf))); (· rfl); (· rfl); (· (conv => (lhs; repeat (whnf; arg 2))))) | refine runk_end (by kernel_rfl) ?_ | (apply runk0 rfl rfl (opok_loadRA2 rfl ?_ ?_ ?_ ?_) ?_; rotate_left 2; (· (conv => (lhs; whnf))); (· rfl); (· (unfold sizeIs; conv => (lhs; whnf; arg 1; whnf))); (· rfl))))
              refine ⟨n2 - 1, by omega, i + 1, kq, by omega, ?_⟩
              rw [hY, eT]
              (refine leB_of ?_ ?_; (· (repeat (first | exact EnvIs.nil | (refine EnvIs.cons ?_ ?_; (· first | rfl | ((conv => (lhs; whnf)); first | (simp [ints]; done) | (simp [ints]; omega))))))); (· (repeat (first | exact ObjsAre.nil | (refine ObjsAre.cons ?_ ?_; (· first | rfl | ((conv => (lhs; whnf)); first | (simp [ints]; done) | (simp [ints]; omega))))))))
            | true =>
              rw [hw] at c1 eT
              rw [cond_true] at eT
              (repeat (first | (apply runk0 rfl rfl (opok_assign rfl ?_) ?_; rotate_left 1; (· (conv => (lhs; whnf)))) | (apply runk_alloc rfl rfl rfl ?_ ?_ ?_; rotate_left 2; (· (conv => (lhs; whnf; arg 1; whnf))); (· (conv => (lhs; whnf)))) | (apply runk_store rfl rfl rfl ?_ ?_ ?_ ?_ ?_ ?_ ?_ ?_ ?_ ?_ ?_; rotate_left 9; (· (conv => (lhs; whnf))); (· (conv => (lhs; whnf))); (· (conv => (lhs; whnf; arg 1; whnf; arg 2; whnf))); (· rfl); (· (conv => (lhs; whnf))); (· rfl); (· (unfold sizeIs; conv => (lhs; whnf; arg 1; whnf))); (· rfl); (· rfl); (· (conv => (lhs; repeat (whnf; arg 2))))) | refine runk_end (by kernel_rfl) ?_ | (apply runk0 rfl rfl (opok_loadRA2 rfl ?_ ?_ ?_ ?_) ?_; rotate_left 2; (· (conv => (lhs; whnf))); (· rfl); (· (unfold sizeIs; conv => (lhs; whnf; arg 1; whnf))); (· rfl))))
              generalize k = k8
              refine awp_to (fun _ : Unit => ⟨[(7, .val (.int .i64 (i : Int))), (8, .ptr 8 k8 0), (6, .val (.int .i64 (m : Int))), (25, .val (.int .i64 (N : Int))), (26, .val (.int .i64 (m : Int))), (30, .ro (ls.map lkA)), (31, .val (.int .i64 (ls.length : Int))), (32, .val (.int .i64 (i : Int))), (5, .own 5 kq (ints .i64 (R)).length), (2, .rref [.val (.int .i64 (N : Int)), .ro (ls.map lkA), .ro (bls dn), .ro (bls dd)]), (1, .val (.int .i64 (tn : Int)))], [(8, some (k8, .box 50 [.val (.int .i64 (a : Int)), .val (.int .i64 (b : Int)), .val (.int .i64 c)])), (5, some (kq, .row 3 1 (ints .i64 (R))))]⟩) ?_ fun _ => ?_
              · (repeat (first | refine awp_reg_seq rfl fun k => ?_ | refine awp_false rfl ?_ | (apply runk_pure rfl rfl rfl ?_ ?_ ?_ ?_ ?_ ?_ ?_ ?_; rotate_left 6; (· (conv => (lhs; whnf))); (· exact Try.func21); (· rfl); (· rfl); (· exact (c1)); (· (repeat (first | exact Rens.nil | (refine Rens.cons ?_ ?_; (· first | exact Ren.own _ _ _ _ _ _ rfl List.mem_cons_self | exact Ren.own _ _ _ _ _ _ rfl (List.mem_cons_of_mem _ List.mem_cons_self) | (refine (Ren.own _ _ _ _ _ _ ?_ List.mem_cons_self); first | rfl | (simp; done)) | (refine (Ren.own _ _ _ _ _ _ ?_ (List.mem_cons_of_mem _ List.mem_cons_self)); first | rfl | (simp; done)) | exact Ren.ptr _ _ _ _ _ List.mem_cons_self | (refine Ren.pureR ?_ rfl; (first | rfl | (simp; done) | (simp [AVal.pure, AVal.pures, AObj.pure]; done)))))))); (· first | rfl | (simp; done) | simp [AVal.pure, AVal.pures, AObj.pure])) | (apply runk0 rfl rfl (opok_move rfl ?_) ?_; rotate_left 1; (· (conv => (lhs; whnf)))) | (apply runk0 rfl rfl (opok_un rfl ?_ ?_) ?_; rotate_left 2; (· (conv => (lhs; whnf))); (· (intro w; go_simp; first | done | rfl))) | refine runk_end (by kernel_rfl) ?_ | (apply runk0 rfl rfl (opok_loadRA2 rfl ?_ ?_ ?_ ?_) ?_; rotate_left 2; (· (conv => (lhs; whnf))); (· rfl); (· (unfold sizeIs; conv => (lhs; whnf; arg 1; whnf))); (· rfl))))
                refine awp_skip ?_
                refine ⟨(), ?_⟩
                (refine leB_of ?_ ?_; (· (repeat (first | exact EnvIs.nil | (refine EnvIs.cons ?_ ?_; (· first | rfl | ((conv => (lhs; whnf)); first | (simp [ints]; done) | (simp [ints]; omega))))))); (· (repeat (first | exact ObjsAre.nil | (refine ObjsAre.cons ?_ ?_; (· first | rfl | ((conv => (lhs; whnf)); first | (simp [ints]; done) | (simp [ints]; omega))))))))
              clear c1 hw
              have hR1 : (rx1 (m : Int) a b R).length = N := by rw [rx1_len, hR]
              refine awp_to (fun _ : Unit => ⟨[(7, .val (.int .i64 (i : Int))), (8, .ptr 8 k8 0), (6, .val (.int .i64 (m : Int))), (25, .val (.int .i64 (N : Int))), (26, .val (.int .i64 (m : Int))), (30, .ro (ls.map lkA)), (31, .val (.int .i64 (ls.length : Int))), (32, .val (.int .i64 (i : Int))), (5, .own 5 kq (ints .i64 (rx1 (m : Int) a b R)).length), (2, .rref [.val (.int .i64 (N : Int)), .ro (ls.map lkA), .ro (bls dn), .ro (bls dd)]), (1, .val (.int .i64 (tn : Int)))], [(8, some (k8, .box 50 [.val (.int .i64 (a : Int)), .val (.int .i64 (b : Int)), .val (.int .i64 c)])), (5, some (kq, .row 3 1 (ints .i64 (rx1 (m : Int) a b R))))]⟩) ?_ fun _ => ?_
              · have hxa : (ints .i64 R)[a]? = some (.val (.int .i64 (R.getD a 0))) := ints_getD .i64 R a (by omega)
                have hxb : (ints .i64 R)[b]? = some (.val (.int .i64 (R.getD b 0))) := ints_getD .i64 R b (by omega)
                unfold rx1
                clear eT hR1
                generalize R.getD a 0 = va at *
                generalize R.getD b 0 = vb at *
                cases q1 : (va == (m : Int)) with
                | true =>
                  cases q2 : decide (vb < 0) with
                  | true =>
                    (repeat (first | refine awp_reg_seq rfl fun k => ?_ | refine awp_reg rfl fun k => ?_ | refine awp_true rfl ?_ | refine awp_isF rfl (by assumption) ?_ | (first | refine runk_ung rfl rfl rfl rfl ?_ | refine runk_ung rfl rfl rfl (by assumption) ?_) | (apply runk0 rfl rfl (opok_move rfl ?_) ?_; rotate_left 1; (· (conv => (lhs; whnf)))) | (apply runk_fa rfl rfl rfl ?_ rfl rfl ?_ ?_ ?_ ?_; rotate_left 5; (· (conv => (lhs; whnf))); (· (unfold sizeIs; conv => (lhs; whnf; arg 1; whnf))); (· rfl); (· (conv => (lhs; whnf)))) | (first | (apply runk0 rfl rfl (opok_load rfl ?_ ?_ ?_ ?_) ?_; rotate_left 5; (· (conv => (lhs; whnf))); (· (conv => (lhs; whnf; arg 1; whnf; arg 2; whnf))); (· rfl); (· (conv => (lhs; whnf; arg 1; whnf)))) | (apply runk0 rfl rfl (opok_loadR rfl ?_ ?_ ?_) ?_; rotate_left 2; (· (conv => (lhs; whnf))); (· rfl); (· (conv => (lhs; whnf; arg 1; whnf))))) | (apply runk0 rfl rfl (opok_bin rfl ?_ ?_ ?_) ?_; rotate_left 3; (· (conv => (lhs; whnf))); (· (conv => (lhs; whnf))); (· (intro w; go_simp; first | done | rfl))) | (apply runk0 rfl rfl (opok_pick rfl ?_ ?_) ?_; rotate_left 2; (· (conv => (lhs; whnf))); (· first | exact pick_or | exact pick_and | (conv => (lhs; whnf)))) | (apply runk0 rfl rfl (opok_index_own rfl ?_ ?_ ?_ ?_ ?_ ?_ ?_ ?_) ?_; rotate_left 10; (· (conv => (lhs; whnf))); (· (conv => (lhs; whnf; arg 1; whnf; arg 2; whnf))); (· (conv => (lhs; whnf))); (· (conv => (lhs; whnf; arg 1; whnf))); (· (unfold sizeIs; conv => (lhs; whnf; arg 1; whnf))); (· first | omega | (simp; done) | (simp; omega)); (· first | omega | (simp; done) | (simp; omega)); (· first | rfl | (simp; done) | (simp; omega))) | refine runk_end (by kernel_rfl) ?_ | (apply runk0 rfl rfl (opok_elem _ rfl ?_ ?_ ?_ ?_ ?_ ?_ ?_ ?_) ?_; rotate_left 8; (· (conv => (lhs; whnf))); (· (conv => (lhs; whnf; arg 1; whnf; arg 2; whnf))); (· rfl); (· rfl); (· first | rfl | exact widths_ints _ _ | simp [widths, AVal.flat]); (· rfl); (· first | assumption | (simp only [Int.toNat_natCast]; assumption) | (simp only [Int.reduceToNat]; assumption)); (· rfl)) | (apply runk_setN rfl rfl rfl ?_ ?_ ?_ ?_ ?_ ?_ ?_; rotate_left 8; (· (conv => (lhs; whnf))); (· (conv => (lhs; whnf))); (· rfl); (· (unfold sizeIs; conv => (lhs; whnf; arg 1; whnf))); (· first | (simp only [Int.toNat_natCast, Nat.mul_one, Int.reduceToNat]; done) | (simp only [Int.toNat_natCast, Nat.mul_one, Int.reduceToNat]; rfl) | rfl); (· first | omega | (simp; done) | (simp; omega)))))
                    refine ⟨(), ?_⟩
                    (refine leB_of ?_ ?_; (· (repeat (first | exact EnvIs.nil | (refine EnvIs.cons ?_ ?_; (· first | rfl | ((conv => (lhs; whnf)); first | (simp [ints, List.map_set]; done) | (simp [ints, List.map_set]; omega))))))); (· (repeat (first | exact ObjsAre.nil | (refine ObjsAre.cons ?_ ?_; (· first | rfl | ((conv => (lhs; whnf)); first | (simp [ints, List.map_set]; done) | (simp [ints, List.map_set]; omega))))))))
                  | false =>
                    (repeat (first | refine awp_reg_seq rfl fun k => ?_ | refine awp_false rfl ?_ | refine awp_isF rfl (by assumption) ?_ | (first | refine runk_ung rfl rfl rfl rfl ?_ | refine runk_ung rfl rfl rfl (by assumption) ?_) | (apply runk0 rfl rfl (opok_move rfl ?_) ?_; rotate_left 1; (· (conv => (lhs; whnf)))) | (apply runk_fa rfl rfl rfl ?_ rfl rfl ?_ ?_ ?_ ?_; rotate_left 5; (· (conv => (lhs; whnf))); (· (unfold sizeIs; conv => (lhs; whnf; arg 1; whnf))); (· rfl); (· (conv => (lhs; whnf)))) | (first | (apply runk0 rfl rfl (opok_load rfl ?_ ?_ ?_ ?_) ?_; rotate_left 5; (· (conv => (lhs; whnf))); (· (conv => (lhs; whnf; arg 1; whnf; arg 2; whnf))); (· rfl); (· (conv => (lhs; whnf; arg 1; whnf)))) | (apply runk0 rfl rfl (opok_loadR rfl ?_ ?_ ?_) ?_; rotate_left 2; (· (conv => (lhs; whnf))); (· rfl); (· (conv => (lhs; whnf; arg 1; whnf))))) | (apply runk0 rfl rfl (opok_bin rfl ?_ ?_ ?_) ?_; rotate_left 3; (· (conv => (lhs; whnf))); (· (conv => (lhs; whnf))); (· (intro w; go_simp; first | done | rfl))) | (apply runk0 rfl rfl (opok_pick rfl ?_ ?_) ?_; rotate_left 2; (· (conv => (lhs; whnf))); (· first | exact pick_or | exact pick_and | (conv => (lhs; whnf)))) | (apply runk0 rfl rfl (opok_index_own rfl ?_ ?_ ?_ ?_ ?_ ?_ ?_ ?_) ?_; rotate_left 10; (· (conv => (lhs; whnf))); (· (conv => (lhs; whnf; arg 1; whnf; arg 2; whnf))); (· (conv => (lhs; whnf))); (· (conv => (lhs; whnf; arg 1; whnf))); (· (unfold sizeIs; conv => (lhs; whnf; arg 1; whnf))); (· first | omega | (simp; done) | (simp; omega)); (· first | omega | (simp; done) | (simp; omega)); (· first | rfl | (simp; done) | (simp; omega))) | refine runk_end (by kernel_rfl) ?_ | (apply runk0 rfl rfl (opok_elem _ rfl ?_ ?_ ?_ ?_ ?_ ?_ ?_ ?_) ?_; rotate_left 8; (· (conv => (lhs; whnf))); (· (conv => (lhs; whnf; arg 1; whnf; arg 2; whnf))); (· rfl); (· rfl); (· first | rfl | exact widths_ints _ _ | simp [widths, AVal.flat]); (· rfl); (· first | assumption | (simp only [Int.toNat_natCast]; assumption) | (simp only [Int.reduceToNat]; assumption)); (· rfl))))
                    refine awp_skip ?_
                    refine ⟨(), ?_⟩
                    (refine leB_of ?_ ?_; (· (repeat (first | exact EnvIs.nil | (refine EnvIs.cons ?_ ?_; (· first | rfl | ((conv => (lhs; whnf)); first | (simp [ints]; done) | (simp [ints]; omega))))))); (· (repeat (first | exact ObjsAre.nil | (refine ObjsAre.cons ?_ ?_; (· first | rfl | ((conv => (lhs; whnf)); first | (simp [ints]; done) | (simp [ints]; omega))))))))
                | false =>
                  (repeat (first | refine awp_reg_seq rfl fun k => ?_ | refine awp_false rfl ?_ | refine awp_isF rfl (by assumption) ?_ | (first | refine runk_off rfl rfl rfl rfl rfl ?_ | refine runk_off rfl rfl rfl (by assumption) rfl ?_ | refine runk_offN rfl rfl rfl rfl rfl ?_ | refine runk_offU rfl rfl rfl rfl ?_ | refine runk_offUN rfl rfl rfl rfl ?_) | (apply runk0 rfl rfl (opok_move rfl ?_) ?_; rotate_left 1; (· (conv => (lhs; whnf)))) | (apply runk_fa rfl rfl rfl ?_ rfl rfl ?_ ?_ ?_ ?_; rotate_left 5; (· (conv => (lhs; whnf))); (· (unfold sizeIs; conv => (lhs; whnf; arg 1; whnf))); (· rfl); (· (conv => (lhs; whnf)))) | (first | (apply runk0 rfl rfl (opok_load rfl ?_ ?_ ?_ ?_) ?_; rotate_left 5; (· (conv => (lhs; whnf))); (· (conv => (lhs; whnf; arg 1; whnf; arg 2; whnf))); (· rfl); (· (conv => (lhs; whnf; arg 1; whnf)))) | (apply runk0 rfl rfl (opok_loadR rfl ?_ ?_ ?_) ?_; rotate_left 2; (· (conv => (lhs; whnf))); (· rfl); (· (conv => (lhs; whnf; arg 1; whnf))))) | (apply runk0 rfl rfl (opok_bin rfl ?_ ?_ ?_) ?_; rotate_left 3; (· (conv => (lhs; whnf))); (· (conv => (lhs; whnf))); (· (intro w; go_simp; first | done | rfl))) | (apply runk0 rfl rfl (opok_pick rfl ?_ ?_) ?_; rotate_left 2; (· (conv => (lhs; whnf))); (· first | exact pick_or | exact pick_and | (conv => (lhs; whnf)))) | (apply runk0 rfl rfl (opok_index_own rfl ?_ ?_ ?_ ?_ ?_ ?_ ?_ ?_) ?_; rotate_left 10; (· (conv => (lhs; whnf))); (· (conv => (lhs; whnf; arg 1; whnf; arg 2; whnf))); (· (conv => (lhs; whnf))); (· (conv => (lhs; whnf; arg 1; whnf))); (· (unfold sizeIs; conv => (lhs; whnf; arg 1; whnf))); (· first | omega | (simp; done) | (simp; omega)); (· first | omega | (simp; done) | (simp; omega)); (· first | rfl | (simp; done) | (simp; omega))) | refine runk_end (by kernel_rfl) ?_ | (apply runk0 rfl rfl (opok_elem _ rfl ?_ ?_ ?_ ?_ ?_ ?_ ?_ ?_) ?_; rotate_left 8; (· (conv => (lhs; whnf))); (· (conv => (lhs; whnf; arg 1; whnf; arg 2; whnf))); (· rfl); (· rfl); (· first | rfl | exact widths_ints _ _ | simp [widths, AVal.flat]); (· rfl); (· first | assumption | (simp only [Int.toNat_natCast]; assumption) | (simp only [Int.reduceToNat]; assumption)); (· rfl))))
                  refine awp_skip ?_
                  refine ⟨(), ?_⟩
                  (refine leB_of ?_ ?_; (· (repeat (first | exact EnvIs.nil | (refine EnvIs.cons ?_ ?_; (· first | rfl | ((conv => (lhs; whnf)); first | (simp [ints]; done) | (simp [ints]; omega))))))); (· (repeat (first | exact ObjsAre.nil | (refine ObjsAre.cons ?_ ?_; (· first | rfl | ((conv => (lhs; whnf)); first | (simp [ints]; done) | (simp [ints]; omega))))))))
              unfold rx at eT
              generalize rx1 (m : Int) a b R = G at *
              have hxa : (ints .i64 G)[b]? = some (.val (.int .i64 (G.getD b 0))) := ints_getD .i64 G b (by omega)
              have hxb : (ints .i64 G)[a]? = some (.val (.int .i64 (G.getD a 0))) := ints_getD .i64 G a (by omega)
              unfold rx1 at eT
              generalize G.getD b 0 = va at *
              generalize G.getD a 0 = vb at *
              cases q1 : (va == (m : Int)) with
              | true =>
                cases q2 : decide (vb < 0) with
                | true =>
                  rw [q1, q2] at eT
                  simp only [Bool.and_self, cond_true] at eT
                  (repeat (first | refine awp_reg_seq rfl fun k => ?_ | refine awp_reg rfl fun k => ?_ | refine awp_true rfl ?_ | refine awp_isF rfl (by assumption) ?_ | (first | refine runk_ung rfl rfl rfl rfl ?_ | refine runk_ung rfl rfl rfl (by assumption) ?_) | (apply runk0 rfl rfl (opok_move rfl ?_) ?_; rotate_left 1; (· (conv => (lhs; whnf)))) | (apply runk_fa rfl rfl rfl ?_ rfl rfl ?_ ?_ ?_ ?_; rotate_left 5; (· (conv => (lhs; whnf))); (· (unfold sizeIs; conv => (lhs; whnf; arg 1; whnf))); (· rfl); (· (conv => (lhs; whnf)))) | (first | (apply runk0 rfl rfl (opok_load rfl ?_ ?_ ?_ ?_) ?_; rotate_left 5; (· (conv => (lhs; whnf))); (· (conv => (lhs; whnf; arg 1; whnf; arg 2; whnf))); (· rfl); (· (conv => (lhs; whnf; arg 1; whnf)))) | (apply runk0 rfl rfl (opok_loadR rfl ?_ ?_ ?_) ?_; rotate_left 2; (· (conv => (lhs; whnf))); (· rfl); (· (conv => (lhs; whnf; arg 1; whnf))))) | (apply runk0 rfl rfl (opok_bin rfl ?_ ?_ ?_) ?_; rotate_left 3; (· (conv => (lhs; whnf))); (· (conv => (lhs; whnf))); (· (intro w; go_simp; first | done | rfl))) | (apply runk0 rfl rfl (opok_pick rfl ?_ ?_) ?_; rotate_left 2; (· (conv => (lhs; whnf))); (· first | exact pick_or | exact pick_and | (conv => (lhs; whnf)))) | (apply runk0 rfl rfl (opok_index_own rfl ?_ ?_ ?_ ?_ ?_ ?_ ?_ ?_) ?_; rotate_left 10; (· (conv => (lhs; whnf))); (· (conv => (lhs; whnf; arg 1; whnf; arg 2; whnf))); (· (conv => (lhs; whnf))); (· (conv => (lhs; whnf; arg 1; whnf))); (· (unfold sizeIs; conv => (lhs; whnf; arg 1; whnf))); (· first | omega | (simp; done) | (simp; omega)); (· first | omega | (simp; done) | (simp; omega)); (· first | rfl | (simp; done) | (simp; omega))) | refine runk_end (by kernel_rfl) ?_ | (apply runk0 rfl rfl (opok_elem _ rfl ?_ ?_ ?_ ?_ ?_ ?_ ?_ ?_) ?_; rotate_left 8; (· (conv => (lhs; whnf))); (· (conv => (lhs; whnf; arg 1; whnf; arg 2; whnf))); (· rfl); (· rfl); (· first | rfl | exact widths_ints _ _ | simp [widths, AVal.flat]); (· rfl); (· first | assumption | (simp only [Int.toNat_natCast]; assumption) | (simp only [Int.reduceToNat]; assumption)); (· rfl)) | (apply runk_setN rfl rfl rfl ?_ ?_ ?_ ?_ ?_ ?_ ?_; rotate_left 8; (· (conv => (lhs; whnf))); (· (conv => (lhs; whnf))); (· rfl); (· (unfold sizeIs; conv => (lhs; whnf; arg 1; whnf))); (· first | (simp only [Int.toNat_natCast, Nat.mul_one, Int.reduceToNat]; done) | (simp only [Int.toNat_natCast, Nat.mul_one, Int.reduceToNat]; rfl) | rfl); (· first | omega | (simp; done) | (simp; omega)))))
                  refine ⟨n2 - 1, by omega, i + 1, kq, by omega, ?_⟩
                  rw [hY, eT]
                  (refine leB_of ?_ ?_; (· (repeat (first | exact EnvIs.nil | (refine EnvIs.cons ?_ ?_; (· first | rfl | ((conv => (lhs; whnf)); first | (simp [ints, List.map_set]; done) | (simp [ints, List.map_set]; omega))))))); (· (repeat (first | exact ObjsAre.nil | (refine ObjsAre.cons ?_ ?_; (· first | rfl | ((conv => (lhs; whnf)); first | (simp [ints, List.map_set]; done) | (simp [ints, List.map_set]; omega))))))))
                | false =>
                  rw [q1, q2] at eT
                  simp only [Bool.and_false, cond_false] at eT
                  (repeat (first | refine awp_reg_seq rfl fun k => ?_ | refine awp_reg rfl fun k => ?_ | refine awp_false rfl ?_ | refine awp_isF rfl (by assumption) ?_ | refine awp_skip (?_ : Awp _ _ _ _ _ _) | (first | refine runk_ung rfl rfl rfl rfl ?_ | refine runk_ung rfl rfl rfl (by assumption) ?_) | (apply runk0 rfl rfl (opok_move rfl ?_) ?_; rotate_left 1; (· (conv => (lhs; whnf)))) | (apply runk_fa rfl rfl rfl ?_ rfl rfl ?_ ?_ ?_ ?_; rotate_left 5; (· (conv => (lhs; whnf))); (· (unfold sizeIs; conv => (lhs; whnf; arg 1; whnf))); (· rfl); (· (conv => (lhs; whnf)))) | (first | (apply runk0 rfl rfl (opok_load rfl ?_ ?_ ?_ ?_) ?_; rotate_left 5; (· (conv => (lhs; whnf))); (· (conv => (lhs; whnf; arg 1; whnf; arg 2; whnf))); (· rfl); (· (conv => (lhs; whnf; arg 1; whnf)))) | (apply runk0 rfl rfl (opok_loadR rfl ?_ ?_ ?_) ?_; rotate_left 2; (· (conv => (lhs; whnf))); (· rfl); (· (conv => (lhs; whnf; arg 1; whnf))))) | (apply runk0 rfl rfl (opok_bin rfl ?_ ?_ ?_) ?_; rotate_left 3; (· (conv => (lhs; whnf))); (· (conv => (lhs; whnf))); (· (intro w; go_simp; first | done | rfl))) | (apply runk0 rfl rfl (opok_pick rfl ?_ ?_) ?_; rotate_left 2; (· (conv => (lhs; whnf))); (· first | exact pick_or | exact pick_and | (conv => (lhs; whnf)))) | (apply runk0 rfl rfl (opok_index_own rfl ?_ ?_ ?_ ?_ ?_ ?_ ?_ ?_) ?_; rotate_left 10; (· (conv => (lhs; whnf))); (· (conv => (lhs; whnf; arg 1; whnf; arg 2; whnf))); (· (conv => (lhs; whnf))); (· (conv => (lhs; whnf; arg 1; whnf))); (· (unfold sizeIs; conv => (lhs; whnf; arg 1; whnf))); (· first | omega | (simp; done) | (simp; omega)); (· first | omega | (simp; done) | (simp; omega)); (· first | rfl | (simp; done) | (simp; omega))) | refine runk_end (by kernel_rfl) ?_ | (apply runk0 rfl rfl (opok_elem _ rfl ?_ ?_ ?_ ?_ ?_ ?_ ?_ ?_) ?_; rotate_left 8; (· (conv => (lhs; whnf))); (· (conv => (lhs; whnf; arg 1; whnf; arg 2; whnf))); (· rfl); (· rfl); (· first | rfl | exact widths_ints _ _ | simp [widths, AVal.flat]); (· rfl); (· first | assumption | (simp only [Int.toNat_natCast]; assumption) | (simp only [Int.reduceToNat]; assumption)); (· rfl))))
                  refine ⟨n2 - 1, by omega, i + 1, kq, by omega, ?_⟩
                  rw [hY, eT]
                  (refine leB_of ?_ ?_; (· (repeat (first | exact EnvIs.nil | (refine EnvIs.cons ?_ ?_; (· first | rfl | ((conv => (lhs; whnf)); first | (simp [ints]; done) | (simp [ints]; omega))))))); (· (repeat (first | exact ObjsAre.nil | (refine ObjsAre.cons ?_ ?_; (· first | rfl | ((conv => (lhs; whnf)); first | (simp [ints]; done) | (simp [ints]; omega))))))))
              | false =>
                rw [q1] at eT
                simp only [Bool.false_and, cond_false] at eT
                (repeat (first | refine awp_reg_seq rfl fun k => ?_ | refine awp_reg rfl fun k => ?_ | refine awp_false rfl ?_ | refine awp_isF rfl (by assumption) ?_ | refine awp_skip (?_ : Awp _ _ _ _ _ _) | (first | refine runk_off rfl rfl rfl rfl rfl ?_ | refine runk_off rfl rfl rfl (by assumption) rfl ?_ | refine runk_offN rfl rfl rfl rfl rfl ?_ | refine runk_offU rfl rfl rfl rfl ?_ | refine runk_offUN rfl rfl rfl rfl ?_) | (apply runk0 rfl rfl (opok_move rfl ?_) ?_; rotate_left 1; (· (conv => (lhs; whnf)))) | (apply runk_fa rfl rfl rfl ?_ rfl rfl ?_ ?_ ?_ ?_; rotate_left 5; (· (conv => (lhs; whnf))); (· (unfold sizeIs; conv => (lhs; whnf; arg 1; whnf))); (· rfl); (· (conv => (lhs; whnf)))) | (first | (apply runk0 rfl rfl (opok_load rfl ?_ ?_ ?_ ?_) ?_; rotate_left 5; (· (conv => (lhs; whnf))); (· (conv => (lhs; whnf; arg 1; whnf; arg 2; whnf))); (· rfl); (· (conv => (lhs; whnf; arg 1; whnf)))) | (apply runk0 rfl rfl (opok_loadR rfl ?_ ?_ ?_) ?_; rotate_left 2; (· (conv => (lhs; whnf))); (· rfl); (· (conv => (lhs; whnf; arg 1; whnf))))) | (apply runk0 rfl rfl (opok_bin rfl ?_ ?_ ?_) ?_; rotate_left 3; (· (conv => (lhs; whnf))); (· (conv => (lhs; whnf))); (· (intro w; go_simp; first | done | rfl))) | (apply runk0 rfl rfl (opok_pick rfl ?_ ?_) ?_; rotate_left 2; (· (conv => (lhs; whnf))); (· first | exact pick_or | exact pick_and | (conv => (lhs; whnf)))) | (apply runk0 rfl rfl (opok_index_own rfl ?_ ?_ ?_ ?_ ?_ ?_ ?_ ?_) ?_; rotate_left 10; (· (conv => (lhs; whnf))); (· (conv => (lhs; whnf; arg 1; whnf; arg 2; whnf))); (· (conv => (lhs; whnf))); (· (conv => (lhs; whnf; arg 1; whnf))); (· (unfold sizeIs; conv => (lhs; whnf; arg 1; whnf))); (· first | omega | (simp; done) | (simp; omega)); (· first | omega | (simp; done) | (simp; omega)); (· first | rfl | (simp; done) | (simp; omega))) | refine runk_end (by kernel_rfl) ?_ | (apply runk0 rfl rfl (opok_elem _ rfl ?_ ?_ ?_ ?_ ?_ ?_ ?_ ?_) ?_; rotate_left 8; (· (conv => (lhs; whnf))); (· (conv => (lhs; whnf; arg 1; whnf; arg 2; whnf))); (· rfl); (· rfl); (· first | rfl | exact widths_ints _ _ | simp [widths, AVal.flat]); (· rfl); (· first | assumption | (simp only [Int.toNat_natCast]; assumption) | (simp only [Int.reduceToNat]; assumption)); (· rfl))))
                refine ⟨n2 - 1, by omega, i + 1, kq, by omega, ?_⟩
                rw [hY, eT]
                (refine leB_of ?_ ?_; (· (repeat (first | exact EnvIs.nil | (refine EnvIs.cons ?_ ?_; (· first | rfl | ((conv => (lhs; whnf)); first | (simp [ints]; done) | (simp [ints]; omega))))))); (· (repeat (first | exact ObjsAre.nil | (refine ObjsAre.cons ?_ ?_; (· first | rfl | ((conv => (lhs; whnf)); first | (simp [ints]; done) | (simp [ints]; omega))))))))
          · have hie : i = ls.length := by simp at hc; omega
            subst hie
            clear hc hend hwk sw
            rw [hLE]
            refine awp_exit (?_ : Awp _ _ _ _ _ _)
            (repeat (first | refine awp_reg rfl fun k => ?_ | (apply runk0 rfl rfl (opok_move rfl ?_) ?_; rotate_left 1; (· (conv => (lhs; whnf)))) | (apply runk0 rfl rfl (opok_bin rfl ?_ ?_ ?_) ?_; rotate_left 3; (· (conv => (lhs; whnf))); (· (conv => (lhs; whnf))); (· (intro w; go_simp; first | done | rfl))) | refine runk_end (by kernel_rfl) ?_))
            refine ⟨n - 1, by omega, m + 1, kq, by omega, ?_⟩
            (refine leB_of ?_ ?_; (· (repeat (first | exact EnvIs.nil | (refine EnvIs.cons ?_ ?_; (· first | rfl | ((conv => (lhs; whnf)); first | (simp [ints]; done) | (simp [ints]; omega))))))); (· (repeat (first | exact ObjsAre.nil | (refine ObjsAre.cons ?_ ?_; (· first | rfl | ((conv => (lhs; whnf)); first | (simp [ints]; done) | (simp [ints]; omega))))))))
        · have hie : m = N := by simp at hc; omega
          subst hie
          clear hc hend hwk sw
          refine awp_exit (?_ : Awp _ _ _ _ _ _)
          generalize TN m = R at *
          refine awp_less (st' := ⟨[(5, .own 5 kq (ints .i64 R).length)], [(5, some (kq, .row 3 1 (ints .i64 R)))]⟩) ?_ ?_
          · (refine leB_of ?_ ?_; (· (repeat (first | exact EnvIs.nil | (refine EnvIs.cons ?_ ?_; (· first | rfl | ((conv => (lhs; whnf)); first | (simp [ints]; done) | (simp [ints]; omega))))))); (· (repeat (first | exact ObjsAre.nil | (refine ObjsAre.cons ?_ ?_; (· first | rfl | ((conv => (lhs; whnf)); first | (simp [ints]; done) | (simp [ints]; omega))))))))
          (refine awp_frz 5 kq (ints .i64 R) ([(5, .ro (ints .i64 R))]) ([]) rfl ?_ ?_ ?_; (· (repeat (first | exact EnvFrz.nil | (refine EnvFrz.cons rfl ?_ ?_; (· first | exact .one (.same _) | (refine .one (.own _ ?_); first | rfl | (simp; done) | (simp only [length_ints]; omega)) | (refine .agg ?_; (repeat (first | exact Frzs.nil | (refine Frzs.cons ?_ ?_; (· first | exact Frz1.same _ | (refine Frz1.own _ ?_; first | rfl | (simp; done) | (simp only [length_ints]; omega)) | exact Frz1.any _))))) | (refine .tuple ?_; (repeat (first | exact Frzs.nil | (refine Frzs.cons ?_ ?_; (· first | exact Frz1.same _ | (refine Frz1.own _ ?_; first | rfl | (simp; done) | (simp only [length_ints]; omega)) | exact Frz1.any _)))))))))); (· (repeat (first | exact ObjsFrz.nil | (refine ObjsFrz.cons rfl rfl ?_ ?_; (· first | exact .same _ | (refine .box ?_; (repeat (first | exact Frzs.nil | (refine Frzs.cons ?_ ?_; (· first | exact Frz1.same _ | (refine Frz1.own _ ?_; first | rfl | (simp; done) | (simp only [length_ints]; omega)) | exact Frz1.any _))))) | (refine .row ?_ rfl; (repeat (first | exact Frzs.nil | (refine Frzs.cons ?_ ?_; (· first | exact Frz1.same _ | (refine Frz1.own _ ?_; first | rfl | (simp; done) | (simp only [length_ints]; omega)) | exact Frz1.any _)))))))))))
          (repeat (first | refine awp_reg_seq rfl fun k => ?_ | (refine awp_ret ?_; (apply ends_pure ?_ ?_ ?_ ?_ ?_ (.inl rfl); rotate_left 1; (· first | exact res_one rfl rfl | exact res_two rfl rfl rfl | exact res_none rfl | exact res_three rfl rfl rfl rfl | exact res_cell rfl rfl rfl rfl rfl | exact res_cell2 rfl rfl rfl rfl rfl rfl | exact res3 rfl (rv_cell rfl rfl rfl rfl) (rv_tmp rfl) (rv_tmp rfl) | exact res3 rfl (rv_cell rfl rfl rfl rfl) (rv_cell rfl rfl rfl rfl) (rv_cell rfl rfl rfl rfl)); (· first | rfl | ((conv => (lhs; whnf)); first | rfl | (simp; done))); (· first | rfl | (simp; done) | (simp [AVal.pure, AVal.pures, AObj.pure]; done)); (· rfl); (· rfl))) | (apply runk0 rfl rfl (opok_move rfl ?_) ?_; rotate_left 1; (· (conv => (lhs; whnf)))) | (apply runk0 rfl rfl (opok_assign rfl ?_) ?_; rotate_left 1; (· (conv => (lhs; whnf)))) | refine runk_end (by kernel_rfl) ?_))
end Go.Proofs.Ytpdiainbcekpiaa
