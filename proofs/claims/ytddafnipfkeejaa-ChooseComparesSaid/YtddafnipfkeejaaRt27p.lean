/-
  Layer 27: the routes of one prefix as a row of its own, by states.
-/
import Derived.Test.YtddafnipfkeejaaRt27j
import Derived.Test.YtddafnipfkeejaaAbsX
namespace Go.Proofs.Ytddafnipfkeejaa
open Go.RowKit
set_option maxHeartbeats 64000000 in
set_option maxRecDepth 100000 in
theorem routes2_spec (zs : List Int) (p : Nat) (hz : zs.length ≤ 9223372036854775807) (hp : p ≤ zs.length) : Spec Try.prog 19 [.ptr 0 0 0] [(0, some (0, deckO zs p))] (.own 1000 0 ((rtS zs p 5).1.map rtA).length) [(0, some (0, deckO zs (rtS zs p 5).2)), (1000, some (0, .row 55 16 ((rtS zs p 5).1.map rtA)))] := by
  refine spec_of_awp Try.func19 rfl (Nat.le_of_ble_eq_true rfl) fun ini => ?_
  simp only [Try.ntmps19]
  (repeat (first | refine awp_reg_seq rfl fun k => ?_ | refine awp_seq ?_ | refine awp_block ?_ | (apply runk0 rfl rfl (opok_assign rfl ?_) ?_; rotate_left 1; (· (conv => (lhs; whnf)))) | refine runk_end (by kernel_rfl) ?_))
  refine awp_less (st' := ⟨[(3, .val (.slice none 0 0)), (4, .val (.int .i64 0)), (0, .ptr 0 0 0)], [(0, some (0, deckO zs p))]⟩) ?_ ?_
  · (refine leB_of ?_ ?_; (· (repeat (first | exact EnvIs.nil | (refine EnvIs.cons ?_ ?_; (· first | rfl | ((conv => (lhs; whnf)); first | (simp [ints]; done) | (simp [ints]; omega))))))); (· (repeat (first | exact ObjsAre.nil | (refine ObjsAre.cons ?_ ?_; (· first | rfl | ((conv => (lhs; whnf)); first | (simp [ints]; done) | (simp [ints]; omega))))))))
  refine awp_adopt 3 3 55 16 rfl fun kq => ?_
  refine awp_loop (fun n st => ∃ (j kq : Nat), j + n = 5 ∧ st.leB ⟨[(3, .own 3 kq ((rtS zs p j).1.map rtA).length), (4, .val (.int .i64 (j : Int))), (0, .ptr 0 0 0)], [(0, some (0, deckO zs (rtS zs p j).2)), (3, some (kq, .row 55 16 ((rtS zs p j).1.map rtA)))]⟩) 5 ⟨0, kq, rfl, ?_⟩ ?_
  · (refine leB_of ?_ ?_; (· (repeat (first | exact EnvIs.nil | (refine EnvIs.cons ?_ ?_; (· first | rfl | ((conv => (lhs; whnf)); first | (simp [rtS]; done) | (simp [rtS]; omega))))))); (· (repeat (first | exact ObjsAre.nil | (refine ObjsAre.cons ?_ ?_; (· first | rfl | ((conv => (lhs; whnf)); first | (simp [rtS]; done) | (simp [rtS]; omega))))))))
  · rintro n st ⟨j, kq, hj, hle⟩
    refine awp_less hle ?_
    clear hle st
    have hl := rtS_le zs p hz hp j
    have a1 := next_spec zs (rtS zs p j).2 3 (by decide) (by decide) hz hl.1
    have hl1 := nextP_le zs _ hl.1
    have hr := rtZ_spec zs (nextP zs (rtS zs p j).2) (101 + (j : Int)) hz hl1
    have hl2 := nextP_le zs _ hr.2.2.1
    have a4 := next_spec zs (rtZ zs (nextP zs (rtS zs p j).2) (101 + (j : Int))).2 4 (by decide) (by decide) hz hr.2.2.1
    obtain ⟨r4, s4⟩ := nextV_range zs (rtZ zs (nextP zs (rtS zs p j).2) (101 + (j : Int))).2 4 (by decide)
    obtain ⟨j4, hj4, hj44, hx4⟩ := lit4 _ r4 s4
    clear r4 s4
    have sr := hr.2.2.2
    clear hr
    have eS : rtS zs p (j + 1) = bif decide (0 < nextV zs (rtS zs p j).2 3) then ((rtS zs p j).1 ++ [(rtZ zs (nextP zs (rtS zs p j).2) (101 + (j : Int))).1.put ([-1, -1, 0, 1].getD (nextV zs (rtZ zs (nextP zs (rtS zs p j).2) (101 + (j : Int))).2 4).toNat 0)], nextP zs (rtZ zs (nextP zs (rtS zs p j).2) (101 + (j : Int))).2) else ((rtS zs p j).1, nextP zs (rtS zs p j).2) := rfl
    (repeat (first | refine awp_reg_seq rfl fun k => ?_ | refine awp_seq ?_ | (apply runk0 rfl rfl (opok_move rfl ?_) ?_; rotate_left 1; (· (conv => (lhs; whnf)))) | (apply runk0 rfl rfl (opok_bin rfl ?_ ?_ ?_) ?_; rotate_left 3; (· (conv => (lhs; whnf))); (· (conv => (lhs; whnf))); (· (intro w; go_simp; first | done | rfl))) | refine runk_end (by kernel_rfl) ?_))
    refine awp_if rfl (fun hc => ?_) (fun hc => ?_)
    · have hj5 : j < 5 := by simp at hc; omega
      clear hc
      have hwj : IntKind.i64.wrap ((j : Int) + 1) = ((j + 1 : Nat) : Int) := by rw [IntKind.wrap_i64]; omega
      have hw1 : IntKind.i64.wrap (101 + (j : Int)) = 101 + (j : Int) := by rw [IntKind.wrap_i64]; omega
      have c1 : IntKind.i64.wrap (-1) = -1 := rfl
      obtain ⟨⟨CL, CQ⟩, hC⟩ : ∃ x, rtS zs p j = x := ⟨_, rfl⟩
      rw [hC] at eS hl a1 hl1 hl2 a4 sr hj4 hx4 ⊢
      dsimp only at eS hl a1 hl1 hl2 a4 sr hj4 hx4 ⊢
      generalize hS : rtS zs p (j + 1) = S at *
      have hlen := hl.2
      obtain ⟨⟨R, RQ⟩, hR⟩ : ∃ x, rtZ zs (nextP zs CQ) (101 + (j : Int)) = x := ⟨_, rfl⟩
      rw [hR] at eS hl2 a4 sr hj4 hx4
      dsimp only at eS hl2 a4 sr hj4 hx4
      generalize [-1, -1, 0, 1].getD (nextV zs RQ 4).toNat 0 = m4 at *
      rw [hj4] at a4
      clear hj4
      generalize nextV zs CQ 3 = x1 at *
      generalize nextP zs CQ = y1 at *
      generalize nextP zs RQ = y2 at *
      have eC : (CL ++ [R.put m4]).map rtA = CL.map rtA ++ [.agg (R.put m4).A] := by simp [rtA]
      obtain ⟨v6, hi, lo, len, fr, o, pp, a6, ah, al, med, pref, otc, cs, ls, us⟩ := R
      unfold RK.put RK.A AK.A at eC
      unfold RK.A AK.A at sr
      dsimp only [List.cons_append, List.nil_append] at eC sr
      cases d : decide (0 < x1) with
      | true =>
        rw [d] at eS
        simp only [cond_true] at eS
        (repeat (first | refine awp_reg_seq rfl fun k => ?_ | refine awp_reg rfl fun k => ?_ | refine awp_seq ?_ | refine awp_true rfl ?_ | refine awp_isF rfl (by assumption) ?_ | refine awp_skip (?_ : Awp _ _ _ _ _ _) | refine awp_block ?_ | (apply runk_with rfl rfl rfl ?_ ?_ ?_ ?_ ?_ ?_ ?_ ?_ ?_ ?_ ?_; rotate_left 10; (· (conv => (lhs; whnf))); (· exact Try.func31); (· rfl); (· rfl); (· exact (a1)); (· (repeat (first | exact Rens.nil | (refine Rens.cons ?_ ?_; (· first | exact Ren.own _ _ _ _ _ _ rfl List.mem_cons_self | exact Ren.own _ _ _ _ _ _ rfl (List.mem_cons_of_mem _ List.mem_cons_self) | (refine (Ren.own _ _ _ _ _ _ ?_ List.mem_cons_self); first | rfl | (simp; done)) | (refine (Ren.own _ _ _ _ _ _ ?_ (List.mem_cons_of_mem _ List.mem_cons_self)); first | rfl | (simp; done)) | exact Ren.ptr _ _ _ _ _ List.mem_cons_self | (refine Ren.pureR ?_ rfl; (first | rfl | (simp; done) | (simp [AVal.pure, AVal.pures, AObj.pure]; done)))))))); (· rfl); (· first | rfl | (simp; done) | simp [AVal.pure, AVal.pures, AObj.pure]); (· first | rfl | (simp; done) | simp [AVal.pure, AVal.pures, AObj.pure]); (· first | rfl | (simp; done) | simp [AVal.pure, AVal.pures, AObj.pure])) | (apply runk_with rfl rfl rfl ?_ ?_ ?_ ?_ ?_ ?_ ?_ ?_ ?_ ?_ ?_; rotate_left 10; (· (conv => (lhs; whnf))); (· exact Try.func31); (· rfl); (· rfl); (· exact (a4)); (· (repeat (first | exact Rens.nil | (refine Rens.cons ?_ ?_; (· first | exact Ren.own _ _ _ _ _ _ rfl List.mem_cons_self | exact Ren.own _ _ _ _ _ _ rfl (List.mem_cons_of_mem _ List.mem_cons_self) | (refine (Ren.own _ _ _ _ _ _ ?_ List.mem_cons_self); first | rfl | (simp; done)) | (refine (Ren.own _ _ _ _ _ _ ?_ (List.mem_cons_of_mem _ List.mem_cons_self)); first | rfl | (simp; done)) | exact Ren.ptr _ _ _ _ _ List.mem_cons_self | (refine Ren.pureR ?_ rfl; (first | rfl | (simp; done) | (simp [AVal.pure, AVal.pures, AObj.pure]; done)))))))); (· rfl); (· first | rfl | (simp; done) | simp [AVal.pure, AVal.pures, AObj.pure]); (· first | rfl | (simp; done) | simp [AVal.pure, AVal.pures, AObj.pure]); (· first | rfl | (simp; done) | simp [AVal.pure, AVal.pures, AObj.pure])) | (apply runk_with rfl rfl rfl ?_ ?_ ?_ ?_ ?_ ?_ ?_ ?_ ?_ ?_ ?_; rotate_left 10; (· (conv => (lhs; whnf))); (· exact Try.func20); (· rfl); (· rfl); (· exact (sr)); (· (repeat (first | exact Rens.nil | (refine Rens.cons ?_ ?_; (· first | exact Ren.own _ _ _ _ _ _ rfl List.mem_cons_self | exact Ren.own _ _ _ _ _ _ rfl (List.mem_cons_of_mem _ List.mem_cons_self) | (refine (Ren.own _ _ _ _ _ _ ?_ List.mem_cons_self); first | rfl | (simp; done)) | (refine (Ren.own _ _ _ _ _ _ ?_ (List.mem_cons_of_mem _ List.mem_cons_self)); first | rfl | (simp; done)) | exact Ren.ptr _ _ _ _ _ List.mem_cons_self | (refine Ren.pureR ?_ rfl; (first | rfl | (simp; done) | (simp [AVal.pure, AVal.pures, AObj.pure]; done)))))))); (· rfl); (· first | rfl | (simp; done) | simp [AVal.pure, AVal.pures, AObj.pure]); (· first | rfl | (simp; done) | simp [AVal.pure, AVal.pures, AObj.pure]); (· first | rfl | (simp; done) | simp [AVal.pure, AVal.pures, AObj.pure])) | (((apply runk_appW rfl rfl rfl ?_ ?_ ?_ ?_ ?_ ?_ ?_ ?_ ?_ ?_ ?_ ?_ ?_ ?_ ?_ ?_; rotate_left 11; (· (conv => (lhs; whnf))); (· (conv => (lhs; whnf))); (· (conv => (lhs; whnf; arg 1; whnf))); (· (unfold sizeIs; conv => (lhs; whnf; arg 1; whnf))); (· (conv => (lhs; whnf; arg 1; whnf))); (· (conv => (lhs; whnf; arg 1; whnf))); (· rfl); (· rfl); (· rfl); (· first | exact .nil | (refine .own _ _ _ _ rfl ?_; first | rfl | (simp; done)) | (refine .pre _ _ _ _ rfl ?_ ?_; (· first | omega | (simp; done) | (simp; omega)); (· first | exact widths_ints _ _ | rfl | (simp; done)))); (· first | exact .ro _ | (refine .own _ _ _ _ _ _ rfl ?_; first | rfl | (simp; done)) | exact .nil | (refine .pre _ _ _ _ _ _ rfl ?_ ?_; (· first | omega | (simp; done) | (simp; omega)); (· first | exact widths_ints _ _ | rfl | (simp; done))) | (refine .sub _ _ _ _ _ _ _ rfl ?_ ?_; (· first | omega | (simp; done) | (simp; omega)); (· first | exact widths_ints _ _ | rfl | (simp; done)))); (· first | rfl | exact one_ints _ _ | exact widths_ints _ _ | simp); (· first | rfl | exact one_ints _ _ | exact widths_ints _ _ | simp); (· first | omega | (simp; done) | (simp; omega)); (· first | (simp only [ints_one, ints_consR, ints_append]; done) | (simp only [ints_one, ints_consR, ints_append]; rfl) | rfl)))) | (apply runk0 rfl rfl (opok_move rfl ?_) ?_; rotate_left 1; (· (conv => (lhs; whnf)))) | (apply runk_assignOwn rfl rfl rfl ?_ ?_ ?_; rotate_left 4; (· (conv => (lhs; whnf))); (· (conv => (lhs; whnf; arg 1; whnf)))) | (apply runk0 rfl rfl (opok_assign rfl ?_) ?_; rotate_left 1; (· (conv => (lhs; whnf)))) | (apply runk_fa rfl rfl rfl ?_ rfl rfl ?_ ?_ ?_ ?_; rotate_left 5; (· (conv => (lhs; whnf))); (· (unfold sizeIs; conv => (lhs; whnf; arg 1; whnf))); (· rfl); (· (conv => (lhs; whnf)))) | (apply runk0 rfl rfl (opok_loadA rfl ?_ ?_ ?_ ?_ ?_ ?_) ?_; rotate_left 6; (· (conv => (lhs; whnf))); (· (conv => (lhs; whnf; arg 1; whnf; arg 2; whnf))); (· rfl); (· (unfold sizeIs; conv => (lhs; whnf; arg 1; whnf))); (· (conv => (lhs; repeat (whnf; arg 2)))); (· rfl)) | (apply runk0 rfl rfl (opok_bin rfl ?_ ?_ ?_) ?_; rotate_left 3; (· (conv => (lhs; whnf))); (· (conv => (lhs; whnf))); (· (intro w; go_simp; first | done | rfl))) | (apply runk0 rfl rfl (opok_index_own rfl ?_ ?_ ?_ ?_ ?_ ?_ ?_ ?_) ?_; rotate_left 10; (· (conv => (lhs; whnf))); (· (conv => (lhs; whnf; arg 1; whnf; arg 2; whnf))); (· (conv => (lhs; whnf))); (· (conv => (lhs; whnf; arg 1; whnf))); (· (unfold sizeIs; conv => (lhs; whnf; arg 1; whnf))); (· first | omega | (simp; done) | (simp; omega)); (· first | omega | (simp; done) | (simp; omega)); (· first | rfl | (simp; done) | (simp; omega))) | (apply runk_lit rfl rfl rfl ?_ ?_ ?_ ?_ ?_ ?_ ?_ ?_ ?_ ?_ ?_; rotate_left 4; (· (conv => (lhs; whnf; arg 1; whnf))); (· (unfold sizeIs; conv => (lhs; whnf; arg 1; whnf))); (· (conv => (lhs; whnf; arg 1; whnf))); (· rfl); (· rfl); (· rfl); (· rfl); (· (repeat (first | exact PartsAre.nil _ | (apply PartsAre.cons; (· (conv => (lhs; whnf))))))); (· first | rfl | exact one_ints _ _ | exact widths_ints _ _ | simp); (· first | rfl | exact one_ints _ _ | exact widths_ints _ _ | simp)) | (apply runk_alloc rfl rfl rfl ?_ ?_ ?_; rotate_left 2; (· (conv => (lhs; whnf; arg 1; whnf))); (· (conv => (lhs; whnf)))) | (apply runk_store rfl rfl rfl ?_ ?_ ?_ ?_ ?_ ?_ ?_ ?_ ?_ ?_ ?_; rotate_left 9; (· (conv => (lhs; whnf))); (· (conv => (lhs; whnf))); (· (conv => (lhs; whnf; arg 1; whnf; arg 2; whnf))); (· rfl); (· (conv => (lhs; whnf))); (· rfl); (· (unfold sizeIs; conv => (lhs; whnf; arg 1; whnf))); (· rfl); (· rfl); (· (conv => (lhs; repeat (whnf; arg 2))))) | refine runk_end (by kernel_rfl) ?_ | (apply runk0 rfl rfl (opok_elem _ rfl ?_ ?_ ?_ ?_ ?_ ?_ ?_ ?_) ?_; rotate_left 8; (· (conv => (lhs; whnf))); (· (conv => (lhs; whnf; arg 1; whnf; arg 2; whnf))); (· rfl); (· rfl); (· first | rfl | exact widths_ints _ _ | simp [widths, AVal.flat]); (· rfl); (· first | assumption | (simp only [Int.toNat_natCast]; assumption) | (simp only [Int.reduceToNat]; assumption)); (· rfl))))
        rename_i ka
        refine ⟨n - 1, by omega, j + 1, ka, by omega, ?_⟩
        rw [hS, eS]
        unfold RK.put
        dsimp only
        rw [eC]
        (refine leB_of ?_ ?_; (· (repeat (first | exact EnvIs.nil | (refine EnvIs.cons ?_ ?_; (· first | rfl | ((conv => (lhs; whnf)); first | (simp [ints]; done) | (simp [ints]; omega))))))); (· (repeat (first | exact ObjsAre.nil | (refine ObjsAre.cons ?_ ?_; (· first | rfl | ((conv => (lhs; whnf)); first | (simp [ints]; done) | (simp [ints]; omega))))))))
      | false =>
        rw [d] at eS
        simp only [cond_false] at eS
        (repeat (first | refine awp_reg_seq rfl fun k => ?_ | refine awp_reg rfl fun k => ?_ | refine awp_seq ?_ | refine awp_false rfl ?_ | refine awp_skip (?_ : Awp _ _ _ _ _ _) | refine awp_block ?_ | (apply runk_with rfl rfl rfl ?_ ?_ ?_ ?_ ?_ ?_ ?_ ?_ ?_ ?_ ?_; rotate_left 10; (· (conv => (lhs; whnf))); (· exact Try.func31); (· rfl); (· rfl); (· exact (a1)); (· (repeat (first | exact Rens.nil | (refine Rens.cons ?_ ?_; (· first | exact Ren.own _ _ _ _ _ _ rfl List.mem_cons_self | exact Ren.own _ _ _ _ _ _ rfl (List.mem_cons_of_mem _ List.mem_cons_self) | (refine (Ren.own _ _ _ _ _ _ ?_ List.mem_cons_self); first | rfl | (simp; done)) | (refine (Ren.own _ _ _ _ _ _ ?_ (List.mem_cons_of_mem _ List.mem_cons_self)); first | rfl | (simp; done)) | exact Ren.ptr _ _ _ _ _ List.mem_cons_self | (refine Ren.pureR ?_ rfl; (first | rfl | (simp; done) | (simp [AVal.pure, AVal.pures, AObj.pure]; done)))))))); (· rfl); (· first | rfl | (simp; done) | simp [AVal.pure, AVal.pures, AObj.pure]); (· first | rfl | (simp; done) | simp [AVal.pure, AVal.pures, AObj.pure]); (· first | rfl | (simp; done) | simp [AVal.pure, AVal.pures, AObj.pure])) | (apply runk0 rfl rfl (opok_move rfl ?_) ?_; rotate_left 1; (· (conv => (lhs; whnf)))) | (apply runk0 rfl rfl (opok_assign rfl ?_) ?_; rotate_left 1; (· (conv => (lhs; whnf)))) | (apply runk0 rfl rfl (opok_bin rfl ?_ ?_ ?_) ?_; rotate_left 3; (· (conv => (lhs; whnf))); (· (conv => (lhs; whnf))); (· (intro w; go_simp; first | done | rfl))) | refine runk_end (by kernel_rfl) ?_))
        refine ⟨n - 1, by omega, j + 1, kq, by omega, ?_⟩
        rw [hS, eS]
        (refine leB_of ?_ ?_; (· (repeat (first | exact EnvIs.nil | (refine EnvIs.cons ?_ ?_; (· first | rfl | ((conv => (lhs; whnf)); first | (simp [ints]; done) | (simp [ints]; omega))))))); (· (repeat (first | exact ObjsAre.nil | (refine ObjsAre.cons ?_ ?_; (· first | rfl | ((conv => (lhs; whnf)); first | (simp [ints]; done) | (simp [ints]; omega))))))))
    · have hj5 : j = 5 := by simp at hc; omega
      subst hj5
      clear hc a1 hl1 hl2 eS a4 sr hj4 hx4
      generalize (rtS zs p 5).1 = CL at *
      generalize (rtS zs p 5).2 = CQ at *
      refine awp_exit (?_ : Awp _ _ _ _ _ _)
      refine awp_less (st' := ⟨[(3, .own 3 kq (CL.map rtA).length)], [(0, some (0, deckO zs CQ)), (3, some (kq, .row 55 16 (CL.map rtA)))]⟩) ?_ ?_
      · (refine leB_of ?_ ?_; (· (repeat (first | exact EnvIs.nil | (refine EnvIs.cons ?_ ?_; (· first | rfl | ((conv => (lhs; whnf)); first | (simp [ints]; done) | (simp [ints]; omega))))))); (· (repeat (first | exact ObjsAre.nil | (refine ObjsAre.cons ?_ ?_; (· first | rfl | ((conv => (lhs; whnf)); first | (simp [ints]; done) | (simp [ints]; omega))))))))
      (repeat (first | refine awp_reg_seq rfl fun k => ?_ | (apply runk0 rfl rfl (opok_move rfl ?_) ?_; rotate_left 1; (· (conv => (lhs; whnf)))) | (apply runk_assignOwn rfl rfl rfl ?_ ?_ ?_; rotate_left 4; (· (conv => (lhs; whnf))); (· (conv => (lhs; whnf; arg 1; whnf)))) | refine runk_end (by kernel_rfl) ?_))
      refine awp_ret ?_
      exact ends_wm rfl rfl rfl rfl rfl rfl rfl rfl (by decide) (by simp) (by simp [AObj.pure]) rfl (.inl rfl)
end Go.Proofs.Ytddafnipfkeejaa
