/-
  Layer 13: the reference's least cut, by states.
-/
import Derived.Test.YtlmgbfbcaokedaaFb13fd
import Derived.Test.YtlmgbfbcaokedaaFb13r
namespace Go.Proofs.Ytlmgbfbcaokedaa
open Go.RowKit
/-- The sets, by number. -/
def sb (m x : Nat) : Bool := m / 2 ^ x % 2 == 1
def lcN (f : FK) (a b : Nat) : Nat → Int
  | 0 => -1
  | m + 1 => bif sb m a && !sb m b then (bif decide (lcN f a b m < 0) || decide (cutV f (sb m) < lcN f a b m) then cutV f (sb m) else lcN f a b m) else lcN f a b m
set_option maxHeartbeats 16000000 in
set_option maxRecDepth 100000 in
theorem rflow0_spec {F : FK} (h : F.ok = true) (a b : Int) (hg : (a == b) = true ∨ F.al a = false ∨ F.al b = false) : Spec Try.prog 28 [.agg F.A, .val (.int .i64 a), .val (.int .i64 b)] [] (.val (.int .i64 0)) [] := by
  have s1 := rdead_spec h a
  have s2 := rdead_spec h b
  clear h
  obtain ⟨FAv, hFA⟩ : ∃ x, F.A = x := ⟨_, rfl⟩
  have hFA2 : FAv = [.val (.int .i64 F.sw), .ro (F.ls.map lkA), .ro (bls F.dn), .ro (bls F.dd)] := by rw [← hFA]; rfl
  rw [hFA] at s1 s2 ⊢
  rw [hFA2] at s1 s2 ⊢
  clear hFA hFA2 FAv
  generalize F.al a = A at *
  generalize F.al b = B at *
  refine spec_of_awp Try.func28 rfl (Nat.le_of_ble_eq_true rfl) fun ini => ?_
  simp only [Try.ntmps28]
  cases q1 : (a == b) with
  | true => (repeat (first | refine awp_reg_seq rfl fun k => ?_ | refine awp_seq ?_ | refine awp_true rfl ?_ | (refine awp_ret ?_; (apply ends_pure ?_ ?_ ?_ ?_ ?_ (.inl rfl); rotate_left 1; (· first | exact res_one rfl rfl | exact res_two rfl rfl rfl | exact res_none rfl | exact res_three rfl rfl rfl rfl | exact res_cell rfl rfl rfl rfl rfl | exact res_cell2 rfl rfl rfl rfl rfl rfl | exact res3 rfl (rv_cell rfl rfl rfl rfl) (rv_tmp rfl) (rv_tmp rfl) | exact res3 rfl (rv_cell rfl rfl rfl rfl) (rv_cell rfl rfl rfl rfl) (rv_cell rfl rfl rfl rfl)); (· first | rfl | ((conv => (lhs; whnf)); first | rfl | (simp; done))); (· first | rfl | (simp; done) | (simp [AVal.pure, AVal.pures, AObj.pure]; done)); (· rfl); (· rfl))) | (apply runk0 rfl rfl (opok_box_ro rfl ?_ ?_ ?_) ?_; rotate_left 2; (· (conv => (lhs; whnf))); (· rfl); (· (conv => (lhs; whnf)))) | (first | refine runk_off rfl rfl rfl rfl rfl ?_ | refine runk_off rfl rfl rfl (by assumption) rfl ?_ | refine runk_offN rfl rfl rfl rfl rfl ?_ | refine runk_offU rfl rfl rfl rfl ?_ | refine runk_offUN rfl rfl rfl rfl ?_) | (apply runk0 rfl rfl (opok_move rfl ?_) ?_; rotate_left 1; (· (conv => (lhs; whnf)))) | (apply runk0 rfl rfl (opok_assign rfl ?_) ?_; rotate_left 1; (· (conv => (lhs; whnf)))) | (apply runk0 rfl rfl (opok_bin rfl ?_ ?_ ?_) ?_; rotate_left 3; (· (conv => (lhs; whnf))); (· (conv => (lhs; whnf))); (· (intro w; go_simp; first | done | rfl))) | (apply runk0 rfl rfl (opok_pick rfl ?_ ?_) ?_; rotate_left 2; (· (conv => (lhs; whnf))); (· first | exact pick_or | exact pick_and | (conv => (lhs; whnf)))) | refine runk_end (by kernel_rfl) ?_))
  | false =>
    cases A with
    | false => (repeat (first | refine awp_reg_seq rfl fun k => ?_ | refine awp_seq ?_ | refine awp_true rfl ?_ | (refine awp_ret ?_; (apply ends_pure ?_ ?_ ?_ ?_ ?_ (.inl rfl); rotate_left 1; (· first | exact res_one rfl rfl | exact res_two rfl rfl rfl | exact res_none rfl | exact res_three rfl rfl rfl rfl | exact res_cell rfl rfl rfl rfl rfl | exact res_cell2 rfl rfl rfl rfl rfl rfl | exact res3 rfl (rv_cell rfl rfl rfl rfl) (rv_tmp rfl) (rv_tmp rfl) | exact res3 rfl (rv_cell rfl rfl rfl rfl) (rv_cell rfl rfl rfl rfl) (rv_cell rfl rfl rfl rfl)); (· first | rfl | ((conv => (lhs; whnf)); first | rfl | (simp; done))); (· first | rfl | (simp; done) | (simp [AVal.pure, AVal.pures, AObj.pure]; done)); (· rfl); (· rfl))) | (apply runk_pure rfl rfl rfl ?_ ?_ ?_ ?_ ?_ ?_ ?_ ?_; rotate_left 6; (· (conv => (lhs; whnf))); (· exact Try.func33); (· rfl); (· rfl); (· exact (s1)); (· (repeat (first | exact Rens.nil | (refine Rens.cons ?_ ?_; (· first | exact Ren.own _ _ _ _ _ _ rfl List.mem_cons_self | exact Ren.own _ _ _ _ _ _ rfl (List.mem_cons_of_mem _ List.mem_cons_self) | (refine (Ren.own _ _ _ _ _ _ ?_ List.mem_cons_self); first | rfl | (simp; done)) | (refine (Ren.own _ _ _ _ _ _ ?_ (List.mem_cons_of_mem _ List.mem_cons_self)); first | rfl | (simp; done)) | exact Ren.ptr _ _ _ _ _ List.mem_cons_self | (refine Ren.pureR ?_ rfl; (first | rfl | (simp; done) | (simp [AVal.pure, AVal.pures, AObj.pure]; done)))))))); (· first | rfl | (simp; done) | simp [AVal.pure, AVal.pures, AObj.pure])) | (apply runk0 rfl rfl (opok_box_ro rfl ?_ ?_ ?_) ?_; rotate_left 2; (· (conv => (lhs; whnf))); (· rfl); (· (conv => (lhs; whnf)))) | (first | refine runk_ung rfl rfl rfl rfl ?_ | refine runk_ung rfl rfl rfl (by assumption) ?_) | (first | refine runk_off rfl rfl rfl rfl rfl ?_ | refine runk_off rfl rfl rfl (by assumption) rfl ?_ | refine runk_offN rfl rfl rfl rfl rfl ?_ | refine runk_offU rfl rfl rfl rfl ?_ | refine runk_offUN rfl rfl rfl rfl ?_) | (apply runk0 rfl rfl (opok_move rfl ?_) ?_; rotate_left 1; (· (conv => (lhs; whnf)))) | (apply runk0 rfl rfl (opok_assign rfl ?_) ?_; rotate_left 1; (· (conv => (lhs; whnf)))) | (apply runk0 rfl rfl (opok_bin rfl ?_ ?_ ?_) ?_; rotate_left 3; (· (conv => (lhs; whnf))); (· (conv => (lhs; whnf))); (· (intro w; go_simp; first | done | rfl))) | (apply runk0 rfl rfl (opok_pick rfl ?_ ?_) ?_; rotate_left 2; (· (conv => (lhs; whnf))); (· first | exact pick_or | exact pick_and | (conv => (lhs; whnf)))) | refine runk_end (by kernel_rfl) ?_ | (apply runk0 rfl rfl (opok_loadRA2 rfl ?_ ?_ ?_ ?_) ?_; rotate_left 2; (· (conv => (lhs; whnf))); (· rfl); (· (unfold sizeIs; conv => (lhs; whnf; arg 1; whnf))); (· rfl))))
    | true =>
      cases B with
      | false => (repeat (first | refine awp_reg_seq rfl fun k => ?_ | refine awp_seq ?_ | refine awp_true rfl ?_ | (refine awp_ret ?_; (apply ends_pure ?_ ?_ ?_ ?_ ?_ (.inl rfl); rotate_left 1; (· first | exact res_one rfl rfl | exact res_two rfl rfl rfl | exact res_none rfl | exact res_three rfl rfl rfl rfl | exact res_cell rfl rfl rfl rfl rfl | exact res_cell2 rfl rfl rfl rfl rfl rfl | exact res3 rfl (rv_cell rfl rfl rfl rfl) (rv_tmp rfl) (rv_tmp rfl) | exact res3 rfl (rv_cell rfl rfl rfl rfl) (rv_cell rfl rfl rfl rfl) (rv_cell rfl rfl rfl rfl)); (· first | rfl | ((conv => (lhs; whnf)); first | rfl | (simp; done))); (· first | rfl | (simp; done) | (simp [AVal.pure, AVal.pures, AObj.pure]; done)); (· rfl); (· rfl))) | (apply runk_pure rfl rfl rfl ?_ ?_ ?_ ?_ ?_ ?_ ?_ ?_; rotate_left 6; (· (conv => (lhs; whnf))); (· exact Try.func33); (· rfl); (· rfl); (· exact (s1)); (· (repeat (first | exact Rens.nil | (refine Rens.cons ?_ ?_; (· first | exact Ren.own _ _ _ _ _ _ rfl List.mem_cons_self | exact Ren.own _ _ _ _ _ _ rfl (List.mem_cons_of_mem _ List.mem_cons_self) | (refine (Ren.own _ _ _ _ _ _ ?_ List.mem_cons_self); first | rfl | (simp; done)) | (refine (Ren.own _ _ _ _ _ _ ?_ (List.mem_cons_of_mem _ List.mem_cons_self)); first | rfl | (simp; done)) | exact Ren.ptr _ _ _ _ _ List.mem_cons_self | (refine Ren.pureR ?_ rfl; (first | rfl | (simp; done) | (simp [AVal.pure, AVal.pures, AObj.pure]; done)))))))); (· first | rfl | (simp; done) | simp [AVal.pure, AVal.pures, AObj.pure])) | (apply runk_pure rfl rfl rfl ?_ ?_ ?_ ?_ ?_ ?_ ?_ ?_; rotate_left 6; (· (conv => (lhs; whnf))); (· exact Try.func33); (· rfl); (· rfl); (· exact (s2)); (· (repeat (first | exact Rens.nil | (refine Rens.cons ?_ ?_; (· first | exact Ren.own _ _ _ _ _ _ rfl List.mem_cons_self | exact Ren.own _ _ _ _ _ _ rfl (List.mem_cons_of_mem _ List.mem_cons_self) | (refine (Ren.own _ _ _ _ _ _ ?_ List.mem_cons_self); first | rfl | (simp; done)) | (refine (Ren.own _ _ _ _ _ _ ?_ (List.mem_cons_of_mem _ List.mem_cons_self)); first | rfl | (simp; done)) | exact Ren.ptr _ _ _ _ _ List.mem_cons_self | (refine Ren.pureR ?_ rfl; (first | rfl | (simp; done) | (simp [AVal.pure, AVal.pures, AObj.pure]; done)))))))); (· first | rfl | (simp; done) | simp [AVal.pure, AVal.pures, AObj.pure])) | (apply runk0 rfl rfl (opok_box_ro rfl ?_ ?_ ?_) ?_; rotate_left 2; (· (conv => (lhs; whnf))); (· rfl); (· (conv => (lhs; whnf)))) | (first | refine runk_ung rfl rfl rfl rfl ?_ | refine runk_ung rfl rfl rfl (by assumption) ?_) | (apply runk0 rfl rfl (opok_move rfl ?_) ?_; rotate_left 1; (· (conv => (lhs; whnf)))) | (apply runk0 rfl rfl (opok_assign rfl ?_) ?_; rotate_left 1; (· (conv => (lhs; whnf)))) | (apply runk0 rfl rfl (opok_bin rfl ?_ ?_ ?_) ?_; rotate_left 3; (· (conv => (lhs; whnf))); (· (conv => (lhs; whnf))); (· (intro w; go_simp; first | done | rfl))) | (apply runk0 rfl rfl (opok_pick rfl ?_ ?_) ?_; rotate_left 2; (· (conv => (lhs; whnf))); (· first | exact pick_or | exact pick_and | (conv => (lhs; whnf)))) | refine runk_end (by kernel_rfl) ?_ | (apply runk0 rfl rfl (opok_loadRA2 rfl ?_ ?_ ?_ ?_) ?_; rotate_left 2; (· (conv => (lhs; whnf))); (· rfl); (· (unfold sizeIs; conv => (lhs; whnf; arg 1; whnf))); (· rfl))))
      | true => exfalso; rw [q1] at hg; simp at hg
set_option maxRecDepth 1000000 in
theorem bit_at : ∀ (m : Fin 256) (x : Fin 8), bits BinOp.and .i64 (((m : Nat) : Int) / 2 ^ (x : Nat)) 1 = bif sb m x then 1 else 0 := by decide
set_option maxHeartbeats 64000000 in
set_option maxRecDepth 100000 in
theorem rflow_spec {F : FK} (h : F.ok = true) (a b : Nat) (hab : a ≠ b) (ha : F.al a = true) (hb : F.al b = true) : Spec Try.prog 28 [.agg F.A, .val (.int .i64 (a : Int)), .val (.int .i64 (b : Int))] [] (.val (.int .i64 (lcN F a b (2 ^ F.sw.toNat)))) [] := by
  have sda := rdead_spec h a
  have sdb := rdead_spec h b
  rw [ha] at sda
  rw [hb] at sdb
  obtain ⟨hs1, hs8, hl24, hdn, hdd, -⟩ := FK.ok_facts h
  obtain ⟨N, hN⟩ : ∃ N : Nat, F.sw = N := ⟨F.sw.toNat, by omega⟩
  have ha8 := ((al_iff h).1 ha).1
  have hb8 := ((al_iff h).1 hb).1
  rw [hN, Int.toNat_natCast] at ha8 hb8
  have hNt : F.sw.toNat = N := by omega
  rw [hNt]
  have hq : ((a : Int) == (b : Int)) = false := by simp; omega
  have hWk := fun i : Nat => rworks_spec h (i : Int)
  have hwk : ∀ i : Nat, i < F.ls.length → F.works (i : Int) = F.wk i := fun i hi => by
    unfold FK.works
    rw [Int.toNat_natCast]
    have e2 : decide ((i : Int) < (F.ls.length : Int)) = true := decide_eq_true (by omega)
    simp only [e2, Bool.and_true]
    simp
  have f1 : ∀ i, i < F.ls.length → (F.ls.map lkA)[i]? = some (.agg [.val (.int .i64 (F.la i : Int)), .val (.int .i64 (F.lb i : Int)), .val (.int .i64 (lcap F i))]) ∧ F.la i < 8 ∧ F.lb i < 8 ∧ 0 ≤ lcap F i ∧ lcap F i ≤ 1048576 := fun i hi => by
    obtain ⟨e1, e2, ha, hb, hab⟩ := FK.ends h hi
    have hx := lk_at F.ls hi
    rw [e1, e2] at hx
    have := link_cap h hi
    exact ⟨hx, by omega, by omega, by unfold lcap; omega, by unfold lcap; omega⟩
  obtain ⟨L, hL⟩ : ∃ L, L = lcN F a b := ⟨_, rfl⟩
  obtain ⟨CV, hCV⟩ : ∃ C : Nat → Nat → Int, C = fun m => sumN fun i => bif F.wk i && (sb m (F.la i) != sb m (F.lb i)) then lcap F i else 0 := ⟨_, rfl⟩
  have l0 : L 0 = -1 := by rw [hL]; rfl
  have lS : ∀ m, L (m + 1) = bif sb m a && !sb m b then (bif decide (L m < 0) || decide (CV m F.ls.length < L m) then CV m F.ls.length else L m) else L m := fun m => by rw [hL, hCV]; rfl
  have v0 : ∀ m, CV m 0 = 0 := fun m => by rw [hCV]; rfl
  have vS : ∀ m i, CV m (i + 1) = CV m i + bif F.wk i && (sb m (F.la i) != sb m (F.lb i)) then lcap F i else 0 := fun m i => by rw [hCV]; rfl
  have vR : ∀ m i, i ≤ F.ls.length → 0 ≤ CV m i ∧ CV m i ≤ i * 1048576 := fun m i hi => by rw [hCV]; exact bif_range h (fun i => F.wk i && (sb m (F.la i) != sb m (F.lb i))) i hi
  rw [← hL]
  clear h ha hb hL hCV hdn
  generalize lcap F = lc at *
  generalize F.la = la at *
  generalize F.lb = lb at *
  generalize F.works = works at *
  generalize F.wk = wk at *
  obtain ⟨fsw, ls, dn, dd⟩ := F
  unfold FK.A at *
  dsimp only at *
  subst hN
  have hN8 : N ≤ 8 := by omega
  refine spec_of_awp Try.func28 rfl (Nat.le_of_ble_eq_true rfl) fun ini => ?_
  simp only [Try.ntmps28]
  (repeat (first | refine awp_reg_seq rfl fun k => ?_ | refine awp_seq ?_ | refine awp_false rfl ?_ | refine awp_skip (?_ : Awp _ _ _ _ _ _) | refine awp_block ?_ | (apply runk_pure rfl rfl rfl ?_ ?_ ?_ ?_ ?_ ?_ ?_ ?_; rotate_left 6; (· (conv => (lhs; whnf))); (· exact Try.func33); (· rfl); (· rfl); (· exact (sda)); (· (repeat (first | exact Rens.nil | (refine Rens.cons ?_ ?_; (· first | exact Ren.own _ _ _ _ _ _ rfl List.mem_cons_self | exact Ren.own _ _ _ _ _ _ rfl (List.mem_cons_of_mem _ List.mem_cons_self) | (refine (Ren.own _ _ _ _ _ _ ?_ List.mem_cons_self); first | rfl | (simp; done)) | (refine (Ren.own _ _ _ _ _ _ ?_ (List.mem_cons_of_mem _ List.mem_cons_self)); first | rfl | (simp; done)) | exact Ren.ptr _ _ _ _ _ List.mem_cons_self | (refine Ren.pureR ?_ rfl; (first | rfl | (simp; done) | (simp [AVal.pure, AVal.pures, AObj.pure]; done)))))))); (· first | rfl | (simp; done) | simp [AVal.pure, AVal.pures, AObj.pure])) | (apply runk_pure rfl rfl rfl ?_ ?_ ?_ ?_ ?_ ?_ ?_ ?_; rotate_left 6; (· (conv => (lhs; whnf))); (· exact Try.func33); (· rfl); (· rfl); (· exact (sdb)); (· (repeat (first | exact Rens.nil | (refine Rens.cons ?_ ?_; (· first | exact Ren.own _ _ _ _ _ _ rfl List.mem_cons_self | exact Ren.own _ _ _ _ _ _ rfl (List.mem_cons_of_mem _ List.mem_cons_self) | (refine (Ren.own _ _ _ _ _ _ ?_ List.mem_cons_self); first | rfl | (simp; done)) | (refine (Ren.own _ _ _ _ _ _ ?_ (List.mem_cons_of_mem _ List.mem_cons_self)); first | rfl | (simp; done)) | exact Ren.ptr _ _ _ _ _ List.mem_cons_self | (refine Ren.pureR ?_ rfl; (first | rfl | (simp; done) | (simp [AVal.pure, AVal.pures, AObj.pure]; done)))))))); (· first | rfl | (simp; done) | simp [AVal.pure, AVal.pures, AObj.pure])) | (apply runk0 rfl rfl (opok_box_ro rfl ?_ ?_ ?_) ?_; rotate_left 2; (· (conv => (lhs; whnf))); (· rfl); (· (conv => (lhs; whnf)))) | (first | refine runk_ung rfl rfl rfl rfl ?_ | refine runk_ung rfl rfl rfl (by assumption) ?_) | (apply runk0 rfl rfl (opok_move rfl ?_) ?_; rotate_left 1; (· (conv => (lhs; whnf)))) | (apply runk0 rfl rfl (opok_assign rfl ?_) ?_; rotate_left 1; (· (conv => (lhs; whnf)))) | (first | (apply runk0 rfl rfl (opok_load rfl ?_ ?_ ?_ ?_) ?_; rotate_left 5; (· (conv => (lhs; whnf))); (· (conv => (lhs; whnf; arg 1; whnf; arg 2; whnf))); (· rfl); (· (conv => (lhs; whnf; arg 1; whnf)))) | (apply runk0 rfl rfl (opok_loadR rfl ?_ ?_ ?_) ?_; rotate_left 2; (· (conv => (lhs; whnf))); (· rfl); (· (conv => (lhs; whnf; arg 1; whnf))))) | (apply runk0 rfl rfl (opok_bin rfl ?_ ?_ ?_) ?_; rotate_left 3; (· (conv => (lhs; whnf))); (· (conv => (lhs; whnf))); (· (intro w; go_simp; first | done | rfl))) | (apply runk0 rfl rfl (opok_conv rfl ?_ ?_) ?_; rotate_left 2; (· (conv => (lhs; whnf))); (· (intro w; go_simp; first | done | rfl))) | (apply runk0 rfl rfl (opok_pick rfl ?_ ?_) ?_; rotate_left 2; (· (conv => (lhs; whnf))); (· first | exact pick_or | exact pick_and | (conv => (lhs; whnf)))) | refine runk_end (by kernel_rfl) ?_ | (apply runk0 rfl rfl (opok_faR rfl ?_ rfl rfl ?_ ?_ ?_) ?_; rotate_left 3; (· (conv => (lhs; whnf))); (· (unfold sizeIs; conv => (lhs; whnf; arg 1; whnf))); (· rfl); (· (conv => (lhs; (repeat (whnf; arg 2)); whnf)))) | (apply runk0 rfl rfl (opok_loadRA2 rfl ?_ ?_ ?_ ?_) ?_; rotate_left 2; (· (conv => (lhs; whnf))); (· rfl); (· (unfold sizeIs; conv => (lhs; whnf; arg 1; whnf))); (· rfl))))
  have e28 : IntKind.i64.wrap (2 ^ min (IntKind.u64.wrap (N : Int)).toNat 64) = ((2 ^ N : Nat) : Int) := by
    have hall : ∀ n : Fin 9, IntKind.i64.wrap (2 ^ min (IntKind.u64.wrap ((n : Nat) : Int)).toNat 64) = ((2 ^ (n : Nat) : Nat) : Int) := by decide
    exact hall ⟨N, by omega⟩
  refine awp_less (st' := ⟨[(1, .val (.int .i64 (a : Int))), (2, .val (.int .i64 (b : Int))), (3, .rref [.val (.int .i64 (N : Int)), .ro (ls.map lkA), .ro (bls dn), .ro (bls dd)]), (7, .val (.int .i64 (-1))), (28, .val (.int .i64 ((2 ^ N : Nat) : Int))), (29, .val (.int .i64 0))], []⟩) ?_ ?_
  · rw [← e28]
    (refine leB_of ?_ ?_; (· (repeat (first | exact EnvIs.nil | (refine EnvIs.cons ?_ ?_; (· first | rfl | ((conv => (lhs; whnf)); first | (simp [ints]; done) | (simp [ints]; omega))))))); (· (repeat (first | exact ObjsAre.nil | (refine ObjsAre.cons ?_ ?_; (· first | rfl | ((conv => (lhs; whnf)); first | (simp [ints]; done) | (simp [ints]; omega))))))))
  have hP : 2 ^ N ≤ 256 := by
    have hall : ∀ n : Fin 9, 2 ^ (n : Nat) ≤ 256 := by decide
    exact hall ⟨N, by omega⟩
  generalize 2 ^ N = PN at *
  refine awp_loop (fun n st => ∃ m : Nat, m + n = PN ∧ st.leB ⟨[(1, .val (.int .i64 (a : Int))), (2, .val (.int .i64 (b : Int))), (3, .rref [.val (.int .i64 (N : Int)), .ro (ls.map lkA), .ro (bls dn), .ro (bls dd)]), (7, .val (.int .i64 (L m))), (28, .val (.int .i64 (PN : Int))), (29, .val (.int .i64 (m : Int)))], []⟩) PN ⟨0, by omega, ?_⟩ ?_
  · rw [l0]
    (refine leB_of ?_ ?_; (· (repeat (first | exact EnvIs.nil | (refine EnvIs.cons ?_ ?_; (· first | rfl | ((conv => (lhs; whnf)); first | (simp [ints]; done) | (simp [ints]; omega))))))); (· (repeat (first | exact ObjsAre.nil | (refine ObjsAre.cons ?_ ?_; (· first | rfl | ((conv => (lhs; whnf)); first | (simp [ints]; done) | (simp [ints]; omega))))))))
  rintro n st ⟨m, hm, hle⟩
  refine awp_less hle ?_
  clear hle st
  (repeat (first | refine awp_reg_seq rfl fun k => ?_ | refine awp_seq ?_ | (apply runk0 rfl rfl (opok_bin rfl ?_ ?_ ?_) ?_; rotate_left 3; (· (conv => (lhs; whnf))); (· (conv => (lhs; whnf))); (· (intro w; go_simp; first | done | rfl))) | refine runk_end (by kernel_rfl) ?_))
  refine awp_if rfl (fun hc => ?_) (fun hc => ?_)
  · have hmP : m < PN := by simpa using hc
    clear hc
    have wm : IntKind.i64.wrap ((m : Int) + 1) = ((m + 1 : Nat) : Int) := by rw [IntKind.wrap_i64]; omega
    have ua : IntKind.u64.wrap (a : Int) = a := by rw [IntKind.wrap_u64]; omega
    have ub : IntKind.u64.wrap (b : Int) = b := by rw [IntKind.wrap_u64]; omega
    have bita := bit_at ⟨m, by omega⟩ ⟨a, by omega⟩
    have bitb := bit_at ⟨m, by omega⟩ ⟨b, by omega⟩
    dsimp only at bita bitb
    have eL := lS m
    have b8 : ∀ x : Nat, x < 8 → bits BinOp.and .i64 ((m : Int) / 2 ^ x) 1 = bif sb m x then 1 else 0 := fun x hx => bit_at ⟨m, by omega⟩ ⟨x, hx⟩
    have v0m := v0 m
    have vSm := vS m
    have vRm := vR m
    clear lS l0 v0 vS vR
    generalize CV m = C at *
    generalize hY : L (m + 1) = Y at *
    generalize L m = lm at *
    cases sa : sb m a with
    | false =>
      rw [sa] at eL bita
      rw [Bool.false_and, cond_false] at eL
      rw [cond_false] at bita
      clear bitb b8 vSm vRm
      (repeat (first | refine awp_reg_seq rfl fun k => ?_ | refine awp_reg rfl fun k => ?_ | refine awp_seq ?_ | refine awp_true rfl ?_ | refine awp_skip (?_ : Awp _ _ _ _ _ _) | refine awp_block ?_ | refine awp_exit (?_ : Awp _ _ _ _ _ _) | (first | refine runk_off rfl rfl rfl rfl rfl ?_ | refine runk_off rfl rfl rfl (by assumption) rfl ?_ | refine runk_offN rfl rfl rfl rfl rfl ?_ | refine runk_offU rfl rfl rfl rfl ?_ | refine runk_offUN rfl rfl rfl rfl ?_) | (apply runk0 rfl rfl (opok_move rfl ?_) ?_; rotate_left 1; (· (conv => (lhs; whnf)))) | (apply runk0 rfl rfl (opok_assign rfl ?_) ?_; rotate_left 1; (· (conv => (lhs; whnf)))) | (apply runk0 rfl rfl (opok_bin rfl ?_ ?_ ?_) ?_; rotate_left 3; (· (conv => (lhs; whnf))); (· (conv => (lhs; whnf))); (· (intro w; go_simp; first | done | rfl))) | (apply runk0 rfl rfl (opok_conv rfl ?_ ?_) ?_; rotate_left 2; (· (conv => (lhs; whnf))); (· (intro w; go_simp; first | done | rfl))) | (apply runk0 rfl rfl (opok_pick rfl ?_ ?_) ?_; rotate_left 2; (· (conv => (lhs; whnf))); (· first | exact pick_or | exact pick_and | (conv => (lhs; whnf)))) | (apply runk0 rfl rfl (opok_extract rfl ?_ ?_) ?_; rotate_left 2; (· (conv => (lhs; whnf))); (· (conv => (lhs; whnf; arg 1; whnf)))) | refine runk_end (by kernel_rfl) ?_))
      refine ⟨n - 1, by omega, m + 1, by omega, ?_⟩
      rw [hY, eL]
      (refine leB_of ?_ ?_; (· (repeat (first | exact EnvIs.nil | (refine EnvIs.cons ?_ ?_; (· first | rfl | ((conv => (lhs; whnf)); first | (simp [ints]; done) | (simp [ints]; omega))))))); (· (repeat (first | exact ObjsAre.nil | (refine ObjsAre.cons ?_ ?_; (· first | rfl | ((conv => (lhs; whnf)); first | (simp [ints]; done) | (simp [ints]; omega))))))))
    | true =>
      rw [sa] at eL bita
      rw [Bool.true_and] at eL
      rw [cond_true] at bita
      cases sbb : sb m b with
      | true =>
        rw [sbb] at eL bitb
        rw [Bool.not_true, cond_false] at eL
        rw [cond_true] at bitb
        clear b8 vSm vRm
        (repeat (first | refine awp_reg_seq rfl fun k => ?_ | refine awp_reg rfl fun k => ?_ | refine awp_seq ?_ | refine awp_true rfl ?_ | refine awp_skip (?_ : Awp _ _ _ _ _ _) | refine awp_block ?_ | refine awp_exit (?_ : Awp _ _ _ _ _ _) | (first | refine runk_ung rfl rfl rfl rfl ?_ | refine runk_ung rfl rfl rfl (by assumption) ?_) | (apply runk0 rfl rfl (opok_move rfl ?_) ?_; rotate_left 1; (· (conv => (lhs; whnf)))) | (apply runk0 rfl rfl (opok_assign rfl ?_) ?_; rotate_left 1; (· (conv => (lhs; whnf)))) | (apply runk0 rfl rfl (opok_bin rfl ?_ ?_ ?_) ?_; rotate_left 3; (· (conv => (lhs; whnf))); (· (conv => (lhs; whnf))); (· (intro w; go_simp; first | done | rfl))) | (apply runk0 rfl rfl (opok_conv rfl ?_ ?_) ?_; rotate_left 2; (· (conv => (lhs; whnf))); (· (intro w; go_simp; first | done | rfl))) | (apply runk0 rfl rfl (opok_pick rfl ?_ ?_) ?_; rotate_left 2; (· (conv => (lhs; whnf))); (· first | exact pick_or | exact pick_and | (conv => (lhs; whnf)))) | (apply runk0 rfl rfl (opok_extract rfl ?_ ?_) ?_; rotate_left 2; (· (conv => (lhs; whnf))); (· (conv => (lhs; whnf; arg 1; whnf)))) | refine runk_end (by kernel_rfl) ?_))
        refine ⟨n - 1, by omega, m + 1, by omega, ?_⟩
        rw [hY, eL]
        (refine leB_of ?_ ?_; (· (repeat (first | exact EnvIs.nil | (refine EnvIs.cons ?_ ?_; (· first | rfl | ((conv => (lhs; whnf)); first | (simp [ints]; done) | (simp [ints]; omega))))))); (· (repeat (first | exact ObjsAre.nil | (refine ObjsAre.cons ?_ ?_; (· first | rfl | ((conv => (lhs; whnf)); first | (simp [ints]; done) | (simp [ints]; omega))))))))
      | false =>
        rw [sbb] at eL bitb
        rw [Bool.not_false, cond_true] at eL
        rw [cond_false] at bitb
        have w0 : IntKind.i64.wrap 0 = 0 := rfl
        (repeat (first | refine awp_reg_seq rfl fun k => ?_ | refine awp_seq ?_ | refine awp_false rfl ?_ | refine awp_skip (?_ : Awp _ _ _ _ _ _) | refine awp_block ?_ | (first | refine runk_ung rfl rfl rfl rfl ?_ | refine runk_ung rfl rfl rfl (by assumption) ?_) | (apply runk0 rfl rfl (opok_move rfl ?_) ?_; rotate_left 1; (· (conv => (lhs; whnf)))) | (apply runk0 rfl rfl (opok_assign rfl ?_) ?_; rotate_left 1; (· (conv => (lhs; whnf)))) | (first | (apply runk0 rfl rfl (opok_load rfl ?_ ?_ ?_ ?_) ?_; rotate_left 5; (· (conv => (lhs; whnf))); (· (conv => (lhs; whnf; arg 1; whnf; arg 2; whnf))); (· rfl); (· (conv => (lhs; whnf; arg 1; whnf)))) | (apply runk0 rfl rfl (opok_loadR rfl ?_ ?_ ?_) ?_; rotate_left 2; (· (conv => (lhs; whnf))); (· rfl); (· (conv => (lhs; whnf; arg 1; whnf))))) | (apply runk0 rfl rfl (opok_bin rfl ?_ ?_ ?_) ?_; rotate_left 3; (· (conv => (lhs; whnf))); (· (conv => (lhs; whnf))); (· (intro w; go_simp; first | done | rfl))) | (apply runk0 rfl rfl (opok_conv rfl ?_ ?_) ?_; rotate_left 2; (· (conv => (lhs; whnf))); (· (intro w; go_simp; first | done | rfl))) | (first | (apply runk0 rfl rfl (opok_lenO rfl ?_ ?_ ?_) ?_; rotate_left 5; (· (conv => (lhs; whnf))); (· (conv => (lhs; whnf; arg 1; whnf))); (· first | exact length_ints _ _ | rfl)) | (apply runk0 rfl rfl (opok_len_own rfl ?_ ?_) ?_; rotate_left 4; (· (conv => (lhs; whnf))); (· (conv => (lhs; whnf; arg 1; whnf)))) | (apply runk0 rfl rfl (opok_len rfl ?_ ?_ ?_) ?_; rotate_left 3; (· (conv => (lhs; whnf))); (· (conv => (lhs; whnf; arg 1; whnf))); (· first | exact length_ints _ _ | rfl))) | (apply runk0 rfl rfl (opok_pick rfl ?_ ?_) ?_; rotate_left 2; (· (conv => (lhs; whnf))); (· first | exact pick_or | exact pick_and | (conv => (lhs; whnf)))) | refine runk_end (by kernel_rfl) ?_ | (apply runk0 rfl rfl (opok_faR rfl ?_ rfl rfl ?_ ?_ ?_) ?_; rotate_left 3; (· (conv => (lhs; whnf))); (· (unfold sizeIs; conv => (lhs; whnf; arg 1; whnf))); (· rfl); (· (conv => (lhs; (repeat (whnf; arg 2)); whnf))))))
        refine awp_loop (fun n2 st => ∃ i : Nat, i + n2 = ls.length ∧ st.leB ⟨[(1, .val (.int .i64 (a : Int))), (2, .val (.int .i64 (b : Int))), (3, .rref [.val (.int .i64 (N : Int)), .ro (ls.map lkA), .ro (bls dn), .ro (bls dd)]), (7, .val (.int .i64 lm)), (8, .val (.int .i64 (m : Int))), (9, .val (.int .i64 (C i))), (28, .val (.int .i64 (PN : Int))), (29, .val (.int .i64 (m : Int))), (47, .ro (ls.map lkA)), (48, .val (.int .i64 (ls.length : Int))), (49, .val (.int .i64 (i : Int)))], []⟩) ls.length ⟨0, by omega, ?_⟩ ?_
        · rw [v0m]
          (refine leB_of ?_ ?_; (· (repeat (first | exact EnvIs.nil | (refine EnvIs.cons ?_ ?_; (· first | rfl | ((conv => (lhs; whnf)); first | (simp [ints]; done) | (simp [ints]; omega))))))); (· (repeat (first | exact ObjsAre.nil | (refine ObjsAre.cons ?_ ?_; (· first | rfl | ((conv => (lhs; whnf)); first | (simp [ints]; done) | (simp [ints]; omega))))))))
        rintro n2 st ⟨i, hi, hle⟩
        refine awp_less hle ?_
        clear hle st v0m bita bitb
        (repeat (first | refine awp_reg_seq rfl fun k => ?_ | refine awp_seq ?_ | (apply runk0 rfl rfl (opok_bin rfl ?_ ?_ ?_) ?_; rotate_left 3; (· (conv => (lhs; whnf))); (· (conv => (lhs; whnf))); (· (intro w; go_simp; first | done | rfl))) | refine runk_end (by kernel_rfl) ?_))
        refine awp_if rfl (fun hc => ?_) (fun hc => ?_)
        · have hil : i < ls.length := by simpa using hc
          clear hc eL
          have wi : IntKind.i64.wrap ((i : Int) + 1) = ((i + 1 : Nat) : Int) := by rw [IntKind.wrap_i64]; omega
          obtain ⟨hy, hx8, hy8, hc1, hc2⟩ := f1 i hil
          have c1 := hWk i
          rw [hwk i hil] at c1
          have eC := vSm i
          have rC := vRm i (by omega)
          have bx := b8 (la i) hx8
          have by' := b8 (lb i) hy8
          clear f1 hWk hwk vSm vRm b8
          generalize la i = x at *
          generalize lb i = y at *
          generalize lc i = c at *
          generalize hZ : C (i + 1) = Z at *
          generalize C i = A at *
          have w1 : IntKind.i64.wrap (A + c) = A + c := by rw [IntKind.wrap_i64]; omega
          have ux : IntKind.u64.wrap (x : Int) = x := by rw [IntKind.wrap_u64]; omega
          have uy : IntKind.u64.wrap (y : Int) = y := by rw [IntKind.wrap_u64]; omega
          clear rC hc1 hc2
          (repeat (first | refine awp_reg_seq rfl fun k => ?_ | refine awp_seq ?_ | refine awp_skip (?_ : Awp _ _ _ _ _ _) | refine awp_block ?_ | (apply runk0 rfl rfl (opok_move rfl ?_) ?_; rotate_left 1; (· (conv => (lhs; whnf))))))
          (apply runk0 rfl rfl (opok_index_ro rfl ?_ ?_ ?_ ?_ ?_ ?_ ?_) ?_; rotate_left 6; (· (conv => (lhs; whnf))); (· (conv => (lhs; whnf))); (· (conv => (lhs; whnf; arg 1; whnf))); (· (unfold sizeIs; conv => (lhs; whnf; arg 1; whnf))); (· simp); (· first | omega | (simp; done) | (simp; omega)); (· simp only [Int.toNat_natCast]; exact hy))
          cases q0 : wk i with
          | false =>
            rw [q0] at c1 eC
            rw [Bool.false_and, cond_false, Int.add_zero] at eC
            (repeat (first | refine awp_reg_seq rfl fun k => ?_ | refine awp_reg rfl fun k => ?_ | refine awp_false rfl ?_ | refine awp_skip (?_ : Awp _ _ _ _ _ _) | (apply runk_pure rfl rfl rfl ?_ ?_ ?_ ?_ ?_ ?_ ?_ ?_; rotate_left 6; (· (conv => (lhs; whnf))); (· exact Try.func19); (· rfl); (· rfl); (· exact (c1)); (· (repeat (first | exact Rens.nil | (refine Rens.cons ?_ ?_; (· first | exact Ren.own _ _ _ _ _ _ rfl List.mem_cons_self | exact Ren.own _ _ _ _ _ _ rfl (List.mem_cons_of_mem _ List.mem_cons_self) | (refine (Ren.own _ _ _ _ _ _ ?_ List.mem_cons_self); first | rfl | (simp; done)) | (refine (Ren.own _ _ _ _ _ _ ?_ (List.mem_cons_of_mem _ List.mem_cons_self)); first | rfl | (simp; done)) | exact Ren.ptr _ _ _ _ _ List.mem_cons_self | (refine Ren.pureR ?_ rfl; (first | rfl | (simp; done) | (simp [AVal.pure, AVal.pures, AObj.pure]; done)))))))); (· first | rfl | (simp; done) | simp [AVal.pure, AVal.pures, AObj.pure])) | (first | refine runk_off rfl rfl rfl rfl rfl ?_ | refine runk_off rfl rfl rfl (by assumption) rfl ?_ | refine runk_offN rfl rfl rfl rfl rfl ?_ | refine runk_offU rfl rfl rfl rfl ?_ | refine runk_offUN rfl rfl rfl rfl ?_) | (apply runk0 rfl rfl (opok_move rfl ?_) ?_; rotate_left 1; (· (conv => (lhs; whnf)))) | (apply runk0 rfl rfl (opok_assign rfl ?_) ?_; rotate_left 1; (· (conv => (lhs; whnf)))) | (apply runk0 rfl rfl (opok_bin rfl ?_ ?_ ?_) ?_; rotate_left 3; (· (conv => (lhs; whnf))); (· (conv => (lhs; whnf))); (· (intro w; go_simp; first | done | rfl))) | (apply runk0 rfl rfl (opok_pick rfl ?_ ?_) ?_; rotate_left 2; (· (conv => (lhs; whnf))); (· first | exact pick_or | exact pick_and | (conv => (lhs; whnf)))) | (apply runk_alloc rfl rfl rfl ?_ ?_ ?_; rotate_left 2; (· (conv => (lhs; whnf; arg 1; whnf))); (· (conv => (lhs; whnf)))) | (apply runk_store rfl rfl rfl ?_ ?_ ?_ ?_ ?_ ?_ ?_ ?_ ?_ ?_ ?_; rotate_left 9; (· (conv => (lhs; whnf))); (· (conv => (lhs; whnf))); (· (conv => (lhs; whnf; arg 1; whnf; arg 2; whnf))); (· rfl); (· (conv => (lhs; whnf))); (· rfl); (· (unfold sizeIs; conv => (lhs; whnf; arg 1; whnf))); (· rfl); (· rfl); (· (conv => (lhs; repeat (whnf; arg 2))))) | refine runk_end (by kernel_rfl) ?_ | (apply runk0 rfl rfl (opok_loadRA2 rfl ?_ ?_ ?_ ?_) ?_; rotate_left 2; (· (conv => (lhs; whnf))); (· rfl); (· (unfold sizeIs; conv => (lhs; whnf; arg 1; whnf))); (· rfl))))
            refine ⟨n2 - 1, by omega, i + 1, by omega, ?_⟩
            rw [hZ, eC]
            (refine leB_of ?_ ?_; (· (repeat (first | exact EnvIs.nil | (refine EnvIs.cons ?_ ?_; (· first | rfl | ((conv => (lhs; whnf)); first | (simp [ints]; done) | (simp [ints]; omega))))))); (· (repeat (first | exact ObjsAre.nil | (refine ObjsAre.cons ?_ ?_; (· first | rfl | ((conv => (lhs; whnf)); first | (simp [ints]; done) | (simp [ints]; omega))))))))
          | true =>
            rw [q0, Bool.true_and] at eC
            rw [q0] at c1
            cases q1 : sb m x <;> cases q2 : sb m y
            all_goals
              rw [q1] at bx
              rw [q2] at by'
              rw [q1, q2] at eC
              simp only [cond_true, cond_false, bne_self_eq_false, Bool.true_bne, Bool.false_bne, Bool.not_false, Bool.not_true, Int.add_zero] at bx by' eC
              (repeat (first | refine awp_reg_seq rfl fun k => ?_ | refine awp_reg rfl fun k => ?_ | refine awp_true rfl ?_ | refine awp_false rfl ?_ | refine awp_isF rfl (by assumption) ?_ | refine awp_skip (?_ : Awp _ _ _ _ _ _) | (apply runk_pure rfl rfl rfl ?_ ?_ ?_ ?_ ?_ ?_ ?_ ?_; rotate_left 6; (· (conv => (lhs; whnf))); (· exact Try.func19); (· rfl); (· rfl); (· exact (c1)); (· (repeat (first | exact Rens.nil | (refine Rens.cons ?_ ?_; (· first | exact Ren.own _ _ _ _ _ _ rfl List.mem_cons_self | exact Ren.own _ _ _ _ _ _ rfl (List.mem_cons_of_mem _ List.mem_cons_self) | (refine (Ren.own _ _ _ _ _ _ ?_ List.mem_cons_self); first | rfl | (simp; done)) | (refine (Ren.own _ _ _ _ _ _ ?_ (List.mem_cons_of_mem _ List.mem_cons_self)); first | rfl | (simp; done)) | exact Ren.ptr _ _ _ _ _ List.mem_cons_self | (refine Ren.pureR ?_ rfl; (first | rfl | (simp; done) | (simp [AVal.pure, AVal.pures, AObj.pure]; done)))))))); (· first | rfl | (simp; done) | simp [AVal.pure, AVal.pures, AObj.pure])) | (first | refine runk_ung rfl rfl rfl rfl ?_ | refine runk_ung rfl rfl rfl (by assumption) ?_) | (apply runk0 rfl rfl (opok_move rfl ?_) ?_; rotate_left 1; (· (conv => (lhs; whnf)))) | (apply runk0 rfl rfl (opok_assign rfl ?_) ?_; rotate_left 1; (· (conv => (lhs; whnf)))) | (apply runk_fa rfl rfl rfl ?_ rfl rfl ?_ ?_ ?_ ?_; rotate_left 5; (· (conv => (lhs; whnf))); (· (unfold sizeIs; conv => (lhs; whnf; arg 1; whnf))); (· rfl); (· (conv => (lhs; whnf)))) | (first | (apply runk0 rfl rfl (opok_load rfl ?_ ?_ ?_ ?_) ?_; rotate_left 5; (· (conv => (lhs; whnf))); (· (conv => (lhs; whnf; arg 1; whnf; arg 2; whnf))); (· rfl); (· (conv => (lhs; whnf; arg 1; whnf)))) | (apply runk0 rfl rfl (opok_loadR rfl ?_ ?_ ?_) ?_; rotate_left 2; (· (conv => (lhs; whnf))); (· rfl); (· (conv => (lhs; whnf; arg 1; whnf))))) | (apply runk0 rfl rfl (opok_bin rfl ?_ ?_ ?_) ?_; rotate_left 3; (· (conv => (lhs; whnf))); (· (conv => (lhs; whnf))); (· (intro w; go_simp; first | done | rfl))) | (apply runk0 rfl rfl (opok_conv rfl ?_ ?_) ?_; rotate_left 2; (· (conv => (lhs; whnf))); (· (intro w; go_simp; first | done | rfl))) | (apply runk0 rfl rfl (opok_pick rfl ?_ ?_) ?_; rotate_left 2; (· (conv => (lhs; whnf))); (· first | exact pick_or | exact pick_and | (conv => (lhs; whnf)))) | (apply runk_alloc rfl rfl rfl ?_ ?_ ?_; rotate_left 2; (· (conv => (lhs; whnf; arg 1; whnf))); (· (conv => (lhs; whnf)))) | (apply runk_store rfl rfl rfl ?_ ?_ ?_ ?_ ?_ ?_ ?_ ?_ ?_ ?_ ?_; rotate_left 9; (· (conv => (lhs; whnf))); (· (conv => (lhs; whnf))); (· (conv => (lhs; whnf; arg 1; whnf; arg 2; whnf))); (· rfl); (· (conv => (lhs; whnf))); (· rfl); (· (unfold sizeIs; conv => (lhs; whnf; arg 1; whnf))); (· rfl); (· rfl); (· (conv => (lhs; repeat (whnf; arg 2))))) | refine runk_end (by kernel_rfl) ?_ | (apply runk0 rfl rfl (opok_loadRA2 rfl ?_ ?_ ?_ ?_) ?_; rotate_left 2; (· (conv => (lhs; whnf))); (· rfl); (· (unfold sizeIs; conv => (lhs; whnf; arg 1; whnf))); (· rfl))))
              refine ⟨n2 - 1, by omega, i + 1, by omega, ?_⟩
              rw [hZ, eC]
              (refine leB_of ?_ ?_; (· (repeat (first | exact EnvIs.nil | (refine EnvIs.cons ?_ ?_; (· first | rfl | ((conv => (lhs; whnf)); first | (simp [ints]; done) | (simp [ints]; omega))))))); (· (repeat (first | exact ObjsAre.nil | (refine ObjsAre.cons ?_ ?_; (· first | rfl | ((conv => (lhs; whnf)); first | (simp [ints]; done) | (simp [ints]; omega))))))))
        · have hie : i = ls.length := by simp at hc; omega
          subst hie
          clear hc vSm vRm f1 hWk hwk b8
          generalize C ls.length = cv at *
          refine awp_exit (?_ : Awp _ _ _ _ _ _)
          cases q1 : decide (lm < 0) with
          | true =>
            rw [q1, Bool.true_or, cond_true] at eL
            (repeat (first | refine awp_reg_seq rfl fun k => ?_ | refine awp_reg rfl fun k => ?_ | refine awp_true rfl ?_ | (first | refine runk_off rfl rfl rfl rfl rfl ?_ | refine runk_off rfl rfl rfl (by assumption) rfl ?_ | refine runk_offN rfl rfl rfl rfl rfl ?_ | refine runk_offU rfl rfl rfl rfl ?_ | refine runk_offUN rfl rfl rfl rfl ?_) | (apply runk0 rfl rfl (opok_move rfl ?_) ?_; rotate_left 1; (· (conv => (lhs; whnf)))) | (apply runk0 rfl rfl (opok_assign rfl ?_) ?_; rotate_left 1; (· (conv => (lhs; whnf)))) | (apply runk0 rfl rfl (opok_bin rfl ?_ ?_ ?_) ?_; rotate_left 3; (· (conv => (lhs; whnf))); (· (conv => (lhs; whnf))); (· (intro w; go_simp; first | done | rfl))) | (apply runk0 rfl rfl (opok_pick rfl ?_ ?_) ?_; rotate_left 2; (· (conv => (lhs; whnf))); (· first | exact pick_or | exact pick_and | (conv => (lhs; whnf)))) | refine runk_end (by kernel_rfl) ?_))
            refine ⟨n - 1, by omega, m + 1, by omega, ?_⟩
            rw [hY, eL]
            (refine leB_of ?_ ?_; (· (repeat (first | exact EnvIs.nil | (refine EnvIs.cons ?_ ?_; (· first | rfl | ((conv => (lhs; whnf)); first | (simp [ints]; done) | (simp [ints]; omega))))))); (· (repeat (first | exact ObjsAre.nil | (refine ObjsAre.cons ?_ ?_; (· first | rfl | ((conv => (lhs; whnf)); first | (simp [ints]; done) | (simp [ints]; omega))))))))
          | false =>
            cases q2 : decide (cv < lm) with
            | true =>
              rw [q1, q2, Bool.false_or, cond_true] at eL
              (repeat (first | refine awp_reg_seq rfl fun k => ?_ | refine awp_reg rfl fun k => ?_ | refine awp_true rfl ?_ | (first | refine runk_ung rfl rfl rfl rfl ?_ | refine runk_ung rfl rfl rfl (by assumption) ?_) | (apply runk0 rfl rfl (opok_move rfl ?_) ?_; rotate_left 1; (· (conv => (lhs; whnf)))) | (apply runk0 rfl rfl (opok_assign rfl ?_) ?_; rotate_left 1; (· (conv => (lhs; whnf)))) | (apply runk0 rfl rfl (opok_bin rfl ?_ ?_ ?_) ?_; rotate_left 3; (· (conv => (lhs; whnf))); (· (conv => (lhs; whnf))); (· (intro w; go_simp; first | done | rfl))) | (apply runk0 rfl rfl (opok_pick rfl ?_ ?_) ?_; rotate_left 2; (· (conv => (lhs; whnf))); (· first | exact pick_or | exact pick_and | (conv => (lhs; whnf)))) | refine runk_end (by kernel_rfl) ?_))
              refine ⟨n - 1, by omega, m + 1, by omega, ?_⟩
              rw [hY, eL]
              (refine leB_of ?_ ?_; (· (repeat (first | exact EnvIs.nil | (refine EnvIs.cons ?_ ?_; (· first | rfl | ((conv => (lhs; whnf)); first | (simp [ints]; done) | (simp [ints]; omega))))))); (· (repeat (first | exact ObjsAre.nil | (refine ObjsAre.cons ?_ ?_; (· first | rfl | ((conv => (lhs; whnf)); first | (simp [ints]; done) | (simp [ints]; omega))))))))
            | false =>
              rw [q1, q2, Bool.false_or, cond_false] at eL
              (repeat (first | refine awp_reg_seq rfl fun k => ?_ | refine awp_reg rfl fun k => ?_ | refine awp_false rfl ?_ | refine awp_skip (?_ : Awp _ _ _ _ _ _) | (first | refine runk_ung rfl rfl rfl rfl ?_ | refine runk_ung rfl rfl rfl (by assumption) ?_) | (apply runk0 rfl rfl (opok_move rfl ?_) ?_; rotate_left 1; (· (conv => (lhs; whnf)))) | (apply runk0 rfl rfl (opok_bin rfl ?_ ?_ ?_) ?_; rotate_left 3; (· (conv => (lhs; whnf))); (· (conv => (lhs; whnf))); (· (intro w; go_simp; first | done | rfl))) | (apply runk0 rfl rfl (opok_pick rfl ?_ ?_) ?_; rotate_left 2; (· (conv => (lhs; whnf))); (· first | exact pick_or | exact pick_and | (conv => (lhs; whnf)))) | refine runk_end (by kernel_rfl) ?_))
              refine ⟨n - 1, by omega, m + 1, by omega, ?_⟩
              rw [hY, eL]
              (refine leB_of ?_ ?_; (· (repeat (first | exact EnvIs.nil | (refine EnvIs.cons ?_ ?_; (· first | rfl | ((conv => (lhs; whnf)); first | (simp [ints]; done) | (simp [ints]; omega))))))); (· (repeat (first | exact ObjsAre.nil | (refine ObjsAre.cons ?_ ?_; (· first | rfl | ((conv => (lhs; whnf)); first | (simp [ints]; done) | (simp [ints]; omega))))))))
  · have hie : PN = m := by simp at hc; omega
    subst hie
    clear hc lS l0 v0 vS vR f1 hWk hwk
    generalize L PN = lm at *
    refine awp_exit (?_ : Awp _ _ _ _ _ _)
    (repeat (first | refine awp_reg_seq rfl fun k => ?_ | (refine awp_ret ?_; (apply ends_pure ?_ ?_ ?_ ?_ ?_ (.inl rfl); rotate_left 1; (· first | exact res_one rfl rfl | exact res_two rfl rfl rfl | exact res_none rfl | exact res_three rfl rfl rfl rfl | exact res_cell rfl rfl rfl rfl rfl | exact res_cell2 rfl rfl rfl rfl rfl rfl | exact res3 rfl (rv_cell rfl rfl rfl rfl) (rv_tmp rfl) (rv_tmp rfl) | exact res3 rfl (rv_cell rfl rfl rfl rfl) (rv_cell rfl rfl rfl rfl) (rv_cell rfl rfl rfl rfl)); (· first | rfl | ((conv => (lhs; whnf)); first | rfl | (simp; done))); (· first | rfl | (simp; done) | (simp [AVal.pure, AVal.pures, AObj.pure]; done)); (· rfl); (· rfl))) | (apply runk0 rfl rfl (opok_move rfl ?_) ?_; rotate_left 1; (· (conv => (lhs; whnf)))) | (apply runk0 rfl rfl (opok_assign rfl ?_) ?_; rotate_left 1; (· (conv => (lhs; whnf)))) | refine runk_end (by kernel_rfl) ?_))
end Go.Proofs.Ytlmgbfbcaokedaa
