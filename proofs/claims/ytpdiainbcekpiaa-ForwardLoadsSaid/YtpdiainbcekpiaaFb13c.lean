/-
  Layer 13: distances, of the program, by states.
-/
import Derived.Test.YtpdiainbcekpiaaFb13b
namespace Go.Proofs.Ytpdiainbcekpiaa
open Go.RowKit
def rx1 (n : Int) (a b : Nat) (d : List Int) : List Int := bif (d.getD a 0 == n) && decide (d.getD b 0 < 0) then d.set b (n + 1) else d
def rx (n : Int) (a b : Nat) (d : List Int) : List Int := rx1 n b a (rx1 n a b d)
def rxL (f : FK) (n : Int) (L d : List Int) : List Int := L.foldl (fun d x => rx n (f.la x.toNat) (f.lb x.toNat) d) d
def rxN (f : FK) (L : List Int) : Nat → List Int → List Int
  | 0, d => d
  | m + 1, d => rxL f m L (rxN f L m d)
def distZ (f : FK) (L : List Int) (to : Int) : List Int := bif f.al to then rxN f L f.sw.toNat ((List.replicate 8 (-1)).set to.toNat 0) else List.replicate 8 (-1)
@[simp] theorem rx1_len (n : Int) (a b : Nat) (d : List Int) : (rx1 n a b d).length = d.length := by
  unfold rx1
  cases (d.getD a 0 == n) && decide (d.getD b 0 < 0) <;> simp
@[simp] theorem rx_len (n : Int) (a b : Nat) (d : List Int) : (rx n a b d).length = d.length := by simp [rx]
@[simp] theorem rxL_len (f : FK) (n : Int) (L d : List Int) : (rxL f n L d).length = d.length := by
  unfold rxL
  induction L generalizing d with
  | nil => rfl
  | cons x L ih => rw [List.foldl_cons, ih]; simp
@[simp] theorem rxN_len (f : FK) (L : List Int) (m : Nat) (d : List Int) : (rxN f L m d).length = d.length := by
  induction m with
  | zero => rfl
  | succ m ih => unfold rxN; rw [rxL_len, ih]
theorem distZ_len (f : FK) (L : List Int) (to : Int) : (distZ f L to).length = 8 := by
  unfold distZ
  cases f.al to <;> simp
theorem rxL_take (f : FK) (n : Int) (L d : List Int) {k : Nat} (h : k < L.length) : rxL f n (L.take (k + 1)) d = rx n (f.la (L.getD k 0).toNat) (f.lb (L.getD k 0).toNat) (rxL f n (L.take k) d) := by
  unfold rxL
  rw [List.take_succ_eq_append_getElem h, List.foldl_append]
  simp [List.getD_eq_getElem?_getD, h]
theorem eight {d : List Int} (h : d.length = 8) : ∃ a b c e f g i j : Int, d = [a, b, c, e, f, g, i, j] := by
  match d, h with
  | [a, b, c, e, f, g, i, j], _ => exact ⟨a, b, c, e, f, g, i, j, rfl⟩
set_option maxHeartbeats 64000000 in
set_option maxRecDepth 100000 in
theorem distances_spec {F : FK} (h : F.ok = true) (L : List Int) (to : Int) (hL : ∀ k, k < L.length → ∃ i : Nat, L.getD k 0 = i ∧ i < F.ls.length) (hLl : L.length ≤ 1000) : Spec Try.prog 29 [.agg F.A, .ro (ints .i64 L), .val (.int .i64 to)] [] (.agg (ints .i64 (distZ F L to))) [] := by
  have sa := alive_spec h to
  obtain ⟨hs1, hs8, -, -, hdd, -⟩ := FK.ok_facts h
  have hend : ∀ i, i < F.ls.length → (F.ls.map lkA)[i]? = some (.agg [.val (.int .i64 (F.la i : Int)), .val (.int .i64 (F.lb i : Int)), .val (.int .i64 (F.ls.getD i (0, 0, 0)).2.2)]) ∧ F.la i < 8 ∧ F.lb i < 8 := fun i hi => by
    obtain ⟨e1, e2, ha, hb, -⟩ := FK.ends h hi
    have hx := lk_at F.ls hi
    rw [e1, e2] at hx
    exact ⟨hx, by omega, by omega⟩
  have hal : F.al to = true → ∃ n : Nat, to = n ∧ n < 8 := fun g => by
    simp only [FK.al, Bool.and_eq_true, decide_eq_true_eq] at g
    exact ⟨to.toNat, by omega, by omega⟩
  clear h hdd
  obtain ⟨sn, hsn⟩ : ∃ n : Nat, F.sw = n := ⟨F.sw.toNat, by omega⟩
  obtain ⟨FAv, hFA⟩ : ∃ x, F.A = x := ⟨_, rfl⟩
  have hFA2 : FAv = [.val (.int .i64 F.sw), .ro (F.ls.map lkA), .ro (bls F.dn), .ro (bls F.dd)] := by rw [← hFA]; rfl
  rw [hFA] at sa ⊢
  rw [hFA2] at sa ⊢
  clear hFA hFA2 FAv
  have e8 := eight (distZ_len F L to)
  unfold distZ at e8 ⊢
  generalize hls : F.ls = ls at *
  generalize hsw : F.sw = sw at *
  generalize F.dn = dn at *
  generalize F.dd = dd at *
  have c1 : IntKind.i64.wrap (-1) = -1 := rfl
  have g1 : IntKind.i64.wrap 1 = 1 := rfl
  have g2 : IntKind.i64.wrap 2 = 2 := rfl
  have g3 : IntKind.i64.wrap 3 = 3 := rfl
  have g4 : IntKind.i64.wrap 4 = 4 := rfl
  have g5 : IntKind.i64.wrap 5 = 5 := rfl
  have g6 : IntKind.i64.wrap 6 = 6 := rfl
  have g7 : IntKind.i64.wrap 7 = 7 := rfl
  have g8 : IntKind.i64.wrap 8 = 8 := rfl
  refine spec_of_awp Try.func29 rfl (Nat.le_of_ble_eq_true rfl) fun ini => ?_
  simp only [Try.ntmps29]
  (repeat (first | refine awp_reg_seq rfl fun k => ?_ | refine awp_seq ?_ | refine awp_block ?_ | (apply runk0 rfl rfl (opok_box_ro rfl ?_ ?_ ?_) ?_; rotate_left 2; (· (conv => (lhs; whnf))); (· rfl); (· (conv => (lhs; whnf)))) | (apply runk0 rfl rfl (opok_move rfl ?_) ?_; rotate_left 1; (· (conv => (lhs; whnf)))) | (apply runk_alloc rfl rfl rfl ?_ ?_ ?_; rotate_left 2; (· (conv => (lhs; whnf; arg 1; whnf))); (· (conv => (lhs; whnf)))) | refine runk_end (by kernel_rfl) ?_))
  rename_i k6 k7
  refine awp_less (st' := ⟨[(14, .val (.int .i64 0)), (1, .ro (ints .i64 L)), (2, .val (.int .i64 to)), (3, .rref [.val (.int .i64 sw), .ro (ls.map lkA), .ro (bls dn), .ro (bls dd)]), (6, .ptr 6 k6 0), (7, .ptr 7 k7 0)], [(6, some (k6, .box 61 [.val (.int .i64 0), .val (.int .i64 0), .val (.int .i64 0), .val (.int .i64 0), .val (.int .i64 0), .val (.int .i64 0), .val (.int .i64 0), .val (.int .i64 0)])), (7, some (k7, .box 61 [.val (.int .i64 0), .val (.int .i64 0), .val (.int .i64 0), .val (.int .i64 0), .val (.int .i64 0), .val (.int .i64 0), .val (.int .i64 0), .val (.int .i64 0)]))]⟩) ?_ ?_
  · (refine leB_of ?_ ?_; (· (repeat (first | exact EnvIs.nil | (refine EnvIs.cons ?_ ?_; (· first | rfl | ((conv => (lhs; whnf)); first | (simp [ints]; done) | (simp [ints]; omega))))))); (· (repeat (first | exact ObjsAre.nil | (refine ObjsAre.cons ?_ ?_; (· first | rfl | ((conv => (lhs; whnf)); first | (simp [ints]; done) | (simp [ints]; omega))))))))
  refine awp_rounds 9 ?_
  cases hq : F.al to with
  | false =>
    rw [hq] at sa
    clear hal hend hL e8
    simp only [cond_false]
    (repeat (first | refine awp_reg_seq rfl fun k => ?_ | refine awp_reg rfl fun k => ?_ | refine awp_seq ?_ | refine awp_true rfl ?_ | refine awp_false rfl ?_ | refine awp_skip (?_ : Awp _ _ _ _ _ _) | refine awp_block ?_ | refine awp_exit (?_ : Awp _ _ _ _ _ _) | (refine awp_ret ?_; (apply ends_pure ?_ ?_ ?_ ?_ ?_ (.inl rfl); rotate_left 1; (· first | exact res_one rfl rfl | exact res_two rfl rfl rfl | exact res_none rfl | exact res_three rfl rfl rfl rfl | exact res_cell rfl rfl rfl rfl rfl | exact res_cell2 rfl rfl rfl rfl rfl rfl | exact res3 rfl (rv_cell rfl rfl rfl rfl) (rv_tmp rfl) (rv_tmp rfl) | exact res3 rfl (rv_cell rfl rfl rfl rfl) (rv_cell rfl rfl rfl rfl) (rv_cell rfl rfl rfl rfl)); (· first | rfl | ((conv => (lhs; whnf)); first | rfl | (simp; done))); (· first | rfl | (simp; done) | (simp [AVal.pure, AVal.pures, AObj.pure]; done)); (· rfl); (· rfl))) | (((apply runk0 rfl rfl (opok_indexP rfl ?_ ?_ rfl ?_ ?_ ?_) ?_; rotate_left 6; (· (conv => (lhs; whnf))); (· (conv => (lhs; whnf))); (· (unfold sizeIs; conv => (lhs; whnf; arg 1; whnf))); (· first | omega | (simp; done) | (simp; omega)); (· first | omega | (simp; done) | (simp; omega))))) | (((apply runk_storeI rfl rfl rfl ?_ ?_ ?_ ?_ ?_ ?_ ?_ ?_ ?_; rotate_left 7; (· (conv => (lhs; whnf))); (· rfl); (· (conv => (lhs; whnf))); (· rfl); (· rfl); (· (unfold sizeIs; conv => (lhs; whnf; arg 1; whnf))); (· first | (simp; done) | (simp; omega) | omega); (· rfl)))) | (apply runk_pure rfl rfl rfl ?_ ?_ ?_ ?_ ?_ ?_ ?_ ?_; rotate_left 6; (· (conv => (lhs; whnf))); (· exact Try.func33); (· rfl); (· rfl); (· exact (sa)); (· (repeat (first | exact Rens.nil | (refine Rens.cons ?_ ?_; (· first | exact Ren.own _ _ _ _ _ _ rfl List.mem_cons_self | exact Ren.own _ _ _ _ _ _ rfl (List.mem_cons_of_mem _ List.mem_cons_self) | (refine (Ren.own _ _ _ _ _ _ ?_ List.mem_cons_self); first | rfl | (simp; done)) | (refine (Ren.own _ _ _ _ _ _ ?_ (List.mem_cons_of_mem _ List.mem_cons_self)); first | rfl | (simp; done)) | exact Ren.ptr _ _ _ _ _ List.mem_cons_self | (refine Ren.pureR ?_ rfl; (first | rfl | (simp; done) | (simp [AVal.pure, AVal.pures, AObj.pure]; done)))))))); (· first | rfl | (simp; done) | simp [AVal.pure, AVal.pures, AObj.pure])) | (apply runk0 rfl rfl (opok_move rfl ?_) ?_; rotate_left 1; (· (conv => (lhs; whnf)))) | (apply runk0 rfl rfl (opok_assign rfl ?_) ?_; rotate_left 1; (· (conv => (lhs; whnf)))) | (apply runk0 rfl rfl (opok_loadA rfl ?_ ?_ ?_ ?_ ?_ ?_) ?_; rotate_left 6; (· (conv => (lhs; whnf))); (· (conv => (lhs; whnf; arg 1; whnf; arg 2; whnf))); (· rfl); (· (unfold sizeIs; conv => (lhs; whnf; arg 1; whnf))); (· (conv => (lhs; repeat (whnf; arg 2)))); (· rfl)) | (apply runk0 rfl rfl (opok_bin rfl ?_ ?_ ?_) ?_; rotate_left 3; (· (conv => (lhs; whnf))); (· (conv => (lhs; whnf))); (· (intro w; go_simp; first | done | rfl))) | (apply runk0 rfl rfl (opok_un rfl ?_ ?_) ?_; rotate_left 2; (· (conv => (lhs; whnf))); (· (intro w; go_simp; first | done | rfl))) | (apply runk0 rfl rfl (opok_extract rfl ?_ ?_) ?_; rotate_left 2; (· (conv => (lhs; whnf))); (· (conv => (lhs; whnf; arg 1; whnf)))) | (apply runk_store rfl rfl rfl ?_ ?_ ?_ ?_ ?_ ?_ ?_ ?_ ?_ ?_ ?_; rotate_left 9; (· (conv => (lhs; whnf))); (· (conv => (lhs; whnf))); (· (conv => (lhs; whnf; arg 1; whnf; arg 2; whnf))); (· rfl); (· (conv => (lhs; whnf))); (· rfl); (· (unfold sizeIs; conv => (lhs; whnf; arg 1; whnf))); (· rfl); (· rfl); (· (conv => (lhs; repeat (whnf; arg 2))))) | refine runk_end (by kernel_rfl) ?_ | (apply runk0 rfl rfl (opok_loadRA2 rfl ?_ ?_ ?_ ?_) ?_; rotate_left 2; (· (conv => (lhs; whnf))); (· rfl); (· (unfold sizeIs; conv => (lhs; whnf; arg 1; whnf))); (· rfl))))
  | true =>
    rw [hq] at sa e8
    obtain ⟨tn, rfl, htn⟩ := hal hq
    clear hq
    simp only [cond_true, Int.toNat_natCast] at e8 ⊢
    (repeat (first | refine awp_reg_seq rfl fun k => ?_ | refine awp_reg rfl fun k => ?_ | refine awp_seq ?_ | refine awp_true rfl ?_ | refine awp_false rfl ?_ | refine awp_skip (?_ : Awp _ _ _ _ _ _) | refine awp_block ?_ | refine awp_exit (?_ : Awp _ _ _ _ _ _) | (((apply runk0 rfl rfl (opok_indexP rfl ?_ ?_ rfl ?_ ?_ ?_) ?_; rotate_left 6; (· (conv => (lhs; whnf))); (· (conv => (lhs; whnf))); (· (unfold sizeIs; conv => (lhs; whnf; arg 1; whnf))); (· first | omega | (simp; done) | (simp; omega)); (· first | omega | (simp; done) | (simp; omega))))) | (((apply runk_storeI rfl rfl rfl ?_ ?_ ?_ ?_ ?_ ?_ ?_ ?_ ?_; rotate_left 7; (· (conv => (lhs; whnf))); (· rfl); (· (conv => (lhs; whnf))); (· rfl); (· rfl); (· (unfold sizeIs; conv => (lhs; whnf; arg 1; whnf))); (· first | (simp; done) | (simp; omega) | omega); (· rfl)))) | (apply runk_pure rfl rfl rfl ?_ ?_ ?_ ?_ ?_ ?_ ?_ ?_; rotate_left 6; (· (conv => (lhs; whnf))); (· exact Try.func33); (· rfl); (· rfl); (· exact (sa)); (· (repeat (first | exact Rens.nil | (refine Rens.cons ?_ ?_; (· first | exact Ren.own _ _ _ _ _ _ rfl List.mem_cons_self | exact Ren.own _ _ _ _ _ _ rfl (List.mem_cons_of_mem _ List.mem_cons_self) | (refine (Ren.own _ _ _ _ _ _ ?_ List.mem_cons_self); first | rfl | (simp; done)) | (refine (Ren.own _ _ _ _ _ _ ?_ (List.mem_cons_of_mem _ List.mem_cons_self)); first | rfl | (simp; done)) | exact Ren.ptr _ _ _ _ _ List.mem_cons_self | (refine Ren.pureR ?_ rfl; (first | rfl | (simp; done) | (simp [AVal.pure, AVal.pures, AObj.pure]; done)))))))); (· first | rfl | (simp; done) | simp [AVal.pure, AVal.pures, AObj.pure])) | (apply runk0 rfl rfl (opok_move rfl ?_) ?_; rotate_left 1; (· (conv => (lhs; whnf)))) | (apply runk0 rfl rfl (opok_assign rfl ?_) ?_; rotate_left 1; (· (conv => (lhs; whnf)))) | (first | (apply runk0 rfl rfl (opok_load rfl ?_ ?_ ?_ ?_) ?_; rotate_left 5; (· (conv => (lhs; whnf))); (· (conv => (lhs; whnf; arg 1; whnf; arg 2; whnf))); (· rfl); (· (conv => (lhs; whnf; arg 1; whnf)))) | (apply runk0 rfl rfl (opok_loadR rfl ?_ ?_ ?_) ?_; rotate_left 2; (· (conv => (lhs; whnf))); (· rfl); (· (conv => (lhs; whnf; arg 1; whnf))))) | (apply runk0 rfl rfl (opok_bin rfl ?_ ?_ ?_) ?_; rotate_left 3; (· (conv => (lhs; whnf))); (· (conv => (lhs; whnf))); (· (intro w; go_simp; first | done | rfl))) | (apply runk0 rfl rfl (opok_un rfl ?_ ?_) ?_; rotate_left 2; (· (conv => (lhs; whnf))); (· (intro w; go_simp; first | done | rfl))) | (apply runk0 rfl rfl (opok_extract rfl ?_ ?_) ?_; rotate_left 2; (· (conv => (lhs; whnf))); (· (conv => (lhs; whnf; arg 1; whnf)))) | refine runk_end (by kernel_rfl) ?_ | (apply runk0 rfl rfl (opok_faR rfl ?_ rfl rfl ?_ ?_ ?_) ?_; rotate_left 3; (· (conv => (lhs; whnf))); (· (unfold sizeIs; conv => (lhs; whnf; arg 1; whnf))); (· rfl); (· (conv => (lhs; (repeat (whnf; arg 2)); whnf)))) | (apply runk0 rfl rfl (opok_loadRA2 rfl ?_ ?_ ?_ ?_) ?_; rotate_left 2; (· (conv => (lhs; whnf))); (· rfl); (· (unfold sizeIs; conv => (lhs; whnf; arg 1; whnf))); (· rfl))))
    clear sa c1 g1 g2 g3 g4 g5 g6 g7 g8
    generalize hd0 : (List.replicate 8 (-1 : Int)).set tn 0 = d0 at e8 ⊢
    have hl0 : d0.length = 8 := by rw [← hd0]; simp
    refine awp_less (st' := ⟨[(28, .val (.int .i64 sw)), (29, .val (.int .i64 0)), (1, .ro (ints .i64 L)), (3, .rref [.val (.int .i64 sw), .ro (ls.map lkA), .ro (bls dn), .ro (bls dd)]), (6, .ptr 6 k6 0), (7, .ptr 7 k7 0)], [(6, some (k6, .box 61 [.val (.int .i64 0), .val (.int .i64 0), .val (.int .i64 0), .val (.int .i64 0), .val (.int .i64 0), .val (.int .i64 0), .val (.int .i64 0), .val (.int .i64 0)])), (7, some (k7, .box 61 (ints .i64 d0)))]⟩) ?_ ?_
    · rw [← hd0]
      (refine leB_of ?_ ?_; (· (repeat (first | exact EnvIs.nil | (refine EnvIs.cons ?_ ?_; (· first | rfl | ((conv => (lhs; whnf)); first | (simp [ints, List.map_set, List.replicate]; done) | (simp [ints, List.map_set, List.replicate]; omega))))))); (· (repeat (first | exact ObjsAre.nil | (refine ObjsAre.cons ?_ ?_; (· first | rfl | ((conv => (lhs; whnf)); first | (simp [ints, List.map_set, List.replicate]; done) | (simp [ints, List.map_set, List.replicate]; omega))))))))
    clear hd0
    subst hsn
    rw [Int.toNat_natCast] at e8 ⊢
    refine awp_loop (fun n st => ∃ m : Nat, m + n = sn ∧ st.leB ⟨[(28, .val (.int .i64 (sn : Int))), (29, .val (.int .i64 (m : Int))), (1, .ro (ints .i64 L)), (3, .rref [.val (.int .i64 (sn : Int)), .ro (ls.map lkA), .ro (bls dn), .ro (bls dd)]), (6, .ptr 6 k6 0), (7, .ptr 7 k7 0)], [(6, some (k6, .box 61 [.val (.int .i64 0), .val (.int .i64 0), .val (.int .i64 0), .val (.int .i64 0), .val (.int .i64 0), .val (.int .i64 0), .val (.int .i64 0), .val (.int .i64 0)])), (7, some (k7, .box 61 (ints .i64 (rxN F L m d0))))]⟩) sn ⟨0, by omega, ?_⟩ ?_
    · (refine leB_of ?_ ?_; (· (repeat (first | exact EnvIs.nil | (refine EnvIs.cons ?_ ?_; (· first | rfl | ((conv => (lhs; whnf)); first | (simp [rxN]; done) | (simp [rxN]; omega))))))); (· (repeat (first | exact ObjsAre.nil | (refine ObjsAre.cons ?_ ?_; (· first | rfl | ((conv => (lhs; whnf)); first | (simp [rxN]; done) | (simp [rxN]; omega))))))))
    · rintro n st ⟨m, hm, hle⟩
      refine awp_less hle ?_
      clear hle st
      (repeat (first | refine awp_reg_seq rfl fun k => ?_ | refine awp_seq ?_ | (apply runk0 rfl rfl (opok_bin rfl ?_ ?_ ?_) ?_; rotate_left 3; (· (conv => (lhs; whnf))); (· (conv => (lhs; whnf))); (· (intro w; go_simp; first | done | rfl))) | refine runk_end (by kernel_rfl) ?_))
      refine awp_if rfl (fun hc => ?_) (fun hc => ?_)
      · have hlt : m < sn := by simp at hc; omega
        clear hc
        have wm : IntKind.i64.wrap ((m : Int) + 1) = ((m + 1 : Nat) : Int) := by rw [IntKind.wrap_i64]; omega
        have eN : rxN F L (m + 1) d0 = rxL F m L (rxN F L m d0) := rfl
        have hDl : (rxN F L m d0).length = 8 := by rw [rxN_len, hl0]
        generalize hDn : rxN F L (m + 1) d0 = DN at *
        generalize rxN F L m d0 = D at *
        (repeat (first | refine awp_reg_seq rfl fun k => ?_ | refine awp_seq ?_ | refine awp_skip (?_ : Awp _ _ _ _ _ _) | refine awp_block ?_ | (apply runk0 rfl rfl (opok_move rfl ?_) ?_; rotate_left 1; (· (conv => (lhs; whnf)))) | (apply runk0 rfl rfl (opok_assign rfl ?_) ?_; rotate_left 1; (· (conv => (lhs; whnf)))) | (first | (apply runk0 rfl rfl (opok_lenO rfl ?_ ?_ ?_) ?_; rotate_left 5; (· (conv => (lhs; whnf))); (· (conv => (lhs; whnf; arg 1; whnf))); (· first | exact length_ints _ _ | rfl)) | (apply runk0 rfl rfl (opok_len_own rfl ?_ ?_) ?_; rotate_left 4; (· (conv => (lhs; whnf))); (· (conv => (lhs; whnf; arg 1; whnf)))) | (apply runk0 rfl rfl (opok_len rfl ?_ ?_ ?_) ?_; rotate_left 3; (· (conv => (lhs; whnf))); (· (conv => (lhs; whnf; arg 1; whnf))); (· first | exact length_ints _ _ | rfl))) | refine runk_end (by kernel_rfl) ?_))
        refine awp_loop (fun n2 st => ∃ p : Nat, p + n2 = L.length ∧ st.leB ⟨[(34, .val (.int .i64 (p : Int))), (9, .val (.int .i64 (m : Int))), (28, .val (.int .i64 (sn : Int))), (29, .val (.int .i64 (m : Int))), (32, .ro (ints .i64 L)), (33, .val (.int .i64 (L.length : Int))), (1, .ro (ints .i64 L)), (3, .rref [.val (.int .i64 (sn : Int)), .ro (ls.map lkA), .ro (bls dn), .ro (bls dd)]), (6, .ptr 6 k6 0), (7, .ptr 7 k7 0)], [(6, some (k6, .box 61 [.val (.int .i64 0), .val (.int .i64 0), .val (.int .i64 0), .val (.int .i64 0), .val (.int .i64 0), .val (.int .i64 0), .val (.int .i64 0), .val (.int .i64 0)])), (7, some (k7, .box 61 (ints .i64 (rxL F m (L.take p) D))))]⟩) L.length ⟨0, by omega, ?_⟩ ?_
        · (refine leB_of ?_ ?_; (· (repeat (first | exact EnvIs.nil | (refine EnvIs.cons ?_ ?_; (· first | rfl | ((conv => (lhs; whnf)); first | (simp [rxL]; done) | (simp [rxL]; omega))))))); (· (repeat (first | exact ObjsAre.nil | (refine ObjsAre.cons ?_ ?_; (· first | rfl | ((conv => (lhs; whnf)); first | (simp [rxL]; done) | (simp [rxL]; omega))))))))
        · rintro n2 st ⟨p, hp, hle⟩
          refine awp_less hle ?_
          clear hle st
          (repeat (first | refine awp_reg_seq rfl fun k => ?_ | refine awp_seq ?_ | (apply runk0 rfl rfl (opok_bin rfl ?_ ?_ ?_) ?_; rotate_left 3; (· (conv => (lhs; whnf))); (· (conv => (lhs; whnf))); (· (intro w; go_simp; first | done | rfl))) | refine runk_end (by kernel_rfl) ?_))
          refine awp_if rfl (fun hc => ?_) (fun hc => ?_)
          · have hlt2 : p < L.length := by simpa using hc
            clear hc e8
            have wp : IntKind.i64.wrap ((p : Int) + 1) = ((p + 1 : Nat) : Int) := by rw [IntKind.wrap_i64]; omega
            have hx : (ints .i64 L)[p]? = some (.val (.int .i64 (L.getD p 0))) := ints_getD .i64 L p hlt2
            obtain ⟨i, hi, hil⟩ := hL p hlt2
            have eT := rxL_take F m L D hlt2
            have hRl : (rxL F m (L.take p) D).length = 8 := by rw [rxL_len, hDl]
            obtain ⟨hy, ha, hb⟩ := hend i hil
            rw [hi] at hx eT
            rw [Int.toNat_natCast] at eT
            generalize rxL F m (L.take p) D = R at *
            generalize hR2 : rxL F m (L.take (p + 1)) D = R2 at *
            generalize F.la i = a at *
            generalize F.lb i = b at *
            generalize (ls.getD i (0, 0, 0)).2.2 = cc at *
            unfold rx at eT
            clear hL hend hi eN hDn
            (repeat (first | refine awp_reg_seq rfl fun k => ?_ | refine awp_seq ?_ | refine awp_skip (?_ : Awp _ _ _ _ _ _) | refine awp_block ?_ | (apply runk0 rfl rfl (opok_move rfl ?_) ?_; rotate_left 1; (· (conv => (lhs; whnf)))) | (apply runk0 rfl rfl (opok_assign rfl ?_) ?_; rotate_left 1; (· (conv => (lhs; whnf)))) | (first | (apply runk0 rfl rfl (opok_load rfl ?_ ?_ ?_ ?_) ?_; rotate_left 5; (· (conv => (lhs; whnf))); (· (conv => (lhs; whnf; arg 1; whnf; arg 2; whnf))); (· rfl); (· (conv => (lhs; whnf; arg 1; whnf)))) | (apply runk0 rfl rfl (opok_loadR rfl ?_ ?_ ?_) ?_; rotate_left 2; (· (conv => (lhs; whnf))); (· rfl); (· (conv => (lhs; whnf; arg 1; whnf))))) | refine runk_end (by kernel_rfl) ?_ | (apply runk0 rfl rfl (opok_faR rfl ?_ rfl rfl ?_ ?_ ?_) ?_; rotate_left 3; (· (conv => (lhs; whnf))); (· (unfold sizeIs; conv => (lhs; whnf; arg 1; whnf))); (· rfl); (· (conv => (lhs; (repeat (whnf; arg 2)); whnf)))) | (apply runk0 rfl rfl (opok_index_ro rfl ?_ ?_ ?_ ?_ ?_ ?_ ?_) ?_; rotate_left 6; (· (conv => (lhs; whnf))); (· (conv => (lhs; whnf))); (· (conv => (lhs; whnf; arg 1; whnf))); (· (unfold sizeIs; conv => (lhs; whnf; arg 1; whnf))); (· first | exact widths_ints _ _ | rfl | simp [widths, AVal.flat]); (· first | omega | (simp; done) | (simp; omega)); (· first | assumption | (simp only [Int.toNat_natCast]; assumption) | (simp only [Int.reduceToNat]; assumption)))))
            (apply runk0 rfl rfl (opok_index_ro rfl ?_ ?_ ?_ ?_ ?_ ?_ ?_) ?_; rotate_left 6; (· (conv => (lhs; whnf))); (· (conv => (lhs; whnf))); (· (conv => (lhs; whnf; arg 1; whnf))); (· (unfold sizeIs; conv => (lhs; whnf; arg 1; whnf))); (· simp); (· first | omega | (simp; done) | (simp; omega)); (· simp only [Int.toNat_natCast]; exact hy))
            (repeat (first | (apply runk0 rfl rfl (opok_move rfl ?_) ?_; rotate_left 1; (· (conv => (lhs; whnf)))) | (first | (apply runk0 rfl rfl (opok_load rfl ?_ ?_ ?_ ?_) ?_; rotate_left 5; (· (conv => (lhs; whnf))); (· (conv => (lhs; whnf; arg 1; whnf; arg 2; whnf))); (· rfl); (· (conv => (lhs; whnf; arg 1; whnf)))) | (apply runk0 rfl rfl (opok_loadR rfl ?_ ?_ ?_) ?_; rotate_left 2; (· (conv => (lhs; whnf))); (· rfl); (· (conv => (lhs; whnf; arg 1; whnf))))) | (apply runk0 rfl rfl (opok_faR rfl ?_ rfl rfl ?_ ?_ ?_) ?_; rotate_left 3; (· (conv => (lhs; whnf))); (· (unfold sizeIs; conv => (lhs; whnf; arg 1; whnf))); (· rfl); (· (conv => (lhs; (repeat (whnf; arg 2)); whnf))))))
            (apply runk0 rfl rfl (opok_index_ro rfl ?_ ?_ ?_ ?_ ?_ ?_ ?_) ?_; rotate_left 6; (· (conv => (lhs; whnf))); (· (conv => (lhs; whnf))); (· (conv => (lhs; whnf; arg 1; whnf))); (· (unfold sizeIs; conv => (lhs; whnf; arg 1; whnf))); (· simp); (· first | omega | (simp; done) | (simp; omega)); (· simp only [Int.toNat_natCast]; exact hy))
            (repeat (first | (apply runk0 rfl rfl (opok_assign rfl ?_) ?_; rotate_left 1; (· (conv => (lhs; whnf)))) | (first | (apply runk0 rfl rfl (opok_load rfl ?_ ?_ ?_ ?_) ?_; rotate_left 5; (· (conv => (lhs; whnf))); (· (conv => (lhs; whnf; arg 1; whnf; arg 2; whnf))); (· rfl); (· (conv => (lhs; whnf; arg 1; whnf)))) | (apply runk0 rfl rfl (opok_loadR rfl ?_ ?_ ?_) ?_; rotate_left 2; (· (conv => (lhs; whnf))); (· rfl); (· (conv => (lhs; whnf; arg 1; whnf))))) | refine runk_end (by kernel_rfl) ?_ | (apply runk0 rfl rfl (opok_faR rfl ?_ rfl rfl ?_ ?_ ?_) ?_; rotate_left 3; (· (conv => (lhs; whnf))); (· (unfold sizeIs; conv => (lhs; whnf; arg 1; whnf))); (· rfl); (· (conv => (lhs; (repeat (whnf; arg 2)); whnf))))))
            refine awp_less (st' := ⟨[(12, .val (.int .i64 (a : Int))), (13, .val (.int .i64 (b : Int))), (34, .val (.int .i64 (p : Int))), (9, .val (.int .i64 (m : Int))), (28, .val (.int .i64 (sn : Int))), (29, .val (.int .i64 (m : Int))), (32, .ro (ints .i64 L)), (33, .val (.int .i64 (L.length : Int))), (1, .ro (ints .i64 L)), (3, .rref [.val (.int .i64 (sn : Int)), .ro (ls.map lkA), .ro (bls dn), .ro (bls dd)]), (6, .ptr 6 k6 0), (7, .ptr 7 k7 0)], [(6, some (k6, .box 61 [.val (.int .i64 0), .val (.int .i64 0), .val (.int .i64 0), .val (.int .i64 0), .val (.int .i64 0), .val (.int .i64 0), .val (.int .i64 0), .val (.int .i64 0)])), (7, some (k7, .box 61 (ints .i64 R)))]⟩) ?_ ?_
            · (refine leB_of ?_ ?_; (· (repeat (first | exact EnvIs.nil | (refine EnvIs.cons ?_ ?_; (· first | rfl | ((conv => (lhs; whnf)); first | (simp [ints]; done) | (simp [ints]; omega))))))); (· (repeat (first | exact ObjsAre.nil | (refine ObjsAre.cons ?_ ?_; (· first | rfl | ((conv => (lhs; whnf)); first | (simp [ints]; done) | (simp [ints]; omega))))))))
            refine awp_to (fun _ : Unit => ⟨[(12, .val (.int .i64 (a : Int))), (13, .val (.int .i64 (b : Int))), (34, .val (.int .i64 (p : Int))), (9, .val (.int .i64 (m : Int))), (28, .val (.int .i64 (sn : Int))), (29, .val (.int .i64 (m : Int))), (32, .ro (ints .i64 L)), (33, .val (.int .i64 (L.length : Int))), (1, .ro (ints .i64 L)), (3, .rref [.val (.int .i64 (sn : Int)), .ro (ls.map lkA), .ro (bls dn), .ro (bls dd)]), (6, .ptr 6 k6 0), (7, .ptr 7 k7 0)], [(6, some (k6, .box 61 [.val (.int .i64 0), .val (.int .i64 0), .val (.int .i64 0), .val (.int .i64 0), .val (.int .i64 0), .val (.int .i64 0), .val (.int .i64 0), .val (.int .i64 0)])), (7, some (k7, .box 61 (ints .i64 (rx1 (m : Int) a b R))))]⟩) ?_ fun _ => ?_
            · have hxa : (ints .i64 R)[a]? = some (.val (.int .i64 (R.getD a 0))) := ints_getD .i64 R a (by omega)
              have hxb : (ints .i64 R)[b]? = some (.val (.int .i64 (R.getD b 0))) := ints_getD .i64 R b (by omega)
              unfold rx1
              generalize R.getD a 0 = va at *
              generalize R.getD b 0 = vb at *
              cases q1 : (va == (m : Int)) with
              | true =>
                cases q2 : decide (vb < 0) with
                | true =>
                  (repeat (first | refine awp_reg_seq rfl fun k => ?_ | refine awp_reg rfl fun k => ?_ | refine awp_true rfl ?_ | (((apply runk0 rfl rfl (opok_indexP rfl ?_ ?_ rfl ?_ ?_ ?_) ?_; rotate_left 6; (· (conv => (lhs; whnf))); (· (conv => (lhs; whnf))); (· (unfold sizeIs; conv => (lhs; whnf; arg 1; whnf))); (· first | omega | (simp; done) | (simp; omega)); (· first | omega | (simp; done) | (simp; omega))))) | (((apply runk0 rfl rfl (opok_load rfl ?_ ?_ ?_ ?_) ?_; rotate_left 5; (· (conv => (lhs; whnf))); (· (conv => (lhs; whnf; arg 1; whnf; arg 2; whnf))); (· rfl); (· (simp only [AObj.cells, Int.toNat_natCast, Nat.mul_one, Nat.zero_add]; assumption))))) | (((apply runk_storeI rfl rfl rfl ?_ ?_ ?_ ?_ ?_ ?_ ?_ ?_ ?_; rotate_left 7; (· (conv => (lhs; whnf))); (· rfl); (· (conv => (lhs; whnf))); (· rfl); (· rfl); (· (unfold sizeIs; conv => (lhs; whnf; arg 1; whnf))); (· first | (simp; done) | (simp; omega) | omega); (· rfl)))) | (first | refine runk_ung rfl rfl rfl rfl ?_ | refine runk_ung rfl rfl rfl (by assumption) ?_) | (apply runk0 rfl rfl (opok_move rfl ?_) ?_; rotate_left 1; (· (conv => (lhs; whnf)))) | (apply runk0 rfl rfl (opok_bin rfl ?_ ?_ ?_) ?_; rotate_left 3; (· (conv => (lhs; whnf))); (· (conv => (lhs; whnf))); (· (intro w; go_simp; first | done | rfl))) | (apply runk0 rfl rfl (opok_pick rfl ?_ ?_) ?_; rotate_left 2; (· (conv => (lhs; whnf))); (· first | exact pick_or | exact pick_and | (conv => (lhs; whnf)))) | refine runk_end (by kernel_rfl) ?_))
                  refine ⟨(), ?_⟩
                  (refine leB_of ?_ ?_; (· (repeat (first | exact EnvIs.nil | (refine EnvIs.cons ?_ ?_; (· first | rfl | ((conv => (lhs; whnf)); first | (simp [ints, List.map_set]; done) | (simp [ints, List.map_set]; omega))))))); (· (repeat (first | exact ObjsAre.nil | (refine ObjsAre.cons ?_ ?_; (· first | rfl | ((conv => (lhs; whnf)); first | (simp [ints, List.map_set]; done) | (simp [ints, List.map_set]; omega))))))))
                | false =>
                  (repeat (first | refine awp_reg_seq rfl fun k => ?_ | refine awp_false rfl ?_ | (((apply runk0 rfl rfl (opok_indexP rfl ?_ ?_ rfl ?_ ?_ ?_) ?_; rotate_left 6; (· (conv => (lhs; whnf))); (· (conv => (lhs; whnf))); (· (unfold sizeIs; conv => (lhs; whnf; arg 1; whnf))); (· first | omega | (simp; done) | (simp; omega)); (· first | omega | (simp; done) | (simp; omega))))) | (((apply runk0 rfl rfl (opok_load rfl ?_ ?_ ?_ ?_) ?_; rotate_left 5; (· (conv => (lhs; whnf))); (· (conv => (lhs; whnf; arg 1; whnf; arg 2; whnf))); (· rfl); (· (simp only [AObj.cells, Int.toNat_natCast, Nat.mul_one, Nat.zero_add]; assumption))))) | (first | refine runk_ung rfl rfl rfl rfl ?_ | refine runk_ung rfl rfl rfl (by assumption) ?_) | (apply runk0 rfl rfl (opok_move rfl ?_) ?_; rotate_left 1; (· (conv => (lhs; whnf)))) | (apply runk0 rfl rfl (opok_bin rfl ?_ ?_ ?_) ?_; rotate_left 3; (· (conv => (lhs; whnf))); (· (conv => (lhs; whnf))); (· (intro w; go_simp; first | done | rfl))) | (apply runk0 rfl rfl (opok_pick rfl ?_ ?_) ?_; rotate_left 2; (· (conv => (lhs; whnf))); (· first | exact pick_or | exact pick_and | (conv => (lhs; whnf)))) | refine runk_end (by kernel_rfl) ?_))
                  refine awp_skip ?_
                  refine ⟨(), ?_⟩
                  (refine leB_of ?_ ?_; (· (repeat (first | exact EnvIs.nil | (refine EnvIs.cons ?_ ?_; (· first | rfl | ((conv => (lhs; whnf)); first | (simp [ints]; done) | (simp [ints]; omega))))))); (· (repeat (first | exact ObjsAre.nil | (refine ObjsAre.cons ?_ ?_; (· first | rfl | ((conv => (lhs; whnf)); first | (simp [ints]; done) | (simp [ints]; omega))))))))
              | false =>
                (repeat (first | refine awp_reg_seq rfl fun k => ?_ | refine awp_false rfl ?_ | (((apply runk0 rfl rfl (opok_indexP rfl ?_ ?_ rfl ?_ ?_ ?_) ?_; rotate_left 6; (· (conv => (lhs; whnf))); (· (conv => (lhs; whnf))); (· (unfold sizeIs; conv => (lhs; whnf; arg 1; whnf))); (· first | omega | (simp; done) | (simp; omega)); (· first | omega | (simp; done) | (simp; omega))))) | (((apply runk0 rfl rfl (opok_load rfl ?_ ?_ ?_ ?_) ?_; rotate_left 5; (· (conv => (lhs; whnf))); (· (conv => (lhs; whnf; arg 1; whnf; arg 2; whnf))); (· rfl); (· (simp only [AObj.cells, Int.toNat_natCast, Nat.mul_one, Nat.zero_add]; assumption))))) | (first | refine runk_off rfl rfl rfl rfl rfl ?_ | refine runk_off rfl rfl rfl (by assumption) rfl ?_ | refine runk_offN rfl rfl rfl rfl rfl ?_ | refine runk_offU rfl rfl rfl rfl ?_ | refine runk_offUN rfl rfl rfl rfl ?_) | (apply runk0 rfl rfl (opok_move rfl ?_) ?_; rotate_left 1; (· (conv => (lhs; whnf)))) | (apply runk0 rfl rfl (opok_bin rfl ?_ ?_ ?_) ?_; rotate_left 3; (· (conv => (lhs; whnf))); (· (conv => (lhs; whnf))); (· (intro w; go_simp; first | done | rfl))) | (apply runk0 rfl rfl (opok_pick rfl ?_ ?_) ?_; rotate_left 2; (· (conv => (lhs; whnf))); (· first | exact pick_or | exact pick_and | (conv => (lhs; whnf)))) | refine runk_end (by kernel_rfl) ?_))
                refine awp_skip ?_
                refine ⟨(), ?_⟩
                (refine leB_of ?_ ?_; (· (repeat (first | exact EnvIs.nil | (refine EnvIs.cons ?_ ?_; (· first | rfl | ((conv => (lhs; whnf)); first | (simp [ints]; done) | (simp [ints]; omega))))))); (· (repeat (first | exact ObjsAre.nil | (refine ObjsAre.cons ?_ ?_; (· first | rfl | ((conv => (lhs; whnf)); first | (simp [ints]; done) | (simp [ints]; omega))))))))
            generalize hG : rx1 (m : Int) a b R = G at *
            have hGl : G.length = 8 := by rw [← hG, rx1_len, hRl]
            clear hG
            have hxa : (ints .i64 G)[b]? = some (.val (.int .i64 (G.getD b 0))) := ints_getD .i64 G b (by omega)
            have hxb : (ints .i64 G)[a]? = some (.val (.int .i64 (G.getD a 0))) := ints_getD .i64 G a (by omega)
            unfold rx1 at eT
            generalize G.getD b 0 = va at *
            generalize G.getD a 0 = vb at *
            cases q1 : (va == (m : Int)) with
            | true =>
              cases q2 : decide (vb < 0) with
              | true =>
                rw [q1, q2] at eT
                simp only [Bool.and_self, cond_true] at eT
                (repeat (first | refine awp_reg_seq rfl fun k => ?_ | refine awp_reg rfl fun k => ?_ | refine awp_true rfl ?_ | (((apply runk0 rfl rfl (opok_indexP rfl ?_ ?_ rfl ?_ ?_ ?_) ?_; rotate_left 6; (· (conv => (lhs; whnf))); (· (conv => (lhs; whnf))); (· (unfold sizeIs; conv => (lhs; whnf; arg 1; whnf))); (· first | omega | (simp; done) | (simp; omega)); (· first | omega | (simp; done) | (simp; omega))))) | (((apply runk0 rfl rfl (opok_load rfl ?_ ?_ ?_ ?_) ?_; rotate_left 5; (· (conv => (lhs; whnf))); (· (conv => (lhs; whnf; arg 1; whnf; arg 2; whnf))); (· rfl); (· (simp only [AObj.cells, Int.toNat_natCast, Nat.mul_one, Nat.zero_add]; assumption))))) | (((apply runk_storeI rfl rfl rfl ?_ ?_ ?_ ?_ ?_ ?_ ?_ ?_ ?_; rotate_left 7; (· (conv => (lhs; whnf))); (· rfl); (· (conv => (lhs; whnf))); (· rfl); (· rfl); (· (unfold sizeIs; conv => (lhs; whnf; arg 1; whnf))); (· first | (simp; done) | (simp; omega) | omega); (· rfl)))) | (first | refine runk_ung rfl rfl rfl rfl ?_ | refine runk_ung rfl rfl rfl (by assumption) ?_) | (apply runk0 rfl rfl (opok_move rfl ?_) ?_; rotate_left 1; (· (conv => (lhs; whnf)))) | (apply runk0 rfl rfl (opok_bin rfl ?_ ?_ ?_) ?_; rotate_left 3; (· (conv => (lhs; whnf))); (· (conv => (lhs; whnf))); (· (intro w; go_simp; first | done | rfl))) | (apply runk0 rfl rfl (opok_pick rfl ?_ ?_) ?_; rotate_left 2; (· (conv => (lhs; whnf))); (· first | exact pick_or | exact pick_and | (conv => (lhs; whnf)))) | refine runk_end (by kernel_rfl) ?_))
                refine ⟨n2 - 1, by omega, p + 1, by omega, ?_⟩
                rw [hR2, eT]
                (refine leB_of ?_ ?_; (· (repeat (first | exact EnvIs.nil | (refine EnvIs.cons ?_ ?_; (· first | rfl | ((conv => (lhs; whnf)); first | (simp [ints, List.map_set]; done) | (simp [ints, List.map_set]; omega))))))); (· (repeat (first | exact ObjsAre.nil | (refine ObjsAre.cons ?_ ?_; (· first | rfl | ((conv => (lhs; whnf)); first | (simp [ints, List.map_set]; done) | (simp [ints, List.map_set]; omega))))))))
              | false =>
                rw [q1, q2] at eT
                simp only [Bool.and_false, cond_false] at eT
                (repeat (first | refine awp_reg_seq rfl fun k => ?_ | refine awp_reg rfl fun k => ?_ | refine awp_false rfl ?_ | refine awp_skip (?_ : Awp _ _ _ _ _ _) | (((apply runk0 rfl rfl (opok_indexP rfl ?_ ?_ rfl ?_ ?_ ?_) ?_; rotate_left 6; (· (conv => (lhs; whnf))); (· (conv => (lhs; whnf))); (· (unfold sizeIs; conv => (lhs; whnf; arg 1; whnf))); (· first | omega | (simp; done) | (simp; omega)); (· first | omega | (simp; done) | (simp; omega))))) | (((apply runk0 rfl rfl (opok_load rfl ?_ ?_ ?_ ?_) ?_; rotate_left 5; (· (conv => (lhs; whnf))); (· (conv => (lhs; whnf; arg 1; whnf; arg 2; whnf))); (· rfl); (· (simp only [AObj.cells, Int.toNat_natCast, Nat.mul_one, Nat.zero_add]; assumption))))) | (first | refine runk_ung rfl rfl rfl rfl ?_ | refine runk_ung rfl rfl rfl (by assumption) ?_) | (apply runk0 rfl rfl (opok_move rfl ?_) ?_; rotate_left 1; (· (conv => (lhs; whnf)))) | (apply runk0 rfl rfl (opok_bin rfl ?_ ?_ ?_) ?_; rotate_left 3; (· (conv => (lhs; whnf))); (· (conv => (lhs; whnf))); (· (intro w; go_simp; first | done | rfl))) | (apply runk0 rfl rfl (opok_pick rfl ?_ ?_) ?_; rotate_left 2; (· (conv => (lhs; whnf))); (· first | exact pick_or | exact pick_and | (conv => (lhs; whnf)))) | refine runk_end (by kernel_rfl) ?_))
                refine ⟨n2 - 1, by omega, p + 1, by omega, ?_⟩
                rw [hR2, eT]
                (refine leB_of ?_ ?_; (· (repeat (first | exact EnvIs.nil | (refine EnvIs.cons ?_ ?_; (· first | rfl | ((conv => (lhs; whnf)); first | (simp [ints]; done) | (simp [ints]; omega))))))); (· (repeat (first | exact ObjsAre.nil | (refine ObjsAre.cons ?_ ?_; (· first | rfl | ((conv => (lhs; whnf)); first | (simp [ints]; done) | (simp [ints]; omega))))))))
            | false =>
              rw [q1] at eT
              simp only [Bool.false_and, cond_false] at eT
              (repeat (first | refine awp_reg_seq rfl fun k => ?_ | refine awp_reg rfl fun k => ?_ | refine awp_false rfl ?_ | refine awp_skip (?_ : Awp _ _ _ _ _ _) | (((apply runk0 rfl rfl (opok_indexP rfl ?_ ?_ rfl ?_ ?_ ?_) ?_; rotate_left 6; (· (conv => (lhs; whnf))); (· (conv => (lhs; whnf))); (· (unfold sizeIs; conv => (lhs; whnf; arg 1; whnf))); (· first | omega | (simp; done) | (simp; omega)); (· first | omega | (simp; done) | (simp; omega))))) | (((apply runk0 rfl rfl (opok_load rfl ?_ ?_ ?_ ?_) ?_; rotate_left 5; (· (conv => (lhs; whnf))); (· (conv => (lhs; whnf; arg 1; whnf; arg 2; whnf))); (· rfl); (· (simp only [AObj.cells, Int.toNat_natCast, Nat.mul_one, Nat.zero_add]; assumption))))) | (first | refine runk_off rfl rfl rfl rfl rfl ?_ | refine runk_off rfl rfl rfl (by assumption) rfl ?_ | refine runk_offN rfl rfl rfl rfl rfl ?_ | refine runk_offU rfl rfl rfl rfl ?_ | refine runk_offUN rfl rfl rfl rfl ?_) | (apply runk0 rfl rfl (opok_move rfl ?_) ?_; rotate_left 1; (· (conv => (lhs; whnf)))) | (apply runk0 rfl rfl (opok_bin rfl ?_ ?_ ?_) ?_; rotate_left 3; (· (conv => (lhs; whnf))); (· (conv => (lhs; whnf))); (· (intro w; go_simp; first | done | rfl))) | (apply runk0 rfl rfl (opok_pick rfl ?_ ?_) ?_; rotate_left 2; (· (conv => (lhs; whnf))); (· first | exact pick_or | exact pick_and | (conv => (lhs; whnf)))) | refine runk_end (by kernel_rfl) ?_))
              refine ⟨n2 - 1, by omega, p + 1, by omega, ?_⟩
              rw [hR2, eT]
              (refine leB_of ?_ ?_; (· (repeat (first | exact EnvIs.nil | (refine EnvIs.cons ?_ ?_; (· first | rfl | ((conv => (lhs; whnf)); first | (simp [ints]; done) | (simp [ints]; omega))))))); (· (repeat (first | exact ObjsAre.nil | (refine ObjsAre.cons ?_ ?_; (· first | rfl | ((conv => (lhs; whnf)); first | (simp [ints]; done) | (simp [ints]; omega))))))))
          · have hie : p = L.length := by simp at hc; omega
            subst hie
            clear hc
            rw [List.take_length, ← eN]
            refine awp_exit (?_ : Awp _ _ _ _ _ _)
            (repeat (first | refine awp_reg rfl fun k => ?_ | (apply runk0 rfl rfl (opok_move rfl ?_) ?_; rotate_left 1; (· (conv => (lhs; whnf)))) | (apply runk0 rfl rfl (opok_bin rfl ?_ ?_ ?_) ?_; rotate_left 3; (· (conv => (lhs; whnf))); (· (conv => (lhs; whnf))); (· (intro w; go_simp; first | done | rfl))) | refine runk_end (by kernel_rfl) ?_))
            refine ⟨n - 1, by omega, m + 1, by omega, ?_⟩
            rw [hDn]
            (refine leB_of ?_ ?_; (· (repeat (first | exact EnvIs.nil | (refine EnvIs.cons ?_ ?_; (· first | rfl | ((conv => (lhs; whnf)); first | (simp [ints]; done) | (simp [ints]; omega))))))); (· (repeat (first | exact ObjsAre.nil | (refine ObjsAre.cons ?_ ?_; (· first | rfl | ((conv => (lhs; whnf)); first | (simp [ints]; done) | (simp [ints]; omega))))))))
      · have hie : m = sn := by simp at hc; omega
        subst hie
        clear hc hL hend
        obtain ⟨x0, x1, x2, x3, x4, x5, x6, x7, e8⟩ := e8
        rw [e8]
        refine awp_exit (?_ : Awp _ _ _ _ _ _)
        unfold ints
        (repeat (first | refine awp_reg_seq rfl fun k => ?_ | (refine awp_ret ?_; (apply ends_pure ?_ ?_ ?_ ?_ ?_ (.inl rfl); rotate_left 1; (· first | exact res_one rfl rfl | exact res_two rfl rfl rfl | exact res_none rfl | exact res_three rfl rfl rfl rfl | exact res_cell rfl rfl rfl rfl rfl | exact res_cell2 rfl rfl rfl rfl rfl rfl | exact res3 rfl (rv_cell rfl rfl rfl rfl) (rv_tmp rfl) (rv_tmp rfl) | exact res3 rfl (rv_cell rfl rfl rfl rfl) (rv_cell rfl rfl rfl rfl) (rv_cell rfl rfl rfl rfl)); (· first | rfl | ((conv => (lhs; whnf)); first | rfl | (simp; done))); (· first | rfl | (simp; done) | (simp [AVal.pure, AVal.pures, AObj.pure]; done)); (· rfl); (· rfl))) | (apply runk0 rfl rfl (opok_loadA rfl ?_ ?_ ?_ ?_ ?_ ?_) ?_; rotate_left 6; (· (conv => (lhs; whnf))); (· (conv => (lhs; whnf; arg 1; whnf; arg 2; whnf))); (· rfl); (· (unfold sizeIs; conv => (lhs; whnf; arg 1; whnf))); (· (conv => (lhs; repeat (whnf; arg 2)))); (· rfl)) | (apply runk_store rfl rfl rfl ?_ ?_ ?_ ?_ ?_ ?_ ?_ ?_ ?_ ?_ ?_; rotate_left 9; (· (conv => (lhs; whnf))); (· (conv => (lhs; whnf))); (· (conv => (lhs; whnf; arg 1; whnf; arg 2; whnf))); (· rfl); (· (conv => (lhs; whnf))); (· rfl); (· (unfold sizeIs; conv => (lhs; whnf; arg 1; whnf))); (· rfl); (· rfl); (· (conv => (lhs; repeat (whnf; arg 2))))) | refine runk_end (by kernel_rfl) ?_))
end Go.Proofs.Ytpdiainbcekpiaa
