/-
  Layer 13: parts, of the reference, by states.
-/
import Derived.Test.YtpdiainbcekpiaaFb13u
import Derived.Test.YtpdiainbcekpiaaFz14
namespace Go.Proofs.Ytpdiainbcekpiaa
open Go.RowKit
/-- The first one with a number that is not negative. -/
def fstN (h : Nat → Int) : Nat → Int
  | 0 => -1
  | k + 1 => bif decide (0 ≤ h k) && decide (fstN h k < 0) then (k : Int) else fstN h k
def rpN (g : Nat → List Int) (N : Nat) : Nat → List Int
  | 0 => []
  | s + 1 => rpN g N s ++ [fstN (fun t => (g s).getD t 0) N]
theorem rpN_len (g : Nat → List Int) (N : Nat) : ∀ s, (rpN g N s).length = s
  | 0 => rfl
  | s + 1 => by simp [rpN, rpN_len g N s]
set_option maxHeartbeats 64000000 in
set_option maxRecDepth 100000 in
theorem rparts_spec {F : FK} (h : F.ok = true) : Spec Try.prog 20 [.agg F.A] [] (.ro (ints .i64 (rpN (fun s => (dsts F s).take F.sw.toNat) F.sw.toNat F.sw.toNat))) [] := by
  have sd := fun to => rdists_spec h to
  obtain ⟨hs1, hs8, -, -, -, -⟩ := FK.ok_facts h
  have hl8 := fun to => dsts_len F to
  clear h
  obtain ⟨FAv, hFA⟩ : ∃ x, F.A = x := ⟨_, rfl⟩
  have hFA2 : FAv = [.val (.int .i64 F.sw), .ro (F.ls.map lkA), .ro (bls F.dn), .ro (bls F.dd)] := by rw [← hFA]; rfl
  rw [hFA] at sd ⊢
  rw [hFA2] at sd ⊢
  clear hFA hFA2 FAv
  have e8 : ∃ N : Nat, F.sw = N := ⟨F.sw.toNat, by omega⟩
  generalize dsts F = g at *
  generalize F.ls = ls at *
  generalize F.dn = dn at *
  generalize F.dd = dd at *
  generalize F.sw = n0 at *
  obtain ⟨N, rfl⟩ := e8
  rw [Int.toNat_natCast] at *
  obtain ⟨G, hG⟩ : ∃ G : Nat → List Int, G = fun s : Nat => (g (s : Int)).take N := ⟨_, rfl⟩
  have sG : ∀ s : Nat, Spec Try.prog 22 [.agg [.val (.int .i64 (N : Int)), .ro (ls.map lkA), .ro (bls dn), .ro (bls dd)], .val (.int .i64 (s : Int))] [] (.ro (ints .i64 (G s))) [] := fun s => by rw [hG]; exact sd s
  have hGl : ∀ s, (G s).length = N := fun s => by rw [hG]; simp only [List.length_take, hl8]; omega
  rw [← hG]
  clear sd hl8 hG
  refine spec_of_awp Try.func20 rfl (Nat.le_of_ble_eq_true rfl) fun ini => ?_
  simp only [Try.ntmps20]
  (repeat (first | refine awp_reg_seq rfl fun k => ?_ | refine awp_seq ?_ | refine awp_block ?_ | (apply runk0 rfl rfl (opok_box_ro rfl ?_ ?_ ?_) ?_; rotate_left 2; (· (conv => (lhs; whnf))); (· rfl); (· (conv => (lhs; whnf)))) | (apply runk0 rfl rfl (opok_move rfl ?_) ?_; rotate_left 1; (· (conv => (lhs; whnf)))) | (apply runk0 rfl rfl (opok_assign rfl ?_) ?_; rotate_left 1; (· (conv => (lhs; whnf)))) | (first | (apply runk0 rfl rfl (opok_load rfl ?_ ?_ ?_ ?_) ?_; rotate_left 5; (· (conv => (lhs; whnf))); (· (conv => (lhs; whnf; arg 1; whnf; arg 2; whnf))); (· rfl); (· (conv => (lhs; whnf; arg 1; whnf)))) | (apply runk0 rfl rfl (opok_loadR rfl ?_ ?_ ?_) ?_; rotate_left 2; (· (conv => (lhs; whnf))); (· rfl); (· (conv => (lhs; whnf; arg 1; whnf))))) | refine runk_end (by kernel_rfl) ?_ | (apply runk0 rfl rfl (opok_faR rfl ?_ rfl rfl ?_ ?_ ?_) ?_; rotate_left 3; (· (conv => (lhs; whnf))); (· (unfold sizeIs; conv => (lhs; whnf; arg 1; whnf))); (· rfl); (· (conv => (lhs; (repeat (whnf; arg 2)); whnf))))))
  refine awp_less (st' := ⟨[(1, .rref [.val (.int .i64 (N : Int)), .ro (ls.map lkA), .ro (bls dn), .ro (bls dd)]), (3, .val (.slice none 0 0)), (9, .val (.int .i64 (N : Int))), (10, .val (.int .i64 0))], []⟩) ?_ ?_
  · (refine leB_of ?_ ?_; (· (repeat (first | exact EnvIs.nil | (refine EnvIs.cons ?_ ?_; (· first | rfl | ((conv => (lhs; whnf)); first | (simp [ints]; done) | (simp [ints]; omega))))))); (· (repeat (first | exact ObjsAre.nil | (refine ObjsAre.cons ?_ ?_; (· first | rfl | ((conv => (lhs; whnf)); first | (simp [ints]; done) | (simp [ints]; omega))))))))
  refine awp_adopt 3 3 3 1 rfl fun kq => ?_
  obtain ⟨T, hT⟩ : ∃ T, T = rpN G N := ⟨_, rfl⟩
  have hT0 : T 0 = [] := by rw [hT]; rfl
  have hTs : ∀ s, T (s + 1) = T s ++ [fstN (fun t => (G s).getD t 0) N] := fun s => by rw [hT]; rfl
  have hTl : ∀ s, (T s).length = s := fun s => by rw [hT]; exact rpN_len G N s
  rw [← hT]
  clear hT
  refine awp_loop (fun n st => ∃ (j kq : Nat), j + n = N ∧ st.leB ⟨[(9, .val (.int .i64 (N : Int))), (10, .val (.int .i64 (j : Int))), (3, .own 3 kq (ints .i64 (T j)).length), (1, .rref [.val (.int .i64 (N : Int)), .ro (ls.map lkA), .ro (bls dn), .ro (bls dd)])], [(3, some (kq, .row 3 1 (ints .i64 (T j))))]⟩) N ⟨0, kq, by omega, ?_⟩ ?_
  · rw [hT0]
    (refine leB_of ?_ ?_; (· (repeat (first | exact EnvIs.nil | (refine EnvIs.cons ?_ ?_; (· first | rfl | ((conv => (lhs; whnf)); first | (simp [ints]; done) | (simp [ints]; omega))))))); (· (repeat (first | exact ObjsAre.nil | (refine ObjsAre.cons ?_ ?_; (· first | rfl | ((conv => (lhs; whnf)); first | (simp [ints]; done) | (simp [ints]; omega))))))))
  · rintro n st ⟨j, kq, hj, hle⟩
    refine awp_less hle ?_
    clear hle st hT0
    (repeat (first | refine awp_reg_seq rfl fun k => ?_ | refine awp_seq ?_ | (apply runk0 rfl rfl (opok_bin rfl ?_ ?_ ?_) ?_; rotate_left 3; (· (conv => (lhs; whnf))); (· (conv => (lhs; whnf))); (· (intro w; go_simp; first | done | rfl))) | refine runk_end (by kernel_rfl) ?_))
    refine awp_if rfl (fun hc => ?_) (fun hc => ?_)
    · have hlt : j < N := by simpa using hc
      clear hc
      have wj : IntKind.i64.wrap ((j : Int) + 1) = ((j + 1 : Nat) : Int) := by rw [IntKind.wrap_i64]; omega
      have s1 := sG j
      have hl := hGl j
      have eT := hTs j
      have hTj := hTl j
      clear sG hGl hTs hTl
      generalize hY : T (j + 1) = Y at *
      generalize T j = X at *
      generalize G j = D at *
      obtain ⟨U, hU⟩ : ∃ U, U = fstN (fun t => D.getD t 0) := ⟨_, rfl⟩
      have hU0 : U 0 = -1 := by rw [hU]; rfl
      have hUs : ∀ t, U (t + 1) = bif decide (0 ≤ D.getD t 0) && decide (U t < 0) then (t : Int) else U t := fun t => by rw [hU]; rfl
      rw [← hU] at eT
      clear hU
      (repeat (first | refine awp_reg_seq rfl fun k => ?_ | refine awp_seq ?_ | refine awp_skip (?_ : Awp _ _ _ _ _ _) | refine awp_block ?_ | (apply runk_pure rfl rfl rfl ?_ ?_ ?_ ?_ ?_ ?_ ?_ ?_; rotate_left 6; (· (conv => (lhs; whnf))); (· exact Try.func22); (· rfl); (· rfl); (· exact (s1)); (· (repeat (first | exact Rens.nil | (refine Rens.cons ?_ ?_; (· first | exact Ren.own _ _ _ _ _ _ rfl List.mem_cons_self | exact Ren.own _ _ _ _ _ _ rfl (List.mem_cons_of_mem _ List.mem_cons_self) | (refine (Ren.own _ _ _ _ _ _ ?_ List.mem_cons_self); first | rfl | (simp; done)) | (refine (Ren.own _ _ _ _ _ _ ?_ (List.mem_cons_of_mem _ List.mem_cons_self)); first | rfl | (simp; done)) | exact Ren.ptr _ _ _ _ _ List.mem_cons_self | (refine Ren.pureR ?_ rfl; (first | rfl | (simp; done) | (simp [AVal.pure, AVal.pures, AObj.pure]; done)))))))); (· first | rfl | (simp; done) | simp [AVal.pure, AVal.pures, AObj.pure])) | (apply runk0 rfl rfl (opok_move rfl ?_) ?_; rotate_left 1; (· (conv => (lhs; whnf)))) | (apply runk0 rfl rfl (opok_assign rfl ?_) ?_; rotate_left 1; (· (conv => (lhs; whnf)))) | (first | (apply runk0 rfl rfl (opok_lenO rfl ?_ ?_ ?_) ?_; rotate_left 5; (· (conv => (lhs; whnf))); (· (conv => (lhs; whnf; arg 1; whnf))); (· first | exact length_ints _ _ | rfl)) | (apply runk0 rfl rfl (opok_len_own rfl ?_ ?_) ?_; rotate_left 4; (· (conv => (lhs; whnf))); (· (conv => (lhs; whnf; arg 1; whnf)))) | (apply runk0 rfl rfl (opok_len rfl ?_ ?_ ?_) ?_; rotate_left 3; (· (conv => (lhs; whnf))); (· (conv => (lhs; whnf; arg 1; whnf))); (· first | exact length_ints _ _ | rfl))) | refine runk_end (by kernel_rfl) ?_ | (apply runk0 rfl rfl (opok_loadRA2 rfl ?_ ?_ ?_ ?_) ?_; rotate_left 2; (· (conv => (lhs; whnf))); (· rfl); (· (unfold sizeIs; conv => (lhs; whnf; arg 1; whnf))); (· rfl))))
      refine awp_loop (fun n2 st => ∃ t : Nat, t + n2 = N ∧ st.leB ⟨[(4, .val (.int .i64 (j : Int))), (5, .val (.int .i64 (U t))), (15, .ro (ints .i64 D)), (16, .val (.int .i64 (D.length : Int))), (17, .val (.int .i64 (t : Int))), (9, .val (.int .i64 (N : Int))), (10, .val (.int .i64 (j : Int))), (3, .own 3 kq (ints .i64 (X)).length), (1, .rref [.val (.int .i64 (N : Int)), .ro (ls.map lkA), .ro (bls dn), .ro (bls dd)])], [(3, some (kq, .row 3 1 (ints .i64 (X))))]⟩) N ⟨0, by omega, ?_⟩ ?_
      · rw [hU0]
        (refine leB_of ?_ ?_; (· (repeat (first | exact EnvIs.nil | (refine EnvIs.cons ?_ ?_; (· first | rfl | ((conv => (lhs; whnf)); first | (simp [ints]; done) | (simp [ints]; omega))))))); (· (repeat (first | exact ObjsAre.nil | (refine ObjsAre.cons ?_ ?_; (· first | rfl | ((conv => (lhs; whnf)); first | (simp [ints]; done) | (simp [ints]; omega))))))))
      · rintro n2 st ⟨t, ht, hle⟩
        refine awp_less hle ?_
        clear hle st s1 hU0
        (repeat (first | refine awp_reg_seq rfl fun k => ?_ | refine awp_seq ?_ | (apply runk0 rfl rfl (opok_bin rfl ?_ ?_ ?_) ?_; rotate_left 3; (· (conv => (lhs; whnf))); (· (conv => (lhs; whnf))); (· (intro w; go_simp; first | done | rfl))) | refine runk_end (by kernel_rfl) ?_))
        refine awp_if rfl (fun hc => ?_) (fun hc => ?_)
        · have hlt2 : t < N := by simpa using hc
          clear hc
          have wt : IntKind.i64.wrap ((t : Int) + 1) = ((t + 1 : Nat) : Int) := by rw [IntKind.wrap_i64]; omega
          have hx : (ints .i64 D)[t]? = some (.val (.int .i64 (D.getD t 0))) := ints_getD .i64 D t (by omega)
          have eU := hUs t
          clear hUs eT
          generalize hV : U (t + 1) = V at *
          generalize U t = u at *
          generalize D.getD t 0 = v at *
          cases q1 : decide (0 ≤ v) with
          | true =>
            cases q2 : decide (u < 0) with
            | true =>
              rw [q1, q2, Bool.and_self, cond_true] at eU
              (repeat (first | refine awp_reg_seq rfl fun k => ?_ | refine awp_reg rfl fun k => ?_ | refine awp_seq ?_ | refine awp_true rfl ?_ | refine awp_skip (?_ : Awp _ _ _ _ _ _) | refine awp_block ?_ | (first | refine runk_ung rfl rfl rfl rfl ?_ | refine runk_ung rfl rfl rfl (by assumption) ?_) | (apply runk0 rfl rfl (opok_move rfl ?_) ?_; rotate_left 1; (· (conv => (lhs; whnf)))) | (apply runk0 rfl rfl (opok_assign rfl ?_) ?_; rotate_left 1; (· (conv => (lhs; whnf)))) | (first | (apply runk0 rfl rfl (opok_load rfl ?_ ?_ ?_ ?_) ?_; rotate_left 5; (· (conv => (lhs; whnf))); (· (conv => (lhs; whnf; arg 1; whnf; arg 2; whnf))); (· rfl); (· (conv => (lhs; whnf; arg 1; whnf)))) | (apply runk0 rfl rfl (opok_loadR rfl ?_ ?_ ?_) ?_; rotate_left 2; (· (conv => (lhs; whnf))); (· rfl); (· (conv => (lhs; whnf; arg 1; whnf))))) | (apply runk0 rfl rfl (opok_bin rfl ?_ ?_ ?_) ?_; rotate_left 3; (· (conv => (lhs; whnf))); (· (conv => (lhs; whnf))); (· (intro w; go_simp; first | done | rfl))) | (apply runk0 rfl rfl (opok_pick rfl ?_ ?_) ?_; rotate_left 2; (· (conv => (lhs; whnf))); (· first | exact pick_or | exact pick_and | (conv => (lhs; whnf)))) | refine runk_end (by kernel_rfl) ?_ | (apply runk0 rfl rfl (opok_index_ro rfl ?_ ?_ ?_ ?_ ?_ ?_ ?_) ?_; rotate_left 6; (· (conv => (lhs; whnf))); (· (conv => (lhs; whnf))); (· (conv => (lhs; whnf; arg 1; whnf))); (· (unfold sizeIs; conv => (lhs; whnf; arg 1; whnf))); (· first | exact widths_ints _ _ | rfl | simp [widths, AVal.flat]); (· first | omega | (simp; done) | (simp; omega)); (· first | assumption | (simp only [Int.toNat_natCast]; assumption) | (simp only [Int.reduceToNat]; assumption)))))
              refine ⟨n2 - 1, by omega, t + 1, by omega, ?_⟩
              rw [hV, eU]
              (refine leB_of ?_ ?_; (· (repeat (first | exact EnvIs.nil | (refine EnvIs.cons ?_ ?_; (· first | rfl | ((conv => (lhs; whnf)); first | (simp [ints]; done) | (simp [ints]; omega))))))); (· (repeat (first | exact ObjsAre.nil | (refine ObjsAre.cons ?_ ?_; (· first | rfl | ((conv => (lhs; whnf)); first | (simp [ints]; done) | (simp [ints]; omega))))))))
            | false =>
              rw [q1, q2, Bool.and_false, cond_false] at eU
              (repeat (first | refine awp_reg_seq rfl fun k => ?_ | refine awp_reg rfl fun k => ?_ | refine awp_seq ?_ | refine awp_false rfl ?_ | refine awp_skip (?_ : Awp _ _ _ _ _ _) | refine awp_block ?_ | (first | refine runk_ung rfl rfl rfl rfl ?_ | refine runk_ung rfl rfl rfl (by assumption) ?_) | (apply runk0 rfl rfl (opok_move rfl ?_) ?_; rotate_left 1; (· (conv => (lhs; whnf)))) | (apply runk0 rfl rfl (opok_assign rfl ?_) ?_; rotate_left 1; (· (conv => (lhs; whnf)))) | (first | (apply runk0 rfl rfl (opok_load rfl ?_ ?_ ?_ ?_) ?_; rotate_left 5; (· (conv => (lhs; whnf))); (· (conv => (lhs; whnf; arg 1; whnf; arg 2; whnf))); (· rfl); (· (conv => (lhs; whnf; arg 1; whnf)))) | (apply runk0 rfl rfl (opok_loadR rfl ?_ ?_ ?_) ?_; rotate_left 2; (· (conv => (lhs; whnf))); (· rfl); (· (conv => (lhs; whnf; arg 1; whnf))))) | (apply runk0 rfl rfl (opok_bin rfl ?_ ?_ ?_) ?_; rotate_left 3; (· (conv => (lhs; whnf))); (· (conv => (lhs; whnf))); (· (intro w; go_simp; first | done | rfl))) | (apply runk0 rfl rfl (opok_pick rfl ?_ ?_) ?_; rotate_left 2; (· (conv => (lhs; whnf))); (· first | exact pick_or | exact pick_and | (conv => (lhs; whnf)))) | refine runk_end (by kernel_rfl) ?_ | (apply runk0 rfl rfl (opok_index_ro rfl ?_ ?_ ?_ ?_ ?_ ?_ ?_) ?_; rotate_left 6; (· (conv => (lhs; whnf))); (· (conv => (lhs; whnf))); (· (conv => (lhs; whnf; arg 1; whnf))); (· (unfold sizeIs; conv => (lhs; whnf; arg 1; whnf))); (· first | exact widths_ints _ _ | rfl | simp [widths, AVal.flat]); (· first | omega | (simp; done) | (simp; omega)); (· first | assumption | (simp only [Int.toNat_natCast]; assumption) | (simp only [Int.reduceToNat]; assumption)))))
              refine ⟨n2 - 1, by omega, t + 1, by omega, ?_⟩
              rw [hV, eU]
              (refine leB_of ?_ ?_; (· (repeat (first | exact EnvIs.nil | (refine EnvIs.cons ?_ ?_; (· first | rfl | ((conv => (lhs; whnf)); first | (simp [ints]; done) | (simp [ints]; omega))))))); (· (repeat (first | exact ObjsAre.nil | (refine ObjsAre.cons ?_ ?_; (· first | rfl | ((conv => (lhs; whnf)); first | (simp [ints]; done) | (simp [ints]; omega))))))))
          | false =>
            rw [q1, Bool.false_and, cond_false] at eU
            (repeat (first | refine awp_reg_seq rfl fun k => ?_ | refine awp_reg rfl fun k => ?_ | refine awp_seq ?_ | refine awp_false rfl ?_ | refine awp_skip (?_ : Awp _ _ _ _ _ _) | refine awp_block ?_ | (first | refine runk_off rfl rfl rfl rfl rfl ?_ | refine runk_off rfl rfl rfl (by assumption) rfl ?_ | refine runk_offN rfl rfl rfl rfl rfl ?_ | refine runk_offU rfl rfl rfl rfl ?_ | refine runk_offUN rfl rfl rfl rfl ?_) | (apply runk0 rfl rfl (opok_move rfl ?_) ?_; rotate_left 1; (· (conv => (lhs; whnf)))) | (apply runk0 rfl rfl (opok_assign rfl ?_) ?_; rotate_left 1; (· (conv => (lhs; whnf)))) | (first | (apply runk0 rfl rfl (opok_load rfl ?_ ?_ ?_ ?_) ?_; rotate_left 5; (· (conv => (lhs; whnf))); (· (conv => (lhs; whnf; arg 1; whnf; arg 2; whnf))); (· rfl); (· (conv => (lhs; whnf; arg 1; whnf)))) | (apply runk0 rfl rfl (opok_loadR rfl ?_ ?_ ?_) ?_; rotate_left 2; (· (conv => (lhs; whnf))); (· rfl); (· (conv => (lhs; whnf; arg 1; whnf))))) | (apply runk0 rfl rfl (opok_bin rfl ?_ ?_ ?_) ?_; rotate_left 3; (· (conv => (lhs; whnf))); (· (conv => (lhs; whnf))); (· (intro w; go_simp; first | done | rfl))) | (apply runk0 rfl rfl (opok_pick rfl ?_ ?_) ?_; rotate_left 2; (· (conv => (lhs; whnf))); (· first | exact pick_or | exact pick_and | (conv => (lhs; whnf)))) | refine runk_end (by kernel_rfl) ?_ | (apply runk0 rfl rfl (opok_index_ro rfl ?_ ?_ ?_ ?_ ?_ ?_ ?_) ?_; rotate_left 6; (· (conv => (lhs; whnf))); (· (conv => (lhs; whnf))); (· (conv => (lhs; whnf; arg 1; whnf))); (· (unfold sizeIs; conv => (lhs; whnf; arg 1; whnf))); (· first | exact widths_ints _ _ | rfl | simp [widths, AVal.flat]); (· first | omega | (simp; done) | (simp; omega)); (· first | assumption | (simp only [Int.toNat_natCast]; assumption) | (simp only [Int.reduceToNat]; assumption)))))
            refine ⟨n2 - 1, by omega, t + 1, by omega, ?_⟩
            rw [hV, eU]
            (refine leB_of ?_ ?_; (· (repeat (first | exact EnvIs.nil | (refine EnvIs.cons ?_ ?_; (· first | rfl | ((conv => (lhs; whnf)); first | (simp [ints]; done) | (simp [ints]; omega))))))); (· (repeat (first | exact ObjsAre.nil | (refine ObjsAre.cons ?_ ?_; (· first | rfl | ((conv => (lhs; whnf)); first | (simp [ints]; done) | (simp [ints]; omega))))))))
        · have hie : t = N := by simp at hc; omega
          rw [hie]
          clear hc hUs
          generalize U N = u at *
          refine awp_exit (?_ : Awp _ _ _ _ _ _)
          (repeat (first | refine awp_reg rfl fun k => ?_ | (apply runk0 rfl rfl (opok_move rfl ?_) ?_; rotate_left 1; (· (conv => (lhs; whnf)))) | (apply runk_assignOwn rfl rfl rfl ?_ ?_ ?_; rotate_left 4; (· (conv => (lhs; whnf))); (· (conv => (lhs; whnf; arg 1; whnf)))) | (apply runk0 rfl rfl (opok_bin rfl ?_ ?_ ?_) ?_; rotate_left 3; (· (conv => (lhs; whnf))); (· (conv => (lhs; whnf))); (· (intro w; go_simp; first | done | rfl))) | (apply runk_lit rfl rfl rfl ?_ ?_ ?_ ?_ ?_ ?_ ?_ ?_ ?_ ?_ ?_; rotate_left 4; (· (conv => (lhs; whnf; arg 1; whnf))); (· (unfold sizeIs; conv => (lhs; whnf; arg 1; whnf))); (· (conv => (lhs; whnf; arg 1; whnf))); (· rfl); (· rfl); (· rfl); (· rfl); (· (repeat (first | exact PartsAre.nil _ | (apply PartsAre.cons; (· (conv => (lhs; whnf))))))); (· first | rfl | exact one_ints _ _ | exact widths_ints _ _ | simp); (· first | rfl | exact one_ints _ _ | exact widths_ints _ _ | simp)) | refine runk_end (by kernel_rfl) ?_ | (apply runk_app rfl rfl rfl ?_ ?_ ?_ ?_ ?_ ?_ ?_ ?_ ?_ ?_ ?_ ?_ ?_ ?_ ?_ ?_; rotate_left 11; (· (conv => (lhs; whnf))); (· (conv => (lhs; whnf))); (· (conv => (lhs; whnf; arg 1; whnf))); (· (unfold sizeIs; conv => (lhs; whnf; arg 1; whnf))); (· (conv => (lhs; whnf; arg 1; whnf))); (· (conv => (lhs; whnf; arg 1; whnf))); (· rfl); (· rfl); (· rfl); (· first | exact .nil | (refine .own _ _ _ _ rfl ?_; first | rfl | (simp; done)) | (refine .pre _ _ _ _ rfl ?_ ?_; (· first | omega | (simp; done) | (simp; omega)); (· first | exact widths_ints _ _ | rfl | (simp; done)))); (· first | exact .ro _ | (refine .own _ _ _ _ _ _ rfl ?_; first | rfl | (simp; done)) | exact .nil | (refine .pre _ _ _ _ _ _ rfl ?_ ?_; (· first | omega | (simp; done) | (simp; omega)); (· first | exact widths_ints _ _ | rfl | (simp; done))) | (refine .sub _ _ _ _ _ _ _ rfl ?_ ?_; (· first | omega | (simp; done) | (simp; omega)); (· first | exact widths_ints _ _ | rfl | (simp; done)))); (· first | rfl | exact one_ints _ _ | exact widths_ints _ _ | (simp only [ints_takeR, ints_dropR]; first | exact one_ints _ _ | exact widths_ints _ _) | simp); (· first | rfl | exact one_ints _ _ | exact widths_ints _ _ | (simp only [ints_takeR, ints_dropR]; first | exact one_ints _ _ | exact widths_ints _ _) | simp); (· first | omega | (simp; done) | (simp; omega)); (· first | (simp only [List.nil_append, ints_takeR, ints_dropR, ints_one, ints_consR, ints_append]; done) | (simp only [List.nil_append, ints_takeR, ints_dropR, ints_one, ints_consR, ints_append]; rfl) | rfl))))
          rename_i ka
          refine ⟨n - 1, by omega, j + 1, ka, by omega, ?_⟩
          rw [hY, eT]
          (refine leB_of ?_ ?_; (· (repeat (first | exact EnvIs.nil | (refine EnvIs.cons ?_ ?_; (· first | rfl | ((conv => (lhs; whnf)); first | (simp [ints]; done) | (simp [ints]; omega))))))); (· (repeat (first | exact ObjsAre.nil | (refine ObjsAre.cons ?_ ?_; (· first | rfl | ((conv => (lhs; whnf)); first | (simp [ints]; done) | (simp [ints]; omega))))))))
    · have hie : N = j := by simp at hc; omega
      subst hie
      clear hc sG hGl hTs hTl
      generalize T N = XL at *
      refine awp_exit (?_ : Awp _ _ _ _ _ _)
      refine awp_less (st' := ⟨[(3, .own 3 kq (ints .i64 XL).length)], [(3, some (kq, .row 3 1 (ints .i64 XL)))]⟩) ?_ ?_
      · (refine leB_of ?_ ?_; (· (repeat (first | exact EnvIs.nil | (refine EnvIs.cons ?_ ?_; (· first | rfl | ((conv => (lhs; whnf)); first | (simp [ints]; done) | (simp [ints]; omega))))))); (· (repeat (first | exact ObjsAre.nil | (refine ObjsAre.cons ?_ ?_; (· first | rfl | ((conv => (lhs; whnf)); first | (simp [ints]; done) | (simp [ints]; omega))))))))
      (refine awp_frz 3 kq (ints .i64 XL) ([(3, .ro (ints .i64 XL))]) ([]) rfl ?_ ?_ ?_; (· (repeat (first | exact EnvFrz.nil | (refine EnvFrz.cons rfl ?_ ?_; (· first | exact .one (.same _) | (refine .one (.own _ ?_); first | rfl | (simp; done) | (simp only [length_ints]; omega)) | (refine .agg ?_; (repeat (first | exact Frzs.nil | (refine Frzs.cons ?_ ?_; (· first | exact Frz1.same _ | (refine Frz1.own _ ?_; first | rfl | (simp; done) | (simp only [length_ints]; omega)) | exact Frz1.any _))))) | (refine .tuple ?_; (repeat (first | exact Frzs.nil | (refine Frzs.cons ?_ ?_; (· first | exact Frz1.same _ | (refine Frz1.own _ ?_; first | rfl | (simp; done) | (simp only [length_ints]; omega)) | exact Frz1.any _)))))))))); (· (repeat (first | exact ObjsFrz.nil | (refine ObjsFrz.cons rfl rfl ?_ ?_; (· first | exact .same _ | (refine .box ?_; (repeat (first | exact Frzs.nil | (refine Frzs.cons ?_ ?_; (· first | exact Frz1.same _ | (refine Frz1.own _ ?_; first | rfl | (simp; done) | (simp only [length_ints]; omega)) | exact Frz1.any _))))) | (refine .row ?_ rfl; (repeat (first | exact Frzs.nil | (refine Frzs.cons ?_ ?_; (· first | exact Frz1.same _ | (refine Frz1.own _ ?_; first | rfl | (simp; done) | (simp only [length_ints]; omega)) | exact Frz1.any _)))))))))))
      (repeat (first | refine awp_reg_seq rfl fun k => ?_ | (refine awp_ret ?_; (apply ends_pure ?_ ?_ ?_ ?_ ?_ (.inl rfl); rotate_left 1; (· first | exact res_one rfl rfl | exact res_two rfl rfl rfl | exact res_none rfl | exact res_three rfl rfl rfl rfl | exact res_cell rfl rfl rfl rfl rfl | exact res_cell2 rfl rfl rfl rfl rfl rfl | exact res3 rfl (rv_cell rfl rfl rfl rfl) (rv_tmp rfl) (rv_tmp rfl) | exact res3 rfl (rv_cell rfl rfl rfl rfl) (rv_cell rfl rfl rfl rfl) (rv_cell rfl rfl rfl rfl)); (· first | rfl | ((conv => (lhs; whnf)); first | rfl | (simp; done))); (· first | rfl | (simp; done) | (simp [AVal.pure, AVal.pures, AObj.pure]; done)); (· rfl); (· rfl))) | (apply runk0 rfl rfl (opok_move rfl ?_) ?_; rotate_left 1; (· (conv => (lhs; whnf)))) | (apply runk0 rfl rfl (opok_assign rfl ?_) ?_; rotate_left 1; (· (conv => (lhs; whnf)))) | refine runk_end (by kernel_rfl) ?_))
theorem fstN_spec (h : Nat → Int) : ∀ n, (fstN h n = -1 ∧ ∀ t, t < n → h t < 0) ∨ ∃ t : Nat, fstN h n = (t : Int) ∧ t < n ∧ 0 ≤ h t ∧ ∀ u, u < t → h u < 0
  | 0 => .inl ⟨rfl, fun t ht => by omega⟩
  | n + 1 => by
    have e : fstN h (n + 1) = bif decide (0 ≤ h n) && decide (fstN h n < 0) then (n : Int) else fstN h n := rfl
    rcases fstN_spec h n with ⟨h1, h2⟩ | ⟨t, h1, h2, h3, h4⟩
    · by_cases hn : 0 ≤ h n
      · refine .inr ⟨n, ?_, by omega, hn, h2⟩
        rw [e, h1, decide_eq_true hn]; rfl
      · refine .inl ⟨?_, fun t ht => ?_⟩
        · rw [e, decide_eq_false hn]; exact h1
        · by_cases htn : t = n
          · subst htn; omega
          · exact h2 t (by omega)
    · refine .inr ⟨t, ?_, by omega, h3, h4⟩
      rw [e, h1]
      have : decide ((t : Int) < 0) = false := by simp
      rw [this, Bool.and_false]; rfl
theorem rpN_at (g : Nat → List Int) (N s : Nat) : ∀ m, s < m → (rpN g N m).getD s 0 = fstN (fun t => (g s).getD t 0) N
  | 0, h => by omega
  | m + 1, h => by
    show (rpN g N m ++ [fstN (fun t => (g m).getD t 0) N]).getD s 0 = _
    have hl := rpN_len g N m
    rw [List.getD_eq_getElem?_getD]
    by_cases hm : s < m
    · rw [List.getElem?_append_left (by omega), ← List.getD_eq_getElem?_getD]
      exact rpN_at g N s m hm
    · have : s = m := by omega
      subst this
      rw [List.getElem?_append_right (by omega), hl, Nat.sub_self]
      rfl

end Go.Proofs.Ytpdiainbcekpiaa
