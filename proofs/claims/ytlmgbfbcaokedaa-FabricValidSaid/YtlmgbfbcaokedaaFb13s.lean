/-
  Layer 13: the search for a way where something is left, by states.
-/
import Derived.Test.YtlmgbfbcaokedaaMkDeck
import Derived.Test.YtlmgbfbcaokedaaAbsN
import Derived.Test.YtlmgbfbcaokedaaAbsI
import Derived.Test.YtlmgbfbcaokedaaAbsQue
namespace Go.Proofs.Ytlmgbfbcaokedaa
open Go.RowKit
/-- One switch looked at from s. -/
def sr1 (L : List Int) (s : Int) (x : List Int × List Int) (t : Nat) : List Int × List Int := bif decide (x.1.getD t 0 < 0) && decide (0 < L.getD (8 * s.toNat + t) 0) then (x.1.set t s, x.2 ++ [(t : Int)]) else x
def srT (L : List Int) (s : Int) (x : List Int × List Int) : Nat → List Int × List Int
  | 0 => x
  | n + 1 => sr1 L s (srT L s x n) n
def srF (L : List Int) : Nat → List Int → List Int → List Int
  | 0, b, _ => b
  | n + 1, b, q => match q with
    | [] => b
    | s :: q => srF L n (srT L s (b, q) 8).1 (srT L s (b, q) 8).2
def srZ (L : List Int) (a : Nat) : List Int := srF L 8 ((List.replicate 8 (-1)).set a a) [(a : Int)]
/-- How many are not found yet. -/
def unf (b : List Int) : Nat := b.countP fun x => decide (x < 0)
theorem unf_set {b : List Int} {t : Nat} {s : Int} (ht : t < b.length) (h : b.getD t 0 < 0) (hs : 0 ≤ s) : unf (b.set t s) + 1 = unf b := by
  unfold unf
  induction b generalizing t with
  | nil => simp at ht
  | cons x b ih =>
    cases t with
    | zero =>
      simp only [List.getD_cons_zero] at h
      have h2 : ¬ s < 0 := by omega
      simp [List.countP_cons, h, h2]
    | succ t =>
      simp only [List.getD_cons_succ, List.length_cons] at h ht
      have := ih (by omega) h
      simp only [List.set_cons_succ, List.countP_cons]
      omega
theorem srT_inv (L : List Int) (s : Int) (h0 : 0 ≤ s) (h8 : s < 8) (x : List Int × List Int) (hx : x.1.length = 8) (hq : ∀ y ∈ x.2, 0 ≤ y ∧ y < 8) : ∀ n, n ≤ 8 → (srT L s x n).1.length = 8 ∧ (∀ y ∈ (srT L s x n).2, 0 ≤ y ∧ y < 8) ∧ (srT L s x n).2.length + unf (srT L s x n).1 = x.2.length + unf x.1
  | 0, _ => ⟨hx, hq, rfl⟩
  | n + 1, hn => by
    obtain ⟨h1, h2, h3⟩ := srT_inv L s h0 h8 x hx hq n (by omega)
    show (sr1 L s (srT L s x n) n).1.length = 8 ∧ (∀ y ∈ (sr1 L s (srT L s x n) n).2, 0 ≤ y ∧ y < 8) ∧ (sr1 L s (srT L s x n) n).2.length + unf (sr1 L s (srT L s x n) n).1 = x.2.length + unf x.1
    unfold sr1
    cases hc : decide ((srT L s x n).1.getD n 0 < 0) && decide (0 < L.getD (8 * s.toNat + n) 0) with
    | false => exact ⟨h1, h2, h3⟩
    | true =>
      simp only [Bool.and_eq_true, decide_eq_true_eq] at hc
      refine ⟨by simp [h1], fun y hy => ?_, ?_⟩
      · rcases List.mem_append.1 hy with hy | hy
        · exact h2 y hy
        · simp only [List.mem_singleton] at hy
          subst hy; omega
      · have := unf_set (by rw [h1]; omega) hc.1 h0
        simp only [cond_true, List.length_append, List.length_cons, List.length_nil]
        omega
set_option maxHeartbeats 64000000 in
set_option maxRecDepth 100000 in
theorem search_spec (L : List Int) (hL : L.length = 64) (a : Nat) (ha : a < 8) : Spec Try.prog 37 [.agg (ints .i64 L), .val (.int .i64 (a : Int))] [] (.agg (ints .i64 (srZ L a))) [] := by
  have c1 : IntKind.i64.wrap (-1) = -1 := rfl
  have g1 : IntKind.i64.wrap 1 = 1 := rfl
  have g2 : IntKind.i64.wrap 2 = 2 := rfl
  have g3 : IntKind.i64.wrap 3 = 3 := rfl
  have g4 : IntKind.i64.wrap 4 = 4 := rfl
  have g5 : IntKind.i64.wrap 5 = 5 := rfl
  have g6 : IntKind.i64.wrap 6 = 6 := rfl
  have g7 : IntKind.i64.wrap 7 = 7 := rfl
  have g8 : IntKind.i64.wrap 8 = 8 := rfl
  unfold srZ
  refine spec_of_awp Try.func37 rfl (Nat.le_of_ble_eq_true rfl) fun ini => ?_
  simp only [Try.ntmps37]
  (repeat (first | refine awp_reg_seq rfl fun k => ?_ | refine awp_seq ?_ | refine awp_block ?_ | (apply runk0 rfl rfl (opok_box_ro rfl ?_ ?_ ?_) ?_; rotate_left 2; (· (conv => (lhs; whnf))); (· rfl); (· (conv => (lhs; whnf)))) | (apply runk0 rfl rfl (opok_move rfl ?_) ?_; rotate_left 1; (· (conv => (lhs; whnf)))) | (apply runk_alloc rfl rfl rfl ?_ ?_ ?_; rotate_left 2; (· (conv => (lhs; whnf; arg 1; whnf))); (· (conv => (lhs; whnf)))) | refine runk_end (by kernel_rfl) ?_))
  rename_i k4 k5
  refine awp_less (st' := ⟨[(10, .val (.int .i64 0)), (1, .val (.int .i64 (a : Int))), (2, .rref (ints .i64 L)), (4, .ptr 4 k4 0), (5, .ptr 5 k5 0)], [(4, some (k4, .box 56 [.val (.int .i64 0), .val (.int .i64 0), .val (.int .i64 0), .val (.int .i64 0), .val (.int .i64 0), .val (.int .i64 0), .val (.int .i64 0), .val (.int .i64 0)])), (5, some (k5, .box 56 [.val (.int .i64 0), .val (.int .i64 0), .val (.int .i64 0), .val (.int .i64 0), .val (.int .i64 0), .val (.int .i64 0), .val (.int .i64 0), .val (.int .i64 0)]))]⟩) ?_ ?_
  · (refine leB_of ?_ ?_; (· (repeat (first | exact EnvIs.nil | (refine EnvIs.cons ?_ ?_; (· first | rfl | ((conv => (lhs; whnf)); first | (simp [ints]; done) | (simp [ints]; omega))))))); (· (repeat (first | exact ObjsAre.nil | (refine ObjsAre.cons ?_ ?_; (· first | rfl | ((conv => (lhs; whnf)); first | (simp [ints]; done) | (simp [ints]; omega))))))))
  refine awp_rounds 9 ?_
  (repeat (first | refine awp_reg_seq rfl fun k => ?_ | refine awp_reg rfl fun k => ?_ | refine awp_seq ?_ | refine awp_true rfl ?_ | refine awp_false rfl ?_ | refine awp_skip (?_ : Awp _ _ _ _ _ _) | refine awp_block ?_ | refine awp_exit (?_ : Awp _ _ _ _ _ _) | (((apply runk0 rfl rfl (opok_indexP rfl ?_ ?_ rfl ?_ ?_ ?_) ?_; rotate_left 6; (· (conv => (lhs; whnf))); (· (conv => (lhs; whnf))); (· (unfold sizeIs; conv => (lhs; whnf; arg 1; whnf))); (· first | omega | (simp; done) | (simp; omega)); (· first | omega | (simp; done) | (simp; omega))))) | (((apply runk_storeI rfl rfl rfl ?_ ?_ ?_ ?_ ?_ ?_ ?_ ?_ ?_; rotate_left 7; (· (conv => (lhs; whnf))); (· rfl); (· (conv => (lhs; whnf))); (· rfl); (· rfl); (· (unfold sizeIs; conv => (lhs; whnf; arg 1; whnf))); (· first | (simp; done) | (simp; omega) | omega); (· rfl)))) | (apply runk0 rfl rfl (opok_move rfl ?_) ?_; rotate_left 1; (· (conv => (lhs; whnf)))) | (apply runk_assignOwn rfl rfl rfl ?_ ?_ ?_; rotate_left 4; (· (conv => (lhs; whnf))); (· (conv => (lhs; whnf; arg 1; whnf)))) | (apply runk0 rfl rfl (opok_assign rfl ?_) ?_; rotate_left 1; (· (conv => (lhs; whnf)))) | (apply runk0 rfl rfl (opok_bin rfl ?_ ?_ ?_) ?_; rotate_left 3; (· (conv => (lhs; whnf))); (· (conv => (lhs; whnf))); (· (intro w; go_simp; first | done | rfl))) | (apply runk0 rfl rfl (opok_extract rfl ?_ ?_) ?_; rotate_left 2; (· (conv => (lhs; whnf))); (· (conv => (lhs; whnf; arg 1; whnf)))) | (apply runk_lit rfl rfl rfl ?_ ?_ ?_ ?_ ?_ ?_ ?_ ?_ ?_ ?_ ?_; rotate_left 4; (· (conv => (lhs; whnf; arg 1; whnf))); (· (unfold sizeIs; conv => (lhs; whnf; arg 1; whnf))); (· (conv => (lhs; whnf; arg 1; whnf))); (· rfl); (· rfl); (· rfl); (· rfl); (· (repeat (first | exact PartsAre.nil _ | (apply PartsAre.cons; (· (conv => (lhs; whnf))))))); (· first | rfl | exact one_ints _ _ | exact widths_ints _ _ | simp); (· first | rfl | exact one_ints _ _ | exact widths_ints _ _ | simp)) | refine runk_end (by kernel_rfl) ?_))
  have hq0 : ∀ y ∈ [(a : Int)], 0 ≤ y ∧ y < 8 := fun y hy => by simp only [List.mem_singleton] at hy; omega
  have hb0 : ((List.replicate 8 (-1 : Int)).set a a).length = 8 := by simp
  have hm0 : [(a : Int)].length + unf ((List.replicate 8 (-1 : Int)).set a a) ≤ 8 := by
    have hall : ∀ x : Fin 8, [((x : Nat) : Int)].length + unf ((List.replicate 8 (-1 : Int)).set x ((x : Nat) : Int)) ≤ 8 := by decide
    exact hall ⟨a, ha⟩
  generalize hans : srF L 8 ((List.replicate 8 (-1 : Int)).set a a) [(a : Int)] = ans at *
  clear c1 g1 g2 g3 g4 g5 g6 g7 g8
  generalize k = k7
  refine awp_less (st' := ⟨[(2, .rref (ints .i64 L)), (4, .ptr 4 k4 0), (5, .ptr 5 k5 0), (7, .own 7 k7 (ints .i64 [(a : Int)]).length)], [(4, some (k4, .box 56 [.val (.int .i64 0), .val (.int .i64 0), .val (.int .i64 0), .val (.int .i64 0), .val (.int .i64 0), .val (.int .i64 0), .val (.int .i64 0), .val (.int .i64 0)])), (5, some (k5, .box 56 (ints .i64 ((List.replicate 8 (-1 : Int)).set a a)))), (7, some (k7, .row 3 1 (ints .i64 [(a : Int)])))]⟩) ?_ ?_
  · (refine leB_of ?_ ?_; (· (repeat (first | exact EnvIs.nil | (refine EnvIs.cons ?_ ?_; (· first | rfl | ((conv => (lhs; whnf)); first | (simp [ints, List.map_set, List.replicate]; done) | (simp [ints, List.map_set, List.replicate]; omega))))))); (· (repeat (first | exact ObjsAre.nil | (refine ObjsAre.cons ?_ ?_; (· first | rfl | ((conv => (lhs; whnf)); first | (simp [ints, List.map_set, List.replicate]; done) | (simp [ints, List.map_set, List.replicate]; omega))))))))
  refine awp_win 7 7 k7 7 rfl rfl (by simp [ints]) fun k7 => ?_
  refine awp_loop (fun n st => ∃ (b q : List Int) (k7 : Nat), n ≤ 8 ∧ b.length = 8 ∧ (∀ y ∈ q, 0 ≤ y ∧ y < 8) ∧ q.length + unf b ≤ n ∧ srF L n b q = ans ∧ st.leB ⟨[(2, .rref (ints .i64 L)), (4, .ptr 4 k4 0), (5, .ptr 5 k5 0), (7, .win 7 k7 (q).length)], [(4, some (k4, .box 56 [.val (.int .i64 0), .val (.int .i64 0), .val (.int .i64 0), .val (.int .i64 0), .val (.int .i64 0), .val (.int .i64 0), .val (.int .i64 0), .val (.int .i64 0)])), (5, some (k5, .box 56 (ints .i64 (b)))), (7, some (k7, .que 3 1 (ints .i64 (q))))]⟩) 8 ⟨(List.replicate 8 (-1 : Int)).set a a, [(a : Int)], k7, Nat.le_refl 8, hb0, hq0, hm0, hans, ?_⟩ ?_
  · (refine leB_of ?_ ?_; (· (repeat (first | exact EnvIs.nil | (refine EnvIs.cons ?_ ?_; (· first | rfl | ((conv => (lhs; whnf)); first | (simp [ints]; done) | (simp [ints]; omega))))))); (· (repeat (first | exact ObjsAre.nil | (refine ObjsAre.cons ?_ ?_; (· first | rfl | ((conv => (lhs; whnf)); first | (simp [ints]; done) | (simp [ints]; omega))))))))
  · rintro n st ⟨b, q, k7, hn8, hb, hq, hm, hF, hle⟩
    refine awp_less hle ?_
    clear hle st hb0 hq0 hm0 hans
    cases q with
    | nil =>
      have hF2 : b = ans := by cases n <;> exact hF
      have e8 : ∃ a0 a1 a2 a3 a4 a5 a6 a7 : Int, b = [a0, a1, a2, a3, a4, a5, a6, a7] := by
        match b, hb with
        | [a0, a1, a2, a3, a4, a5, a6, a7], _ => exact ⟨a0, a1, a2, a3, a4, a5, a6, a7, rfl⟩
      obtain ⟨a0, a1, a2, a3, a4, a5, a6, a7, rfl⟩ := e8
      subst hF2
      (repeat (first | refine awp_reg_seq rfl fun k => ?_ | refine awp_seq ?_ | refine awp_false rfl ?_ | refine awp_exit (?_ : Awp _ _ _ _ _ _) | (refine awp_ret ?_; (apply ends_pure ?_ ?_ ?_ ?_ ?_ (.inl rfl); rotate_left 1; (· first | exact res_one rfl rfl | exact res_two rfl rfl rfl | exact res_none rfl | exact res_three rfl rfl rfl rfl | exact res_cell rfl rfl rfl rfl rfl | exact res_cell2 rfl rfl rfl rfl rfl rfl | exact res3 rfl (rv_cell rfl rfl rfl rfl) (rv_tmp rfl) (rv_tmp rfl) | exact res3 rfl (rv_cell rfl rfl rfl rfl) (rv_cell rfl rfl rfl rfl) (rv_cell rfl rfl rfl rfl)); (· first | rfl | ((conv => (lhs; whnf)); first | rfl | (simp; done))); (· first | rfl | (simp; done) | (simp [AVal.pure, AVal.pures, AObj.pure]; done)); (· rfl); (· rfl))) | (((apply runk0 rfl rfl (opok_len_win rfl ?_ ?_) ?_; rotate_left 4; (· (conv => (lhs; whnf))); (· (conv => (lhs; whnf; arg 1; whnf)))))) | (apply runk0 rfl rfl (opok_move rfl ?_) ?_; rotate_left 1; (· (conv => (lhs; whnf)))) | (apply runk0 rfl rfl (opok_loadA rfl ?_ ?_ ?_ ?_ ?_ ?_) ?_; rotate_left 6; (· (conv => (lhs; whnf))); (· (conv => (lhs; whnf; arg 1; whnf; arg 2; whnf))); (· rfl); (· (unfold sizeIs; conv => (lhs; whnf; arg 1; whnf))); (· (conv => (lhs; repeat (whnf; arg 2)))); (· rfl)) | (apply runk0 rfl rfl (opok_bin rfl ?_ ?_ ?_) ?_; rotate_left 3; (· (conv => (lhs; whnf))); (· (conv => (lhs; whnf))); (· (intro w; go_simp; first | done | rfl))) | (apply runk0 rfl rfl (opok_extract rfl ?_ ?_) ?_; rotate_left 2; (· (conv => (lhs; whnf))); (· (conv => (lhs; whnf; arg 1; whnf)))) | (apply runk_store rfl rfl rfl ?_ ?_ ?_ ?_ ?_ ?_ ?_ ?_ ?_ ?_ ?_; rotate_left 9; (· (conv => (lhs; whnf))); (· (conv => (lhs; whnf))); (· (conv => (lhs; whnf; arg 1; whnf; arg 2; whnf))); (· rfl); (· (conv => (lhs; whnf))); (· rfl); (· (unfold sizeIs; conv => (lhs; whnf; arg 1; whnf))); (· rfl); (· rfl); (· (conv => (lhs; repeat (whnf; arg 2))))) | refine runk_end (by kernel_rfl) ?_))
    | cons s q =>
      obtain ⟨hs0, hs8⟩ := hq s List.mem_cons_self
      have hq2 : ∀ y ∈ q, 0 ≤ y ∧ y < 8 := fun y hy => hq y (List.mem_cons_of_mem _ hy)
      clear hq
      obtain ⟨m, rfl⟩ : ∃ m, n = m + 1 := ⟨n - 1, by simp only [List.length_cons] at hm; omega⟩
      have hm2 : q.length + unf b ≤ m := by simp only [List.length_cons] at hm; omega
      clear hm
      have hF2 : srF L m (srT L s (b, q) 8).1 (srT L s (b, q) 8).2 = ans := hF
      clear hF
      obtain ⟨s, rfl⟩ : ∃ n : Nat, s = n := ⟨s.toNat, by omega⟩
      have hsl : s < 8 := by omega
      have hinv := srT_inv L (s : Int) hs0 hs8 (b, q) hb hq2
      have dl : decide ((0 : Int) < ((q.length + 1 : Nat) : Int)) = true := by simp
      (repeat (first | refine awp_reg_seq rfl fun k => ?_ | refine awp_seq ?_ | refine awp_true rfl ?_ | refine awp_skip (?_ : Awp _ _ _ _ _ _) | refine awp_block ?_ | (((apply runk0 rfl rfl (opok_len_win rfl ?_ ?_) ?_; rotate_left 4; (· (conv => (lhs; whnf))); (· (conv => (lhs; whnf; arg 1; whnf)))))) | (((apply runk_assignWin rfl rfl rfl ?_ ?_ ?_; rotate_left 4; (· (conv => (lhs; whnf))); (· (conv => (lhs; whnf; arg 1; whnf)))))) | (((apply runk_sliceWin rfl rfl rfl ?_ ?_ ?_ ?_ ?_ ?_ ?_ ?_ ?_; rotate_left 9; (· (conv => (lhs; whnf))); (· (conv => (lhs; whnf; arg 1; whnf; arg 2; whnf))); (· first | rfl | (conv => (lhs; whnf))); (· (conv => (lhs; whnf; arg 1; whnf))); (· (unfold sizeIs; conv => (lhs; whnf; arg 1; whnf))); (· first | rfl | (simp; done) | (simp; omega)); (· first | omega | (simp; done) | (simp; omega)); (· first | exact widths_ints _ _ | rfl | simp)))) | (((apply runk0 rfl rfl (opok_index_win rfl ?_ ?_ ?_ ?_ ?_ ?_) ?_; rotate_left 7; (· (conv => (lhs; whnf))); (· (conv => (lhs; whnf))); (· (conv => (lhs; whnf; arg 1; whnf))); (· (unfold sizeIs; conv => (lhs; whnf; arg 1; whnf))); (· first | omega | (simp; done) | (simp; omega)); (· first | omega | (simp; done) | (simp; omega))))) | (((apply runk0 rfl rfl (opok_load_wptr rfl ?_ ?_ ?_ ?_) ?_; rotate_left 7; (· (conv => (lhs; whnf))); (· (conv => (lhs; whnf; arg 1; whnf; arg 2; whnf))); (· rfl); (· (conv => (lhs; whnf; arg 1; whnf)))))) | (apply runk0 rfl rfl (opok_move rfl ?_) ?_; rotate_left 1; (· (conv => (lhs; whnf)))) | (apply runk0 rfl rfl (opok_assign rfl ?_) ?_; rotate_left 1; (· (conv => (lhs; whnf)))) | (apply runk0 rfl rfl (opok_bin rfl ?_ ?_ ?_) ?_; rotate_left 3; (· (conv => (lhs; whnf))); (· (conv => (lhs; whnf))); (· (intro w; go_simp; first | done | rfl))) | refine runk_end (by kernel_rfl) ?_))
      rename_i x1 x2 k7b
      clear dl
      refine awp_loop (fun n2 st => ∃ (j k7 : Nat), j + n2 = 8 ∧ st.leB ⟨[(29, .val (.int .i64 (j : Int))), (8, .val (.int .i64 (s : Int))), (2, .rref (ints .i64 L)), (4, .ptr 4 k4 0), (5, .ptr 5 k5 0), (7, .win 7 k7 ((srT L (s : Int) (b, q) j).2).length)], [(4, some (k4, .box 56 [.val (.int .i64 0), .val (.int .i64 0), .val (.int .i64 0), .val (.int .i64 0), .val (.int .i64 0), .val (.int .i64 0), .val (.int .i64 0), .val (.int .i64 0)])), (5, some (k5, .box 56 (ints .i64 ((srT L (s : Int) (b, q) j).1)))), (7, some (k7, .que 3 1 (ints .i64 ((srT L (s : Int) (b, q) j).2))))]⟩) 8 ⟨0, k7b, rfl, ?_⟩ ?_
      · (refine leB_of ?_ ?_; (· (repeat (first | exact EnvIs.nil | (refine EnvIs.cons ?_ ?_; (· first | rfl | ((conv => (lhs; whnf)); first | (simp [srT, ints]; done) | (simp [srT, ints]; omega))))))); (· (repeat (first | exact ObjsAre.nil | (refine ObjsAre.cons ?_ ?_; (· first | rfl | ((conv => (lhs; whnf)); first | (simp [srT, ints]; done) | (simp [srT, ints]; omega))))))))
      · rintro n2 st ⟨j, k7c, hj, hle⟩
        refine awp_less hle ?_
        clear hle st
        (repeat (first | refine awp_reg_seq rfl fun k => ?_ | refine awp_seq ?_ | (apply runk0 rfl rfl (opok_bin rfl ?_ ?_ ?_) ?_; rotate_left 3; (· (conv => (lhs; whnf))); (· (conv => (lhs; whnf))); (· (intro w; go_simp; first | done | rfl))) | refine runk_end (by kernel_rfl) ?_))
        refine awp_if rfl (fun hc => ?_) (fun hc => ?_)
        · have hj8 : j < 8 := by simp at hc; omega
          clear hc
          have wj : IntKind.i64.wrap ((j : Int) + 1) = ((j + 1 : Nat) : Int) := by rw [IntKind.wrap_i64]; omega
          obtain ⟨hl, hqb, hmm⟩ := hinv j (by omega)
          have eT : srT L (s : Int) (b, q) (j + 1) = sr1 L (s : Int) (srT L (s : Int) (b, q) j) j := rfl
          unfold sr1 at eT
          rw [Int.toNat_natCast] at eT
          have hql : (srT L (s : Int) (b, q) j).2.length ≤ 8 := by
            have h2 : (srT L (s : Int) (b, q) j).2.length + unf (srT L (s : Int) (b, q) j).1 = q.length + unf b := hmm
            omega
          generalize hY : srT L (s : Int) (b, q) (j + 1) = Y at *
          generalize srT L (s : Int) (b, q) j = X at *
          obtain ⟨B, C⟩ := X
          dsimp only at *
          clear hinv hmm hqb hF2
          have hB : (ints .i64 B)[j]? = some (.val (.int .i64 (B.getD j 0))) := ints_getD .i64 B j (by omega)
          have hLx : (List.drop (s * 8 + j) (ints .i64 L))[0]? = some (.val (.int .i64 (L.getD (8 * s + j) 0))) := by
            rw [List.getElem?_drop, Nat.add_zero, Nat.mul_comm s 8]
            exact ints_getD .i64 L (8 * s + j) (by omega)
          generalize B.getD j 0 = v at *
          generalize L.getD (8 * s + j) 0 = u at *
          cases q1 : decide (v < 0) with
          | true =>
            cases q2 : decide (0 < u) with
            | true =>
              rw [q1, q2] at eT
              simp only [Bool.and_self, cond_true] at eT
              (repeat (first | refine awp_reg_seq rfl fun k => ?_ | refine awp_reg rfl fun k => ?_ | refine awp_seq ?_ | refine awp_true rfl ?_ | refine awp_skip (?_ : Awp _ _ _ _ _ _) | refine awp_block ?_ | (((apply runk0 rfl rfl (opok_indexP rfl ?_ ?_ rfl ?_ ?_ ?_) ?_; rotate_left 6; (· (conv => (lhs; whnf))); (· (conv => (lhs; whnf))); (· (unfold sizeIs; conv => (lhs; whnf; arg 1; whnf))); (· first | omega | (simp; done) | (simp; omega)); (· first | omega | (simp; done) | (simp; omega))))) | (((apply runk0 rfl rfl (opok_indexPR rfl ?_ ?_ ?_ ?_ ?_ ?_) ?_; rotate_left 6; (· (conv => (lhs; whnf))); (· (conv => (lhs; whnf))); (· (conv => (lhs; whnf; arg 1; whnf))); (· (unfold sizeIs; conv => (lhs; whnf; arg 1; whnf))); (· first | omega | (simp; done) | (simp; omega)); (· first | omega | (simp; done) | (simp; omega))))) | (((apply runk0 rfl rfl (opok_loadR rfl ?_ ?_ ?_) ?_; rotate_left 2; (· (conv => (lhs; whnf))); (· rfl); (· (simp only [Int.toNat_natCast, Nat.mul_one, List.drop_drop]; assumption))))) | (((apply runk0 rfl rfl (opok_load rfl ?_ ?_ ?_ ?_) ?_; rotate_left 5; (· (conv => (lhs; whnf))); (· (conv => (lhs; whnf; arg 1; whnf; arg 2; whnf))); (· rfl); (· (simp only [AObj.cells, Int.toNat_natCast, Nat.mul_one, Nat.zero_add]; assumption))))) | (((apply runk_storeI rfl rfl rfl ?_ ?_ ?_ ?_ ?_ ?_ ?_ ?_ ?_; rotate_left 7; (· (conv => (lhs; whnf))); (· rfl); (· (conv => (lhs; whnf))); (· rfl); (· rfl); (· (unfold sizeIs; conv => (lhs; whnf; arg 1; whnf))); (· first | (simp; done) | (simp; omega) | omega); (· rfl)))) | (((apply runk_appWin rfl rfl rfl ?_ ?_ ?_ ?_ ?_ ?_ ?_ ?_ ?_ ?_ ?_ ?_ ?_ ?_ ?_ ?_ ?_ ?_; rotate_left 12; (· (conv => (lhs; whnf))); (· (conv => (lhs; whnf; arg 1; whnf; arg 2; whnf))); (· (conv => (lhs; whnf))); (· (conv => (lhs; whnf; arg 1; whnf))); (· (unfold sizeIs; conv => (lhs; whnf; arg 1; whnf))); (· (conv => (lhs; whnf; arg 1; whnf))); (· (conv => (lhs; whnf; arg 1; whnf))); (· rfl); (· rfl); (· rfl); (· first | rfl | (simp; done)); (· first | exact .ro _ | (refine .own _ _ _ _ _ _ rfl ?_; first | rfl | (simp; done)) | exact .nil | (refine .pre _ _ _ _ _ _ rfl ?_ ?_; (· first | omega | (simp; done) | (simp; omega)); (· first | exact widths_ints _ _ | rfl | (simp; done))) | (refine .sub _ _ _ _ _ _ _ rfl ?_ ?_; (· first | omega | (simp; done) | (simp; omega)); (· first | exact widths_ints _ _ | rfl | (simp; done)))); (· first | rfl | exact one_ints _ _ | exact widths_ints _ _ | simp); (· first | rfl | exact one_ints _ _ | exact widths_ints _ _ | simp); (· first | (simp; done) | (simp; omega)); (· first | omega | (simp; done) | (simp; omega)); (· first | (simp only [ints_one, ints_consR, ints_append]; done) | (simp only [ints_one, ints_consR, ints_append]; rfl) | rfl)))) | (((apply runk_assignWin rfl rfl rfl ?_ ?_ ?_; rotate_left 4; (· (conv => (lhs; whnf))); (· (conv => (lhs; whnf; arg 1; whnf)))))) | (first | refine runk_ung rfl rfl rfl rfl ?_ | refine runk_ung rfl rfl rfl (by assumption) ?_) | (apply runk0 rfl rfl (opok_move rfl ?_) ?_; rotate_left 1; (· (conv => (lhs; whnf)))) | (apply runk0 rfl rfl (opok_assign rfl ?_) ?_; rotate_left 1; (· (conv => (lhs; whnf)))) | (apply runk0 rfl rfl (opok_bin rfl ?_ ?_ ?_) ?_; rotate_left 3; (· (conv => (lhs; whnf))); (· (conv => (lhs; whnf))); (· (intro w; go_simp; first | done | rfl))) | (apply runk0 rfl rfl (opok_pick rfl ?_ ?_) ?_; rotate_left 2; (· (conv => (lhs; whnf))); (· first | exact pick_or | exact pick_and | (conv => (lhs; whnf)))) | (apply runk_lit rfl rfl rfl ?_ ?_ ?_ ?_ ?_ ?_ ?_ ?_ ?_ ?_ ?_; rotate_left 4; (· (conv => (lhs; whnf; arg 1; whnf))); (· (unfold sizeIs; conv => (lhs; whnf; arg 1; whnf))); (· (conv => (lhs; whnf; arg 1; whnf))); (· rfl); (· rfl); (· rfl); (· rfl); (· (repeat (first | exact PartsAre.nil _ | (apply PartsAre.cons; (· (conv => (lhs; whnf))))))); (· first | rfl | exact one_ints _ _ | exact widths_ints _ _ | simp); (· first | rfl | exact one_ints _ _ | exact widths_ints _ _ | simp)) | refine runk_end (by kernel_rfl) ?_))
              rename_i y1 y2 y3 k7n
              refine ⟨n2 - 1, by omega, j + 1, k7n, by omega, ?_⟩
              rw [hY, eT]
              (refine leB_of ?_ ?_; (· (repeat (first | exact EnvIs.nil | (refine EnvIs.cons ?_ ?_; (· first | rfl | ((conv => (lhs; whnf)); first | (simp [ints, List.map_set, List.map_append]; done) | (simp [ints, List.map_set, List.map_append]; omega))))))); (· (repeat (first | exact ObjsAre.nil | (refine ObjsAre.cons ?_ ?_; (· first | rfl | ((conv => (lhs; whnf)); first | (simp [ints, List.map_set, List.map_append]; done) | (simp [ints, List.map_set, List.map_append]; omega))))))))
            | false =>
              rw [q1, q2] at eT
              simp only [Bool.and_false, cond_false] at eT
              (repeat (first | refine awp_reg_seq rfl fun k => ?_ | refine awp_reg rfl fun k => ?_ | refine awp_seq ?_ | refine awp_false rfl ?_ | refine awp_skip (?_ : Awp _ _ _ _ _ _) | refine awp_block ?_ | (((apply runk0 rfl rfl (opok_indexP rfl ?_ ?_ rfl ?_ ?_ ?_) ?_; rotate_left 6; (· (conv => (lhs; whnf))); (· (conv => (lhs; whnf))); (· (unfold sizeIs; conv => (lhs; whnf; arg 1; whnf))); (· first | omega | (simp; done) | (simp; omega)); (· first | omega | (simp; done) | (simp; omega))))) | (((apply runk0 rfl rfl (opok_indexPR rfl ?_ ?_ ?_ ?_ ?_ ?_) ?_; rotate_left 6; (· (conv => (lhs; whnf))); (· (conv => (lhs; whnf))); (· (conv => (lhs; whnf; arg 1; whnf))); (· (unfold sizeIs; conv => (lhs; whnf; arg 1; whnf))); (· first | omega | (simp; done) | (simp; omega)); (· first | omega | (simp; done) | (simp; omega))))) | (((apply runk0 rfl rfl (opok_loadR rfl ?_ ?_ ?_) ?_; rotate_left 2; (· (conv => (lhs; whnf))); (· rfl); (· (simp only [Int.toNat_natCast, Nat.mul_one, List.drop_drop]; assumption))))) | (((apply runk0 rfl rfl (opok_load rfl ?_ ?_ ?_ ?_) ?_; rotate_left 5; (· (conv => (lhs; whnf))); (· (conv => (lhs; whnf; arg 1; whnf; arg 2; whnf))); (· rfl); (· (simp only [AObj.cells, Int.toNat_natCast, Nat.mul_one, Nat.zero_add]; assumption))))) | (first | refine runk_ung rfl rfl rfl rfl ?_ | refine runk_ung rfl rfl rfl (by assumption) ?_) | (apply runk0 rfl rfl (opok_move rfl ?_) ?_; rotate_left 1; (· (conv => (lhs; whnf)))) | (apply runk0 rfl rfl (opok_assign rfl ?_) ?_; rotate_left 1; (· (conv => (lhs; whnf)))) | (apply runk0 rfl rfl (opok_bin rfl ?_ ?_ ?_) ?_; rotate_left 3; (· (conv => (lhs; whnf))); (· (conv => (lhs; whnf))); (· (intro w; go_simp; first | done | rfl))) | (apply runk0 rfl rfl (opok_pick rfl ?_ ?_) ?_; rotate_left 2; (· (conv => (lhs; whnf))); (· first | exact pick_or | exact pick_and | (conv => (lhs; whnf)))) | refine runk_end (by kernel_rfl) ?_))
              refine ⟨n2 - 1, by omega, j + 1, k7c, by omega, ?_⟩
              rw [hY, eT]
              (refine leB_of ?_ ?_; (· (repeat (first | exact EnvIs.nil | (refine EnvIs.cons ?_ ?_; (· first | rfl | ((conv => (lhs; whnf)); first | (simp [ints]; done) | (simp [ints]; omega))))))); (· (repeat (first | exact ObjsAre.nil | (refine ObjsAre.cons ?_ ?_; (· first | rfl | ((conv => (lhs; whnf)); first | (simp [ints]; done) | (simp [ints]; omega))))))))
          | false =>
            rw [q1] at eT
            simp only [Bool.false_and, cond_false] at eT
            (repeat (first | refine awp_reg_seq rfl fun k => ?_ | refine awp_reg rfl fun k => ?_ | refine awp_seq ?_ | refine awp_false rfl ?_ | refine awp_skip (?_ : Awp _ _ _ _ _ _) | refine awp_block ?_ | (((apply runk0 rfl rfl (opok_indexP rfl ?_ ?_ rfl ?_ ?_ ?_) ?_; rotate_left 6; (· (conv => (lhs; whnf))); (· (conv => (lhs; whnf))); (· (unfold sizeIs; conv => (lhs; whnf; arg 1; whnf))); (· first | omega | (simp; done) | (simp; omega)); (· first | omega | (simp; done) | (simp; omega))))) | (((apply runk0 rfl rfl (opok_load rfl ?_ ?_ ?_ ?_) ?_; rotate_left 5; (· (conv => (lhs; whnf))); (· (conv => (lhs; whnf; arg 1; whnf; arg 2; whnf))); (· rfl); (· (simp only [AObj.cells, Int.toNat_natCast, Nat.mul_one, Nat.zero_add]; assumption))))) | (first | refine runk_off rfl rfl rfl rfl rfl ?_ | refine runk_off rfl rfl rfl (by assumption) rfl ?_ | refine runk_offN rfl rfl rfl rfl rfl ?_ | refine runk_offU rfl rfl rfl rfl ?_ | refine runk_offUN rfl rfl rfl rfl ?_) | (apply runk0 rfl rfl (opok_move rfl ?_) ?_; rotate_left 1; (· (conv => (lhs; whnf)))) | (apply runk0 rfl rfl (opok_assign rfl ?_) ?_; rotate_left 1; (· (conv => (lhs; whnf)))) | (apply runk0 rfl rfl (opok_bin rfl ?_ ?_ ?_) ?_; rotate_left 3; (· (conv => (lhs; whnf))); (· (conv => (lhs; whnf))); (· (intro w; go_simp; first | done | rfl))) | (apply runk0 rfl rfl (opok_pick rfl ?_ ?_) ?_; rotate_left 2; (· (conv => (lhs; whnf))); (· first | exact pick_or | exact pick_and | (conv => (lhs; whnf)))) | refine runk_end (by kernel_rfl) ?_))
            refine ⟨n2 - 1, by omega, j + 1, k7c, by omega, ?_⟩
            rw [hY, eT]
            (refine leB_of ?_ ?_; (· (repeat (first | exact EnvIs.nil | (refine EnvIs.cons ?_ ?_; (· first | rfl | ((conv => (lhs; whnf)); first | (simp [ints]; done) | (simp [ints]; omega))))))); (· (repeat (first | exact ObjsAre.nil | (refine ObjsAre.cons ?_ ?_; (· first | rfl | ((conv => (lhs; whnf)); first | (simp [ints]; done) | (simp [ints]; omega))))))))
        · have hje : j = 8 := by simp at hc; omega
          subst hje
          clear hc
          refine awp_exit ?_
          obtain ⟨hl, hqb, hmm⟩ := hinv 8 (by omega)
          refine ⟨m, by omega, _, _, k7c, by omega, hl, hqb, by simp only at hmm; omega, hF2, ?_⟩
          (refine leB_of ?_ ?_; (· (repeat (first | exact EnvIs.nil | (refine EnvIs.cons ?_ ?_; (· first | rfl | ((conv => (lhs; whnf)); first | (simp [ints]; done) | (simp [ints]; omega))))))); (· (repeat (first | exact ObjsAre.nil | (refine ObjsAre.cons ?_ ?_; (· first | rfl | ((conv => (lhs; whnf)); first | (simp [ints]; done) | (simp [ints]; omega))))))))
end Go.Proofs.Ytlmgbfbcaokedaa
