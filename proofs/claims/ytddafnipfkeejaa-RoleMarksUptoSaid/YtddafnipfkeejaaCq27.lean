/-
  Copies of lists of structs, and of attributes, by states.
-/
import Derived.Test.YtddafnipfkeejaaCp27
namespace Go.Proofs.Ytddafnipfkeejaa
open Go.RowKit
/-- A row that is filled from the front. -/
def gz (L : List AVal) (z : AVal) (i : Nat) : List AVal := L.take i ++ List.replicate (L.length - i) z
theorem gz_len (L : List AVal) (z : AVal) {i : Nat} (hi : i ≤ L.length) : (gz L z i).length = L.length := by
  unfold gz
  rw [List.length_append, List.length_take, List.length_replicate]; omega
theorem gz_zero (L : List AVal) (z : AVal) : gz L z 0 = List.replicate L.length z := by simp [gz]
theorem gz_all (L : List AVal) (z : AVal) : gz L z L.length = L := by simp [gz]
theorem gz_set (L : List AVal) (z : AVal) {i : Nat} (hi : i < L.length) {x : AVal} (hx : L[i]? = some x) : (gz L z i).set i x = gz L z (i + 1) := by
  unfold gz
  rw [List.set_append_right _ _ (by rw [List.length_take]; omega), List.length_take, Nat.min_eq_left (by omega), Nat.sub_self]
  obtain ⟨m, hm⟩ : ∃ m, L.length - i = m + 1 := ⟨L.length - i - 1, by omega⟩
  rw [hm, List.replicate_succ, List.set_cons_zero, List.take_add_one, hx, show L.length - (i + 1) = m by omega]
  simp
theorem gz_widths {L : List AVal} {z : AVal} {sz : Nat} (h : widths sz L = true) (hz : z.flat.length = sz) (i : Nat) : widths sz (gz L z i) = true := by
  simp only [widths, List.all_eq_true] at h ⊢
  intro y hy
  unfold gz at hy
  rcases List.mem_append.1 hy with hy | hy
  · exact h y (List.mem_of_mem_take hy)
  · rw [(List.mem_replicate.1 hy).2, hz]; simp
@[simp] theorem widths_unks (l : List (Int × Int × List Int)) : widths 3 (l.map unkA) = true := by simp [widths, unkA, AVal.flat]
set_option maxHeartbeats 8000000 in
set_option maxRecDepth 100000 in
theorem eachS (xs : List (Bool × List Int)) (hl : xs.length ≤ 1000000) (hb : ∀ x ∈ xs, x.2.length ≤ 1000000000) : Spec Try.prog 50 [.ro (xs.map segA), .fn 51 []] [] (.ro (xs.map segA)) [] := by
  have hw : widths 2 (xs.map segA) = true := widths_segs xs
  have hat : ∀ i, i < xs.length → ∃ x ∈ xs, (xs.map segA)[i]? = some (segA x) := fun i hi => ⟨xs[i], List.getElem_mem hi, by rw [List.getElem?_map, List.getElem?_eq_getElem hi]; rfl⟩
  have hml : (xs.map segA).length = xs.length := List.length_map _
  have hmi : ((xs.map segA).length : Int) = (xs.length : Int) := by rw [hml]
  refine spec_of_awp Try.func50 rfl (Nat.le_of_ble_eq_true rfl) fun ini => ?_
  simp only [Try.ntmps50]
  cases q : ((xs.length : Int) == 0) with
  | true =>
    have hx : xs = [] := by
      have : (xs.length : Int) = 0 := by simpa using q
      exact List.eq_nil_of_length_eq_zero (by omega)
    subst hx
    (repeat (first | refine awp_reg_seq rfl fun k => ?_ | refine awp_seq ?_ | refine awp_true rfl ?_ | (refine awp_ret ?_; (apply ends_weak ?_ ?_ ?_ ?_ ?_ (.inl rfl); rotate_left 1; (· first | exact res_one rfl rfl | exact res_two rfl rfl rfl | exact res_none rfl | exact res_three rfl rfl rfl rfl | exact res_cell rfl rfl rfl rfl rfl | exact res_cell2 rfl rfl rfl rfl rfl rfl | exact res3 rfl (rv_cell rfl rfl rfl rfl) (rv_tmp rfl) (rv_tmp rfl) | exact res3 rfl (rv_cell rfl rfl rfl rfl) (rv_cell rfl rfl rfl rfl) (rv_cell rfl rfl rfl rfl)); (· first | exact .one (.one (.same _)) | (refine .tuple ?_; (repeat (first | exact WeakAs.nil | (refine WeakAs.cons ?_ ?_; (· first | exact .one (.same _) | exact .one .nil | (refine .agg ?_; (repeat (first | exact Weaks.nil | (refine Weaks.cons ?_ ?_; (· first | exact Weak.same _ | exact Weak.nil | exact Weak.any _))))) | exact .one (.any _)))))) | (refine .one ?_; first | exact .one (.same _) | exact .one .nil | (refine .agg ?_; (repeat (first | exact Weaks.nil | (refine Weaks.cons ?_ ?_; (· first | exact Weak.same _ | exact Weak.nil | exact Weak.any _))))) | exact .one (.any _))); (· first | rfl | (simp; done) | (simp [AVal.pure, AVal.pures, AObj.pure]; done)); (· rfl); (· rfl))) | (apply runk0 rfl rfl (opok_move rfl ?_) ?_; rotate_left 1; (· (conv => (lhs; whnf)))) | (apply runk0 rfl rfl (opok_assign rfl ?_) ?_; rotate_left 1; (· (conv => (lhs; whnf)))) | (apply runk0 rfl rfl (opok_bin rfl ?_ ?_ ?_) ?_; rotate_left 3; (· (conv => (lhs; whnf))); (· (conv => (lhs; whnf))); (· (intro w; go_simp; first | done | rfl))) | (first | (apply runk0 rfl rfl (opok_lenO rfl ?_ ?_ ?_) ?_; rotate_left 5; (· (conv => (lhs; whnf))); (· (conv => (lhs; whnf; arg 1; whnf))); (· first | exact length_ints _ _ | rfl)) | (apply runk0 rfl rfl (opok_len_own rfl ?_ ?_) ?_; rotate_left 4; (· (conv => (lhs; whnf))); (· (conv => (lhs; whnf; arg 1; whnf)))) | (apply runk0 rfl rfl (opok_len rfl ?_ ?_ ?_) ?_; rotate_left 3; (· (conv => (lhs; whnf))); (· (conv => (lhs; whnf; arg 1; whnf))); (· first | exact length_ints _ _ | rfl))) | refine runk_end (by kernel_rfl) ?_))
  | false =>
    have h0 : 0 < xs.length := by
      have : ¬ (xs.length : Int) = 0 := by simpa using q
      omega
    have q2 : decide (xs.length = 0) = false := decide_eq_false (by omega)
    have q3 : (xs.length == 0) = false := by rw [beq_eq_false_iff_ne]; omega
    have q4 : ¬ xs = [] := fun e => by rw [e] at h0; simp at h0
    (repeat (first | refine awp_reg_seq rfl fun k => ?_ | refine awp_seq ?_ | refine awp_false rfl ?_ | refine awp_skip (?_ : Awp _ _ _ _ _ _) | (apply runk0 rfl rfl (opok_move rfl ?_) ?_; rotate_left 1; (· (conv => (lhs; whnf)))) | (apply runk0 rfl rfl (opok_assign rfl ?_) ?_; rotate_left 1; (· (conv => (lhs; whnf)))) | (apply runk0 rfl rfl (opok_bin rfl ?_ ?_ ?_) ?_; rotate_left 3; (· (conv => (lhs; whnf))); (· (conv => (lhs; whnf))); (· (intro w; go_simp; first | done | rfl))) | (first | (apply runk0 rfl rfl (opok_lenO rfl ?_ ?_ ?_) ?_; rotate_left 5; (· (conv => (lhs; whnf))); (· (conv => (lhs; whnf; arg 1; whnf))); (· first | exact length_ints _ _ | rfl)) | (apply runk0 rfl rfl (opok_len_own rfl ?_ ?_) ?_; rotate_left 4; (· (conv => (lhs; whnf))); (· (conv => (lhs; whnf; arg 1; whnf)))) | (apply runk0 rfl rfl (opok_len rfl ?_ ?_ ?_) ?_; rotate_left 3; (· (conv => (lhs; whnf))); (· (conv => (lhs; whnf; arg 1; whnf))); (· first | exact length_ints _ _ | rfl))) | refine runk_end (by kernel_rfl) ?_))
    rw [hmi]
    refine runk_makeS (e := 66) (z := .agg #[.bool false, .slice none 0 0]) (zv := .agg [.val (.bool false), .val (.slice none 0 0)]) (cs := [.bool false, .slice none 0 0]) (bytes := 32) (sz := 2) (m := (xs.length : Int)) rfl rfl rfl rfl rfl (by kernel_rfl) (by kernel_rfl) rfl rfl (by decide) (by decide) rfl (by decide) (by omega) (by omega) ?_
    (repeat (first | (apply runk_assignOwn rfl rfl rfl ?_ ?_ ?_; rotate_left 4; (· (conv => (lhs; whnf))); (· (conv => (lhs; whnf; arg 1; whnf)))) | refine runk_end (by kernel_rfl) ?_))
    (repeat (first | refine awp_reg_seq rfl fun k => ?_ | refine awp_seq ?_ | refine awp_block ?_ | (apply runk0 rfl rfl (opok_move rfl ?_) ?_; rotate_left 1; (· (conv => (lhs; whnf)))) | (first | (apply runk0 rfl rfl (opok_lenO rfl ?_ ?_ ?_) ?_; rotate_left 5; (· (conv => (lhs; whnf))); (· (conv => (lhs; whnf; arg 1; whnf))); (· first | exact length_ints _ _ | rfl)) | (apply runk0 rfl rfl (opok_len_own rfl ?_ ?_) ?_; rotate_left 4; (· (conv => (lhs; whnf))); (· (conv => (lhs; whnf; arg 1; whnf)))) | (apply runk0 rfl rfl (opok_len rfl ?_ ?_ ?_) ?_; rotate_left 3; (· (conv => (lhs; whnf))); (· (conv => (lhs; whnf; arg 1; whnf))); (· first | exact length_ints _ _ | rfl))) | refine runk_end (by kernel_rfl) ?_))
    rename_i k5
    refine awp_less (st' := ⟨[(5, .own 5 k5 (gz (xs.map segA) (.agg [.val (.bool false), .val (.slice none 0 0)]) 0).length), (1, .fn 51 []), (14, .ro (xs.map segA)), (15, .val (.int .i64 (xs.length : Int))), (16, .val (.int .i64 0))], [(5, some (k5, .row 66 2 (gz (xs.map segA) (.agg [.val (.bool false), .val (.slice none 0 0)]) 0)))]⟩) ?_ ?_
    · rw [gz_zero]
      (refine leB_of ?_ ?_; (· (repeat (first | exact EnvIs.nil | (refine EnvIs.cons ?_ ?_; (· first | rfl | ((conv => (lhs; whnf)); first | (simp [hml, Int.toNat_natCast]; done) | (simp [hml, Int.toNat_natCast]; omega))))))); (· (repeat (first | exact ObjsAre.nil | (refine ObjsAre.cons ?_ ?_; (· first | rfl | ((conv => (lhs; whnf)); first | (simp [hml, Int.toNat_natCast]; done) | (simp [hml, Int.toNat_natCast]; omega))))))))
    clear q q2 q3 q4 hmi
    refine awp_loop (fun n st => ∃ (i k5 : Nat), i + n = xs.length ∧ st.leB ⟨[(5, .own 5 k5 (gz (xs.map segA) (.agg [.val (.bool false), .val (.slice none 0 0)]) i).length), (1, .fn 51 []), (14, .ro (xs.map segA)), (15, .val (.int .i64 (xs.length : Int))), (16, .val (.int .i64 (i : Int)))], [(5, some (k5, .row 66 2 (gz (xs.map segA) (.agg [.val (.bool false), .val (.slice none 0 0)]) i)))]⟩) xs.length ⟨0, k5, by omega, ?_⟩ ?_
    · (refine leB_of ?_ ?_; (· (repeat (first | exact EnvIs.nil | (refine EnvIs.cons ?_ ?_; (· first | rfl | ((conv => (lhs; whnf)); first | (simp [ints]; done) | (simp [ints]; omega))))))); (· (repeat (first | exact ObjsAre.nil | (refine ObjsAre.cons ?_ ?_; (· first | rfl | ((conv => (lhs; whnf)); first | (simp [ints]; done) | (simp [ints]; omega))))))))
    · rintro n st ⟨i, k5, hi, hle⟩
      refine awp_less hle ?_
      clear hle st
      (repeat (first | refine awp_reg_seq rfl fun k => ?_ | refine awp_seq ?_ | (apply runk0 rfl rfl (opok_bin rfl ?_ ?_ ?_) ?_; rotate_left 3; (· (conv => (lhs; whnf))); (· (conv => (lhs; whnf))); (· (intro w; go_simp; first | done | rfl))) | refine runk_end (by kernel_rfl) ?_))
      refine awp_if rfl (fun hc => ?_) (fun hc => ?_)
      · have hlt : i < xs.length := by simpa using hc
        clear hc
        have wi : IntKind.i64.wrap ((i : Int) + 1) = ((i + 1 : Nat) : Int) := by rw [IntKind.wrap_i64]; omega
        obtain ⟨x, hx, hxi⟩ := hat i hlt
        have sx := csegment x (hb x hx)
        have gl : (gz (xs.map segA) (.agg [.val (.bool false), .val (.slice none 0 0)]) i).length = xs.length := by rw [gz_len _ _ (by omega), hml]
        have gw := gz_widths hw (show (AVal.flat (.agg [.val (.bool false), .val (.slice none 0 0)])).length = 2 from rfl) i
        have gs := gz_set (xs.map segA) (.agg [.val (.bool false), .val (.slice none 0 0)]) (i := i) (by omega) hxi
        have hxA : segA x = .agg [.val (.bool x.1), .ro (ints .i64 x.2)] := rfl
        rw [hxA] at sx hxi gs
        clear hxA
        clear hat hb hw
        generalize hY : gz (xs.map segA) (.agg [.val (.bool false), .val (.slice none 0 0)]) (i + 1) = Y at *
        generalize gz (xs.map segA) (.agg [.val (.bool false), .val (.slice none 0 0)]) i = X at *
        (repeat (first | refine awp_reg_seq rfl fun k => ?_ | refine awp_seq ?_ | refine awp_skip (?_ : Awp _ _ _ _ _ _) | refine awp_block ?_ | (apply runk0 rfl rfl (opok_move rfl ?_) ?_; rotate_left 1; (· (conv => (lhs; whnf))))))
        (apply runk0 rfl rfl (opok_index_ro rfl ?_ ?_ ?_ ?_ ?_ ?_ ?_) ?_; rotate_left 6; (· (conv => (lhs; whnf))); (· (conv => (lhs; whnf))); (· (conv => (lhs; whnf; arg 1; whnf))); (· (unfold sizeIs; conv => (lhs; whnf; arg 1; whnf))); (· simp); (· first | omega | (simp; done) | (simp; omega)); (· simp only [Int.toNat_natCast]; exact hxi))
        (repeat (first | refine awp_reg rfl fun k => ?_ | (apply runk_pure rfl rfl rfl ?_ ?_ ?_ ?_ ?_ ?_ ?_ ?_; rotate_left 6; (· (conv => (lhs; whnf))); (· exact Try.func51); (· rfl); (· rfl); (· exact (sx)); (· (repeat (first | exact Rens.nil | (refine Rens.cons ?_ ?_; (· first | exact Ren.own _ _ _ _ _ _ rfl List.mem_cons_self | exact Ren.own _ _ _ _ _ _ rfl (List.mem_cons_of_mem _ List.mem_cons_self) | (refine (Ren.own _ _ _ _ _ _ ?_ List.mem_cons_self); first | rfl | (simp; done)) | (refine (Ren.own _ _ _ _ _ _ ?_ (List.mem_cons_of_mem _ List.mem_cons_self)); first | rfl | (simp; done)) | exact Ren.ptr _ _ _ _ _ List.mem_cons_self | (refine Ren.pureR ?_ rfl; (first | rfl | (simp; done) | (simp [AVal.pure, AVal.pures, AObj.pure]; done)))))))); (· first | rfl | (simp; done) | simp [AVal.pure, AVal.pures, AObj.pure])) | (apply runk0 rfl rfl (opok_move rfl ?_) ?_; rotate_left 1; (· (conv => (lhs; whnf)))) | (apply runk0 rfl rfl (opok_assign rfl ?_) ?_; rotate_left 1; (· (conv => (lhs; whnf)))) | (apply runk0 rfl rfl (opok_loadA rfl ?_ ?_ ?_ ?_ ?_ ?_) ?_; rotate_left 6; (· (conv => (lhs; whnf))); (· (conv => (lhs; whnf; arg 1; whnf; arg 2; whnf))); (· rfl); (· (unfold sizeIs; conv => (lhs; whnf; arg 1; whnf))); (· (conv => (lhs; repeat (whnf; arg 2)))); (· rfl)) | (apply runk0 rfl rfl (opok_index_own rfl ?_ ?_ ?_ ?_ ?_ ?_ ?_ ?_) ?_; rotate_left 10; (· (conv => (lhs; whnf))); (· (conv => (lhs; whnf; arg 1; whnf; arg 2; whnf))); (· (conv => (lhs; whnf))); (· (conv => (lhs; whnf; arg 1; whnf))); (· (unfold sizeIs; conv => (lhs; whnf; arg 1; whnf))); (· first | omega | (simp; done) | (simp; omega)); (· first | omega | (simp; done) | (simp; omega)); (· first | rfl | (simp; done) | (simp; omega))) | (apply runk_alloc rfl rfl rfl ?_ ?_ ?_; rotate_left 2; (· (conv => (lhs; whnf; arg 1; whnf))); (· (conv => (lhs; whnf)))) | (apply runk_store rfl rfl rfl ?_ ?_ ?_ ?_ ?_ ?_ ?_ ?_ ?_ ?_ ?_; rotate_left 9; (· (conv => (lhs; whnf))); (· (conv => (lhs; whnf))); (· (conv => (lhs; whnf; arg 1; whnf; arg 2; whnf))); (· rfl); (· (conv => (lhs; whnf))); (· rfl); (· (unfold sizeIs; conv => (lhs; whnf; arg 1; whnf))); (· rfl); (· rfl); (· (conv => (lhs; repeat (whnf; arg 2))))) | refine runk_end (by kernel_rfl) ?_ | (apply runk0 rfl rfl (opok_loadRA2 rfl ?_ ?_ ?_ ?_) ?_; rotate_left 2; (· (conv => (lhs; whnf))); (· rfl); (· (unfold sizeIs; conv => (lhs; whnf; arg 1; whnf))); (· rfl))))
        refine runk_setS (v := .agg [.val (.bool x.1), .ro (ints .i64 x.2)]) (n := 5) (kk := k5) (sz := 2) (m := i) rfl rfl rfl rfl rfl rfl rfl rfl rfl (by unfold sizeIs; kernel_rfl) (by decide) (by simp) gw (by omega) ?_
        rw [gs]
        (repeat (first | refine runk_end (by kernel_rfl) ?_))
        refine (?_ : Awp _ _ _ _ _ _)
        (repeat (first | refine awp_reg rfl fun k => ?_ | (apply runk0 rfl rfl (opok_move rfl ?_) ?_; rotate_left 1; (· (conv => (lhs; whnf)))) | (apply runk0 rfl rfl (opok_bin rfl ?_ ?_ ?_) ?_; rotate_left 3; (· (conv => (lhs; whnf))); (· (conv => (lhs; whnf))); (· (intro w; go_simp; first | done | rfl))) | refine runk_end (by kernel_rfl) ?_))
        refine ⟨n - 1, by omega, i + 1, k5, by omega, ?_⟩
        have hYl : Y.length = X.length := by rw [← gs, List.length_set]
        rw [hY]
        (refine leB_of ?_ ?_; (· (repeat (first | exact EnvIs.nil | (refine EnvIs.cons ?_ ?_; (· first | rfl | ((conv => (lhs; whnf)); first | (simp [hYl]; done) | (simp [hYl]; omega))))))); (· (repeat (first | exact ObjsAre.nil | (refine ObjsAre.cons ?_ ?_; (· first | rfl | ((conv => (lhs; whnf)); first | (simp [hYl]; done) | (simp [hYl]; omega))))))))
      · have hie : i = xs.length := by simp at hc; omega
        subst hie
        clear hc hat hb
        rw [← hml, gz_all]
        refine awp_exit (?_ : Awp _ _ _ _ _ _)
        refine awp_less (st' := ⟨[(5, .own 5 k5 (xs.map segA).length)], [(5, some (k5, .row 66 2 (xs.map segA)))]⟩) ?_ ?_
        · (refine leB_of ?_ ?_; (· (repeat (first | exact EnvIs.nil | (refine EnvIs.cons ?_ ?_; (· first | rfl | ((conv => (lhs; whnf)); first | (simp [ints]; done) | (simp [ints]; omega))))))); (· (repeat (first | exact ObjsAre.nil | (refine ObjsAre.cons ?_ ?_; (· first | rfl | ((conv => (lhs; whnf)); first | (simp [ints]; done) | (simp [ints]; omega))))))))
        (refine awp_frz 5 k5 ((xs.map segA)) ([(5, .ro (xs.map segA))]) ([]) rfl ?_ ?_ ?_; (· (repeat (first | exact EnvFrz.nil | (refine EnvFrz.cons rfl ?_ ?_; (· first | exact .one (.same _) | (refine .one (.own _ ?_); first | rfl | (simp; done) | (simp only [length_ints]; omega)) | (refine .agg ?_; (repeat (first | exact Frzs.nil | (refine Frzs.cons ?_ ?_; (· first | exact Frz1.same _ | (refine Frz1.own _ ?_; first | rfl | (simp; done) | (simp only [length_ints]; omega)) | exact Frz1.any _))))) | (refine .tuple ?_; (repeat (first | exact Frzs.nil | (refine Frzs.cons ?_ ?_; (· first | exact Frz1.same _ | (refine Frz1.own _ ?_; first | rfl | (simp; done) | (simp only [length_ints]; omega)) | exact Frz1.any _)))))))))); (· (repeat (first | exact ObjsFrz.nil | (refine ObjsFrz.cons rfl rfl ?_ ?_; (· first | exact .same _ | (refine .box ?_; (repeat (first | exact Frzs.nil | (refine Frzs.cons ?_ ?_; (· first | exact Frz1.same _ | (refine Frz1.own _ ?_; first | rfl | (simp; done) | (simp only [length_ints]; omega)) | exact Frz1.any _))))) | (refine .row ?_ rfl; (repeat (first | exact Frzs.nil | (refine Frzs.cons ?_ ?_; (· first | exact Frz1.same _ | (refine Frz1.own _ ?_; first | rfl | (simp; done) | (simp only [length_ints]; omega)) | exact Frz1.any _)))))))))))
        (repeat (first | refine awp_reg_seq rfl fun k => ?_ | (refine awp_ret ?_; (apply ends_pure ?_ ?_ ?_ ?_ ?_ (.inl rfl); rotate_left 1; (· first | exact res_one rfl rfl | exact res_two rfl rfl rfl | exact res_none rfl | exact res_three rfl rfl rfl rfl | exact res_cell rfl rfl rfl rfl rfl | exact res_cell2 rfl rfl rfl rfl rfl rfl | exact res3 rfl (rv_cell rfl rfl rfl rfl) (rv_tmp rfl) (rv_tmp rfl) | exact res3 rfl (rv_cell rfl rfl rfl rfl) (rv_cell rfl rfl rfl rfl) (rv_cell rfl rfl rfl rfl)); (· first | rfl | ((conv => (lhs; whnf)); first | rfl | (simp; done))); (· first | rfl | (simp; done) | (simp [AVal.pure, AVal.pures, AObj.pure]; done)); (· rfl); (· rfl))) | (apply runk0 rfl rfl (opok_move rfl ?_) ?_; rotate_left 1; (· (conv => (lhs; whnf)))) | (apply runk0 rfl rfl (opok_assign rfl ?_) ?_; rotate_left 1; (· (conv => (lhs; whnf)))) | refine runk_end (by kernel_rfl) ?_))
set_option maxHeartbeats 8000000 in
set_option maxRecDepth 100000 in
theorem eachU (xs : List (Int × Int × List Int)) (hl : xs.length ≤ 1000000) (hb : ∀ x ∈ xs, x.2.2.length ≤ 1000000000) : Spec Try.prog 54 [.ro (xs.map unkA), .fn 55 []] [] (.ro (xs.map unkA)) [] := by
  have hw : widths 3 (xs.map unkA) = true := widths_unks xs
  have hat : ∀ i, i < xs.length → ∃ x ∈ xs, (xs.map unkA)[i]? = some (unkA x) := fun i hi => ⟨xs[i], List.getElem_mem hi, by rw [List.getElem?_map, List.getElem?_eq_getElem hi]; rfl⟩
  have hml : (xs.map unkA).length = xs.length := List.length_map _
  have hmi : ((xs.map unkA).length : Int) = (xs.length : Int) := by rw [hml]
  refine spec_of_awp Try.func54 rfl (Nat.le_of_ble_eq_true rfl) fun ini => ?_
  simp only [Try.ntmps54]
  cases q : ((xs.length : Int) == 0) with
  | true =>
    have hx : xs = [] := by
      have : (xs.length : Int) = 0 := by simpa using q
      exact List.eq_nil_of_length_eq_zero (by omega)
    subst hx
    (repeat (first | refine awp_reg_seq rfl fun k => ?_ | refine awp_seq ?_ | refine awp_true rfl ?_ | (refine awp_ret ?_; (apply ends_weak ?_ ?_ ?_ ?_ ?_ (.inl rfl); rotate_left 1; (· first | exact res_one rfl rfl | exact res_two rfl rfl rfl | exact res_none rfl | exact res_three rfl rfl rfl rfl | exact res_cell rfl rfl rfl rfl rfl | exact res_cell2 rfl rfl rfl rfl rfl rfl | exact res3 rfl (rv_cell rfl rfl rfl rfl) (rv_tmp rfl) (rv_tmp rfl) | exact res3 rfl (rv_cell rfl rfl rfl rfl) (rv_cell rfl rfl rfl rfl) (rv_cell rfl rfl rfl rfl)); (· first | exact .one (.one (.same _)) | (refine .tuple ?_; (repeat (first | exact WeakAs.nil | (refine WeakAs.cons ?_ ?_; (· first | exact .one (.same _) | exact .one .nil | (refine .agg ?_; (repeat (first | exact Weaks.nil | (refine Weaks.cons ?_ ?_; (· first | exact Weak.same _ | exact Weak.nil | exact Weak.any _))))) | exact .one (.any _)))))) | (refine .one ?_; first | exact .one (.same _) | exact .one .nil | (refine .agg ?_; (repeat (first | exact Weaks.nil | (refine Weaks.cons ?_ ?_; (· first | exact Weak.same _ | exact Weak.nil | exact Weak.any _))))) | exact .one (.any _))); (· first | rfl | (simp; done) | (simp [AVal.pure, AVal.pures, AObj.pure]; done)); (· rfl); (· rfl))) | (apply runk0 rfl rfl (opok_move rfl ?_) ?_; rotate_left 1; (· (conv => (lhs; whnf)))) | (apply runk0 rfl rfl (opok_assign rfl ?_) ?_; rotate_left 1; (· (conv => (lhs; whnf)))) | (apply runk0 rfl rfl (opok_bin rfl ?_ ?_ ?_) ?_; rotate_left 3; (· (conv => (lhs; whnf))); (· (conv => (lhs; whnf))); (· (intro w; go_simp; first | done | rfl))) | (first | (apply runk0 rfl rfl (opok_lenO rfl ?_ ?_ ?_) ?_; rotate_left 5; (· (conv => (lhs; whnf))); (· (conv => (lhs; whnf; arg 1; whnf))); (· first | exact length_ints _ _ | rfl)) | (apply runk0 rfl rfl (opok_len_own rfl ?_ ?_) ?_; rotate_left 4; (· (conv => (lhs; whnf))); (· (conv => (lhs; whnf; arg 1; whnf)))) | (apply runk0 rfl rfl (opok_len rfl ?_ ?_ ?_) ?_; rotate_left 3; (· (conv => (lhs; whnf))); (· (conv => (lhs; whnf; arg 1; whnf))); (· first | exact length_ints _ _ | rfl))) | refine runk_end (by kernel_rfl) ?_))
  | false =>
    have h0 : 0 < xs.length := by
      have : ¬ (xs.length : Int) = 0 := by simpa using q
      omega
    have q2 : decide (xs.length = 0) = false := decide_eq_false (by omega)
    have q3 : (xs.length == 0) = false := by rw [beq_eq_false_iff_ne]; omega
    have q4 : ¬ xs = [] := fun e => by rw [e] at h0; simp at h0
    (repeat (first | refine awp_reg_seq rfl fun k => ?_ | refine awp_seq ?_ | refine awp_false rfl ?_ | refine awp_skip (?_ : Awp _ _ _ _ _ _) | (apply runk0 rfl rfl (opok_move rfl ?_) ?_; rotate_left 1; (· (conv => (lhs; whnf)))) | (apply runk0 rfl rfl (opok_assign rfl ?_) ?_; rotate_left 1; (· (conv => (lhs; whnf)))) | (apply runk0 rfl rfl (opok_bin rfl ?_ ?_ ?_) ?_; rotate_left 3; (· (conv => (lhs; whnf))); (· (conv => (lhs; whnf))); (· (intro w; go_simp; first | done | rfl))) | (first | (apply runk0 rfl rfl (opok_lenO rfl ?_ ?_ ?_) ?_; rotate_left 5; (· (conv => (lhs; whnf))); (· (conv => (lhs; whnf; arg 1; whnf))); (· first | exact length_ints _ _ | rfl)) | (apply runk0 rfl rfl (opok_len_own rfl ?_ ?_) ?_; rotate_left 4; (· (conv => (lhs; whnf))); (· (conv => (lhs; whnf; arg 1; whnf)))) | (apply runk0 rfl rfl (opok_len rfl ?_ ?_ ?_) ?_; rotate_left 3; (· (conv => (lhs; whnf))); (· (conv => (lhs; whnf; arg 1; whnf))); (· first | exact length_ints _ _ | rfl))) | refine runk_end (by kernel_rfl) ?_))
    rw [hmi]
    refine runk_makeS (e := 69) (z := .agg #[.int .i64 0, .int .i64 0, .slice none 0 0]) (zv := .agg [.val (.int .i64 0), .val (.int .i64 0), .val (.slice none 0 0)]) (cs := [.int .i64 0, .int .i64 0, .slice none 0 0]) (bytes := 40) (sz := 3) (m := (xs.length : Int)) rfl rfl rfl rfl rfl (by kernel_rfl) (by kernel_rfl) rfl rfl (by decide) (by decide) rfl (by decide) (by omega) (by omega) ?_
    (repeat (first | (apply runk_assignOwn rfl rfl rfl ?_ ?_ ?_; rotate_left 4; (· (conv => (lhs; whnf))); (· (conv => (lhs; whnf; arg 1; whnf)))) | refine runk_end (by kernel_rfl) ?_))
    (repeat (first | refine awp_reg_seq rfl fun k => ?_ | refine awp_seq ?_ | refine awp_block ?_ | (apply runk0 rfl rfl (opok_move rfl ?_) ?_; rotate_left 1; (· (conv => (lhs; whnf)))) | (first | (apply runk0 rfl rfl (opok_lenO rfl ?_ ?_ ?_) ?_; rotate_left 5; (· (conv => (lhs; whnf))); (· (conv => (lhs; whnf; arg 1; whnf))); (· first | exact length_ints _ _ | rfl)) | (apply runk0 rfl rfl (opok_len_own rfl ?_ ?_) ?_; rotate_left 4; (· (conv => (lhs; whnf))); (· (conv => (lhs; whnf; arg 1; whnf)))) | (apply runk0 rfl rfl (opok_len rfl ?_ ?_ ?_) ?_; rotate_left 3; (· (conv => (lhs; whnf))); (· (conv => (lhs; whnf; arg 1; whnf))); (· first | exact length_ints _ _ | rfl))) | refine runk_end (by kernel_rfl) ?_))
    rename_i k5
    refine awp_less (st' := ⟨[(5, .own 5 k5 (gz (xs.map unkA) (.agg [.val (.int .i64 0), .val (.int .i64 0), .val (.slice none 0 0)]) 0).length), (1, .fn 55 []), (14, .ro (xs.map unkA)), (15, .val (.int .i64 (xs.length : Int))), (16, .val (.int .i64 0))], [(5, some (k5, .row 69 3 (gz (xs.map unkA) (.agg [.val (.int .i64 0), .val (.int .i64 0), .val (.slice none 0 0)]) 0)))]⟩) ?_ ?_
    · rw [gz_zero]
      (refine leB_of ?_ ?_; (· (repeat (first | exact EnvIs.nil | (refine EnvIs.cons ?_ ?_; (· first | rfl | ((conv => (lhs; whnf)); first | (simp [hml, Int.toNat_natCast]; done) | (simp [hml, Int.toNat_natCast]; omega))))))); (· (repeat (first | exact ObjsAre.nil | (refine ObjsAre.cons ?_ ?_; (· first | rfl | ((conv => (lhs; whnf)); first | (simp [hml, Int.toNat_natCast]; done) | (simp [hml, Int.toNat_natCast]; omega))))))))
    clear q q2 q3 q4 hmi
    refine awp_loop (fun n st => ∃ (i k5 : Nat), i + n = xs.length ∧ st.leB ⟨[(5, .own 5 k5 (gz (xs.map unkA) (.agg [.val (.int .i64 0), .val (.int .i64 0), .val (.slice none 0 0)]) i).length), (1, .fn 55 []), (14, .ro (xs.map unkA)), (15, .val (.int .i64 (xs.length : Int))), (16, .val (.int .i64 (i : Int)))], [(5, some (k5, .row 69 3 (gz (xs.map unkA) (.agg [.val (.int .i64 0), .val (.int .i64 0), .val (.slice none 0 0)]) i)))]⟩) xs.length ⟨0, k5, by omega, ?_⟩ ?_
    · (refine leB_of ?_ ?_; (· (repeat (first | exact EnvIs.nil | (refine EnvIs.cons ?_ ?_; (· first | rfl | ((conv => (lhs; whnf)); first | (simp [ints]; done) | (simp [ints]; omega))))))); (· (repeat (first | exact ObjsAre.nil | (refine ObjsAre.cons ?_ ?_; (· first | rfl | ((conv => (lhs; whnf)); first | (simp [ints]; done) | (simp [ints]; omega))))))))
    · rintro n st ⟨i, k5, hi, hle⟩
      refine awp_less hle ?_
      clear hle st
      (repeat (first | refine awp_reg_seq rfl fun k => ?_ | refine awp_seq ?_ | (apply runk0 rfl rfl (opok_bin rfl ?_ ?_ ?_) ?_; rotate_left 3; (· (conv => (lhs; whnf))); (· (conv => (lhs; whnf))); (· (intro w; go_simp; first | done | rfl))) | refine runk_end (by kernel_rfl) ?_))
      refine awp_if rfl (fun hc => ?_) (fun hc => ?_)
      · have hlt : i < xs.length := by simpa using hc
        clear hc
        have wi : IntKind.i64.wrap ((i : Int) + 1) = ((i + 1 : Nat) : Int) := by rw [IntKind.wrap_i64]; omega
        obtain ⟨x, hx, hxi⟩ := hat i hlt
        have sx := cunknown x (hb x hx)
        have gl : (gz (xs.map unkA) (.agg [.val (.int .i64 0), .val (.int .i64 0), .val (.slice none 0 0)]) i).length = xs.length := by rw [gz_len _ _ (by omega), hml]
        have gw := gz_widths hw (show (AVal.flat (.agg [.val (.int .i64 0), .val (.int .i64 0), .val (.slice none 0 0)])).length = 3 from rfl) i
        have gs := gz_set (xs.map unkA) (.agg [.val (.int .i64 0), .val (.int .i64 0), .val (.slice none 0 0)]) (i := i) (by omega) hxi
        have hxA : unkA x = .agg [.val (.int .i64 x.1), .val (.int .i64 x.2.1), .ro (ints .u8 x.2.2)] := rfl
        rw [hxA] at sx hxi gs
        clear hxA
        clear hat hb hw
        generalize hY : gz (xs.map unkA) (.agg [.val (.int .i64 0), .val (.int .i64 0), .val (.slice none 0 0)]) (i + 1) = Y at *
        generalize gz (xs.map unkA) (.agg [.val (.int .i64 0), .val (.int .i64 0), .val (.slice none 0 0)]) i = X at *
        (repeat (first | refine awp_reg_seq rfl fun k => ?_ | refine awp_seq ?_ | refine awp_skip (?_ : Awp _ _ _ _ _ _) | refine awp_block ?_ | (apply runk0 rfl rfl (opok_move rfl ?_) ?_; rotate_left 1; (· (conv => (lhs; whnf))))))
        (apply runk0 rfl rfl (opok_index_ro rfl ?_ ?_ ?_ ?_ ?_ ?_ ?_) ?_; rotate_left 6; (· (conv => (lhs; whnf))); (· (conv => (lhs; whnf))); (· (conv => (lhs; whnf; arg 1; whnf))); (· (unfold sizeIs; conv => (lhs; whnf; arg 1; whnf))); (· simp); (· first | omega | (simp; done) | (simp; omega)); (· simp only [Int.toNat_natCast]; exact hxi))
        (repeat (first | refine awp_reg rfl fun k => ?_ | (apply runk_pure rfl rfl rfl ?_ ?_ ?_ ?_ ?_ ?_ ?_ ?_; rotate_left 6; (· (conv => (lhs; whnf))); (· exact Try.func55); (· rfl); (· rfl); (· exact (sx)); (· (repeat (first | exact Rens.nil | (refine Rens.cons ?_ ?_; (· first | exact Ren.own _ _ _ _ _ _ rfl List.mem_cons_self | exact Ren.own _ _ _ _ _ _ rfl (List.mem_cons_of_mem _ List.mem_cons_self) | (refine (Ren.own _ _ _ _ _ _ ?_ List.mem_cons_self); first | rfl | (simp; done)) | (refine (Ren.own _ _ _ _ _ _ ?_ (List.mem_cons_of_mem _ List.mem_cons_self)); first | rfl | (simp; done)) | exact Ren.ptr _ _ _ _ _ List.mem_cons_self | (refine Ren.pureR ?_ rfl; (first | rfl | (simp; done) | (simp [AVal.pure, AVal.pures, AObj.pure]; done)))))))); (· first | rfl | (simp; done) | simp [AVal.pure, AVal.pures, AObj.pure])) | (apply runk0 rfl rfl (opok_move rfl ?_) ?_; rotate_left 1; (· (conv => (lhs; whnf)))) | (apply runk0 rfl rfl (opok_assign rfl ?_) ?_; rotate_left 1; (· (conv => (lhs; whnf)))) | (apply runk0 rfl rfl (opok_loadA rfl ?_ ?_ ?_ ?_ ?_ ?_) ?_; rotate_left 6; (· (conv => (lhs; whnf))); (· (conv => (lhs; whnf; arg 1; whnf; arg 2; whnf))); (· rfl); (· (unfold sizeIs; conv => (lhs; whnf; arg 1; whnf))); (· (conv => (lhs; repeat (whnf; arg 2)))); (· rfl)) | (apply runk0 rfl rfl (opok_index_own rfl ?_ ?_ ?_ ?_ ?_ ?_ ?_ ?_) ?_; rotate_left 10; (· (conv => (lhs; whnf))); (· (conv => (lhs; whnf; arg 1; whnf; arg 2; whnf))); (· (conv => (lhs; whnf))); (· (conv => (lhs; whnf; arg 1; whnf))); (· (unfold sizeIs; conv => (lhs; whnf; arg 1; whnf))); (· first | omega | (simp; done) | (simp; omega)); (· first | omega | (simp; done) | (simp; omega)); (· first | rfl | (simp; done) | (simp; omega))) | (apply runk_alloc rfl rfl rfl ?_ ?_ ?_; rotate_left 2; (· (conv => (lhs; whnf; arg 1; whnf))); (· (conv => (lhs; whnf)))) | (apply runk_store rfl rfl rfl ?_ ?_ ?_ ?_ ?_ ?_ ?_ ?_ ?_ ?_ ?_; rotate_left 9; (· (conv => (lhs; whnf))); (· (conv => (lhs; whnf))); (· (conv => (lhs; whnf; arg 1; whnf; arg 2; whnf))); (· rfl); (· (conv => (lhs; whnf))); (· rfl); (· (unfold sizeIs; conv => (lhs; whnf; arg 1; whnf))); (· rfl); (· rfl); (· (conv => (lhs; repeat (whnf; arg 2))))) | refine runk_end (by kernel_rfl) ?_ | (apply runk0 rfl rfl (opok_loadRA2 rfl ?_ ?_ ?_ ?_) ?_; rotate_left 2; (· (conv => (lhs; whnf))); (· rfl); (· (unfold sizeIs; conv => (lhs; whnf; arg 1; whnf))); (· rfl))))
        refine runk_setS (v := .agg [.val (.int .i64 x.1), .val (.int .i64 x.2.1), .ro (ints .u8 x.2.2)]) (n := 5) (kk := k5) (sz := 3) (m := i) rfl rfl rfl rfl rfl rfl rfl rfl rfl (by unfold sizeIs; kernel_rfl) (by decide) (by simp) gw (by omega) ?_
        rw [gs]
        (repeat (first | refine runk_end (by kernel_rfl) ?_))
        refine (?_ : Awp _ _ _ _ _ _)
        (repeat (first | refine awp_reg rfl fun k => ?_ | (apply runk0 rfl rfl (opok_move rfl ?_) ?_; rotate_left 1; (· (conv => (lhs; whnf)))) | (apply runk0 rfl rfl (opok_bin rfl ?_ ?_ ?_) ?_; rotate_left 3; (· (conv => (lhs; whnf))); (· (conv => (lhs; whnf))); (· (intro w; go_simp; first | done | rfl))) | refine runk_end (by kernel_rfl) ?_))
        refine ⟨n - 1, by omega, i + 1, k5, by omega, ?_⟩
        have hYl : Y.length = X.length := by rw [← gs, List.length_set]
        rw [hY]
        (refine leB_of ?_ ?_; (· (repeat (first | exact EnvIs.nil | (refine EnvIs.cons ?_ ?_; (· first | rfl | ((conv => (lhs; whnf)); first | (simp [hYl]; done) | (simp [hYl]; omega))))))); (· (repeat (first | exact ObjsAre.nil | (refine ObjsAre.cons ?_ ?_; (· first | rfl | ((conv => (lhs; whnf)); first | (simp [hYl]; done) | (simp [hYl]; omega))))))))
      · have hie : i = xs.length := by simp at hc; omega
        subst hie
        clear hc hat hb
        rw [← hml, gz_all]
        refine awp_exit (?_ : Awp _ _ _ _ _ _)
        refine awp_less (st' := ⟨[(5, .own 5 k5 (xs.map unkA).length)], [(5, some (k5, .row 69 3 (xs.map unkA)))]⟩) ?_ ?_
        · (refine leB_of ?_ ?_; (· (repeat (first | exact EnvIs.nil | (refine EnvIs.cons ?_ ?_; (· first | rfl | ((conv => (lhs; whnf)); first | (simp [ints]; done) | (simp [ints]; omega))))))); (· (repeat (first | exact ObjsAre.nil | (refine ObjsAre.cons ?_ ?_; (· first | rfl | ((conv => (lhs; whnf)); first | (simp [ints]; done) | (simp [ints]; omega))))))))
        (refine awp_frz 5 k5 ((xs.map unkA)) ([(5, .ro (xs.map unkA))]) ([]) rfl ?_ ?_ ?_; (· (repeat (first | exact EnvFrz.nil | (refine EnvFrz.cons rfl ?_ ?_; (· first | exact .one (.same _) | (refine .one (.own _ ?_); first | rfl | (simp; done) | (simp only [length_ints]; omega)) | (refine .agg ?_; (repeat (first | exact Frzs.nil | (refine Frzs.cons ?_ ?_; (· first | exact Frz1.same _ | (refine Frz1.own _ ?_; first | rfl | (simp; done) | (simp only [length_ints]; omega)) | exact Frz1.any _))))) | (refine .tuple ?_; (repeat (first | exact Frzs.nil | (refine Frzs.cons ?_ ?_; (· first | exact Frz1.same _ | (refine Frz1.own _ ?_; first | rfl | (simp; done) | (simp only [length_ints]; omega)) | exact Frz1.any _)))))))))); (· (repeat (first | exact ObjsFrz.nil | (refine ObjsFrz.cons rfl rfl ?_ ?_; (· first | exact .same _ | (refine .box ?_; (repeat (first | exact Frzs.nil | (refine Frzs.cons ?_ ?_; (· first | exact Frz1.same _ | (refine Frz1.own _ ?_; first | rfl | (simp; done) | (simp only [length_ints]; omega)) | exact Frz1.any _))))) | (refine .row ?_ rfl; (repeat (first | exact Frzs.nil | (refine Frzs.cons ?_ ?_; (· first | exact Frz1.same _ | (refine Frz1.own _ ?_; first | rfl | (simp; done) | (simp only [length_ints]; omega)) | exact Frz1.any _)))))))))))
        (repeat (first | refine awp_reg_seq rfl fun k => ?_ | (refine awp_ret ?_; (apply ends_pure ?_ ?_ ?_ ?_ ?_ (.inl rfl); rotate_left 1; (· first | exact res_one rfl rfl | exact res_two rfl rfl rfl | exact res_none rfl | exact res_three rfl rfl rfl rfl | exact res_cell rfl rfl rfl rfl rfl | exact res_cell2 rfl rfl rfl rfl rfl rfl | exact res3 rfl (rv_cell rfl rfl rfl rfl) (rv_tmp rfl) (rv_tmp rfl) | exact res3 rfl (rv_cell rfl rfl rfl rfl) (rv_cell rfl rfl rfl rfl) (rv_cell rfl rfl rfl rfl)); (· first | rfl | ((conv => (lhs; whnf)); first | rfl | (simp; done))); (· first | rfl | (simp; done) | (simp [AVal.pure, AVal.pures, AObj.pure]; done)); (· rfl); (· rfl))) | (apply runk0 rfl rfl (opok_move rfl ?_) ?_; rotate_left 1; (· (conv => (lhs; whnf)))) | (apply runk0 rfl rfl (opok_assign rfl ?_) ?_; rotate_left 1; (· (conv => (lhs; whnf)))) | refine runk_end (by kernel_rfl) ?_))
end Go.Proofs.Ytddafnipfkeejaa
