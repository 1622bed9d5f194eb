/-
  Layer 40: copies of series, comparison, by states.
-/
import Derived.Test.YtlehkllcbedkhaaSer40
import Derived.Test.YtlehkllcbedkhaaAbsS
import Derived.Test.YtlehkllcbedkhaaShelf
namespace Go.Proofs.Ytlehkllcbedkhaa
open Go.RowKit
theorem clone_spec (xs : List Int) (hl : xs.length ≤ 1000000) : Spec Try.prog 29 [.ro (ints .i64 xs)] [] (.own 1000 0 xs.length) [(1000, some (0, .row 3 1 (ints .i64 xs)))] :=
  spec_copy_ownP fun w A n c hn hc hp hli => by
    by_cases h0 : 0 < n
    · obtain ⟨b, o, rfl, hcell⟩ := lies_cells hn hli hp h0
      refine (Try.slices_Clone_int b o n c xs w (by omega) (by omega) (fun j hj => hcell j (by omega))).mono ?_
      rintro e w' ⟨v, h1, h2, -, h3⟩
      rw [← hn, List.take_length] at h2
      exact ⟨v, h1, by rw [← hn]; exact h2, h3⟩
    · obtain rfl : n = 0 := by omega
      obtain rfl : xs = [] := List.eq_nil_of_length_eq_zero hn
      cases A with
      | none =>
        refine (Try.slices_Clone_int_nil 0 c w).mono ?_
        rintro e w' ⟨h1, rfl⟩
        exact ⟨_, h1, World.ownsRow_nil _ _ _ _, Below.refl _ _⟩
      | some a =>
        refine (Try.slices_Clone_int_zero a c w).mono ?_
        rintro e w' ⟨v, h1, h2, -, h3⟩
        exact ⟨v, h1, h2, h3⟩
theorem equal_spec (xs ys : List Int) (hl : xs.length ≤ 1000000) (hl2 : ys.length ≤ 1000000) : Spec Try.prog 37 [.ro (ints .i64 xs), .ro (ints .i64 ys)] [] (.val (.bool (xs == ys))) [] :=
  spec_lies2 fun w A B n c m d hn hm hc hd p1 p2 l1 l2 => by
    by_cases h0 : 0 < n
    · by_cases h1 : n = m
      · obtain ⟨b, o, rfl, hcell⟩ := lies_cells hn l1 p1 h0
        obtain ⟨b', o', rfl, hcell'⟩ := lies_cells hm l2 p2 (by omega)
        refine (Try.slices_Equal_int b o n c b' o' m d xs ys w (by omega) (by omega) (by omega) (by omega) (fun j hj => hcell j (by omega)) (fun j hj => hcell' j (by omega))).mono ?_
        rintro e w' ⟨g1, q, rfl⟩
        rw [← hn, ← hm, List.take_length, List.take_length] at g1
        exact ⟨g1, below_drewN (Below.refl _ _) _⟩
      · have hne : (xs == ys) = false := by
          rw [beq_eq_false_iff_ne]
          intro e
          subst e
          omega
        refine (Try.slices_Equal_int_lens A B n c m d w h1).mono ?_
        rintro e w' ⟨g1, rfl⟩
        exact ⟨by rw [hne]; exact g1, Below.refl _ _⟩
    · obtain rfl : n = 0 := by omega
      obtain rfl : xs = [] := List.eq_nil_of_length_eq_zero hn
      refine (Try.slices_Equal_int_empty A B c m d w (by omega)).mono ?_
      rintro e w' ⟨g1, rfl⟩
      have e : (([] : List Int) == ys) = decide (m = 0) := by
        cases ys with
        | nil => simp at hm; subst hm; rfl
        | cons y ys => simp at hm; subst hm; rfl
      exact ⟨by rw [e]; exact g1, Below.refl _ _⟩
set_option maxHeartbeats 8000000 in
set_option maxRecDepth 100000 in
theorem same40 (m : SK) (hl : m.i.length ≤ 1000000) (hl2 : m.o.length ≤ 1000000) : Spec Try.prog 26 [.agg m.A, .agg m.A] [] (.val (.bool true)) [] := by
  have e1 := equal_spec m.i m.i hl hl
  have e2 := equal_spec m.o m.o hl2 hl2
  rw [beq_self_eq_true] at e1 e2
  obtain ⟨port, sec, xs, ys⟩ := m
  unfold SK.A
  dsimp only at *
  refine spec_of_awp Try.func26 rfl (Nat.le_of_ble_eq_true rfl) fun ini => ?_
  simp only [Try.ntmps26]
  (repeat (first | refine awp_reg_seq rfl fun k => ?_ | (refine awp_ret ?_; (apply ends_pure ?_ ?_ ?_ ?_ ?_ (.inl rfl); rotate_left 1; (· first | exact res_one rfl rfl | exact res_two rfl rfl rfl | exact res_none rfl | exact res_three rfl rfl rfl rfl | exact res_cell rfl rfl rfl rfl rfl | exact res_cell2 rfl rfl rfl rfl rfl rfl | exact res3 rfl (rv_cell rfl rfl rfl rfl) (rv_tmp rfl) (rv_tmp rfl) | exact res3 rfl (rv_cell rfl rfl rfl rfl) (rv_cell rfl rfl rfl rfl) (rv_cell rfl rfl rfl rfl)); (· first | rfl | ((conv => (lhs; whnf)); first | rfl | (simp; done))); (· first | rfl | (simp; done) | (simp [AVal.pure, AVal.pures, AObj.pure]; done)); (· rfl); (· rfl))) | (apply runk_pure rfl rfl rfl ?_ ?_ ?_ ?_ ?_ ?_ ?_ ?_; rotate_left 6; (· (conv => (lhs; whnf))); (· exact Try.func37); (· rfl); (· rfl); (· exact (e1)); (· (repeat (first | exact Rens.nil | (refine Rens.cons ?_ ?_; (· first | exact Ren.own _ _ _ _ _ _ rfl List.mem_cons_self | exact Ren.own _ _ _ _ _ _ rfl (List.mem_cons_of_mem _ List.mem_cons_self) | (refine (Ren.own _ _ _ _ _ _ ?_ List.mem_cons_self); first | rfl | (simp; done)) | (refine (Ren.own _ _ _ _ _ _ ?_ (List.mem_cons_of_mem _ List.mem_cons_self)); first | rfl | (simp; done)) | exact Ren.ptr _ _ _ _ _ List.mem_cons_self | (refine Ren.pureR ?_ rfl; (first | rfl | (simp; done) | (simp [AVal.pure, AVal.pures, AObj.pure]; done)))))))); (· first | rfl | (simp; done) | simp [AVal.pure, AVal.pures, AObj.pure])) | (apply runk_pure rfl rfl rfl ?_ ?_ ?_ ?_ ?_ ?_ ?_ ?_; rotate_left 6; (· (conv => (lhs; whnf))); (· exact Try.func37); (· rfl); (· rfl); (· exact (e2)); (· (repeat (first | exact Rens.nil | (refine Rens.cons ?_ ?_; (· first | exact Ren.own _ _ _ _ _ _ rfl List.mem_cons_self | exact Ren.own _ _ _ _ _ _ rfl (List.mem_cons_of_mem _ List.mem_cons_self) | (refine (Ren.own _ _ _ _ _ _ ?_ List.mem_cons_self); first | rfl | (simp; done)) | (refine (Ren.own _ _ _ _ _ _ ?_ (List.mem_cons_of_mem _ List.mem_cons_self)); first | rfl | (simp; done)) | exact Ren.ptr _ _ _ _ _ List.mem_cons_self | (refine Ren.pureR ?_ rfl; (first | rfl | (simp; done) | (simp [AVal.pure, AVal.pures, AObj.pure]; done)))))))); (· first | rfl | (simp; done) | simp [AVal.pure, AVal.pures, AObj.pure])) | (apply runk0 rfl rfl (opok_box_ro rfl ?_ ?_ ?_) ?_; rotate_left 2; (· (conv => (lhs; whnf))); (· rfl); (· (conv => (lhs; whnf)))) | (first | refine runk_ung rfl rfl rfl rfl ?_ | refine runk_ung rfl rfl rfl (by assumption) ?_) | (apply runk0 rfl rfl (opok_move rfl ?_) ?_; rotate_left 1; (· (conv => (lhs; whnf)))) | (apply runk0 rfl rfl (opok_assign rfl ?_) ?_; rotate_left 1; (· (conv => (lhs; whnf)))) | (first | (apply runk0 rfl rfl (opok_load rfl ?_ ?_ ?_ ?_) ?_; rotate_left 5; (· (conv => (lhs; whnf))); (· (conv => (lhs; whnf; arg 1; whnf; arg 2; whnf))); (· rfl); (· (conv => (lhs; whnf; arg 1; whnf)))) | (apply runk0 rfl rfl (opok_loadR rfl ?_ ?_ ?_) ?_; rotate_left 2; (· (conv => (lhs; whnf))); (· rfl); (· (conv => (lhs; whnf; arg 1; whnf))))) | (apply runk0 rfl rfl (opok_bin rfl ?_ ?_ ?_) ?_; rotate_left 3; (· (conv => (lhs; whnf))); (· (conv => (lhs; whnf))); (· (intro w; go_simp; first | done | rfl))) | (apply runk0 rfl rfl (opok_pick rfl ?_ ?_) ?_; rotate_left 2; (· (conv => (lhs; whnf))); (· first | exact pick_or | exact pick_and | (conv => (lhs; whnf)))) | refine runk_end (by kernel_rfl) ?_ | (apply runk0 rfl rfl (opok_faR rfl ?_ rfl rfl ?_ ?_ ?_) ?_; rotate_left 3; (· (conv => (lhs; whnf))); (· (unfold sizeIs; conv => (lhs; whnf; arg 1; whnf))); (· rfl); (· (conv => (lhs; (repeat (whnf; arg 2)); whnf))))))
/-- The copy of a series, in two rows of the caller's own. -/
def copyA (m : SK) : AVal := .agg [.val (.int .i64 m.port), .val (.int .i64 m.sec), .own 1000 0 m.i.length, .own 1001 0 m.o.length]
def copyO (m : SK) : Writes := [(1000, some (0, .row 3 1 (ints .i64 m.i))), (1001, some (0, .row 3 1 (ints .i64 m.o)))]
set_option maxHeartbeats 8000000 in
set_option maxRecDepth 100000 in
theorem ccopy40 (m : SK) (hl : m.i.length ≤ 1000000) (hl2 : m.o.length ≤ 1000000) : Spec Try.prog 36 [.agg m.A] [] (copyA m) (copyO m) := by
  have e1 := clone_spec m.i hl
  have e2 := clone_spec m.o hl2
  obtain ⟨port, sec, xs, ys⟩ := m
  unfold SK.A copyA copyO
  dsimp only at *
  refine spec_of_awp Try.func36 rfl (Nat.le_of_ble_eq_true rfl) fun ini => ?_
  simp only [Try.ntmps36]
  (repeat (first | refine awp_reg_seq rfl fun k => ?_ | refine awp_isF rfl (by assumption) ?_ | (apply runk_made rfl rfl rfl ?_ ?_ ?_ ?_ ?_ ?_ ?_ ?_ ?_; rotate_left 8; (· (conv => (lhs; whnf))); (· exact Try.func29); (· rfl); (· rfl); (· exact (e1)); (· (repeat (first | exact Rens.nil | (refine Rens.cons ?_ ?_; (· first | exact Ren.own _ _ _ _ _ _ rfl List.mem_cons_self | exact Ren.own _ _ _ _ _ _ rfl (List.mem_cons_of_mem _ List.mem_cons_self) | (refine (Ren.own _ _ _ _ _ _ ?_ List.mem_cons_self); first | rfl | (simp; done)) | (refine (Ren.own _ _ _ _ _ _ ?_ (List.mem_cons_of_mem _ List.mem_cons_self)); first | rfl | (simp; done)) | exact Ren.ptr _ _ _ _ _ List.mem_cons_self | (refine Ren.pureR ?_ rfl; (first | rfl | (simp; done) | (simp [AVal.pure, AVal.pures, AObj.pure]; done)))))))); (· first | exact .one (.ptr _ _ _ _ _ List.mem_cons_self) | exact .one (.own _ _ _ _ _ _ rfl List.mem_cons_self) | exact .one (.own _ _ _ _ _ _ rfl (List.mem_cons_of_mem _ List.mem_cons_self)) | (apply RenT.tuple; (repeat (first | exact Rens.nil | (apply Rens.cons; (· first | exact Ren.own _ _ _ _ _ _ rfl List.mem_cons_self | exact Ren.own _ _ _ _ _ _ rfl (List.mem_cons_of_mem _ List.mem_cons_self) | exact Ren.ptr _ _ _ _ _ List.mem_cons_self | (refine Ren.pureR ?_ rfl; (first | rfl | (simp; done) | (simp [AVal.pure, AVal.pures, AObj.pure]; done)))))))) | (refine .one (.pure _ ?_); (first | rfl | (simp; done) | (simp [AVal.pure, AVal.pures, AObj.pure]; done)))); (· first | rfl | (simp; done) | simp [AVal.pure, AVal.pures, AObj.pure])) | (apply runk_made rfl rfl rfl ?_ ?_ ?_ ?_ ?_ ?_ ?_ ?_ ?_; rotate_left 8; (· (conv => (lhs; whnf))); (· exact Try.func29); (· rfl); (· rfl); (· exact (e2)); (· (repeat (first | exact Rens.nil | (refine Rens.cons ?_ ?_; (· first | exact Ren.own _ _ _ _ _ _ rfl List.mem_cons_self | exact Ren.own _ _ _ _ _ _ rfl (List.mem_cons_of_mem _ List.mem_cons_self) | (refine (Ren.own _ _ _ _ _ _ ?_ List.mem_cons_self); first | rfl | (simp; done)) | (refine (Ren.own _ _ _ _ _ _ ?_ (List.mem_cons_of_mem _ List.mem_cons_self)); first | rfl | (simp; done)) | exact Ren.ptr _ _ _ _ _ List.mem_cons_self | (refine Ren.pureR ?_ rfl; (first | rfl | (simp; done) | (simp [AVal.pure, AVal.pures, AObj.pure]; done)))))))); (· first | exact .one (.ptr _ _ _ _ _ List.mem_cons_self) | exact .one (.own _ _ _ _ _ _ rfl List.mem_cons_self) | exact .one (.own _ _ _ _ _ _ rfl (List.mem_cons_of_mem _ List.mem_cons_self)) | (apply RenT.tuple; (repeat (first | exact Rens.nil | (apply Rens.cons; (· first | exact Ren.own _ _ _ _ _ _ rfl List.mem_cons_self | exact Ren.own _ _ _ _ _ _ rfl (List.mem_cons_of_mem _ List.mem_cons_self) | exact Ren.ptr _ _ _ _ _ List.mem_cons_self | (refine Ren.pureR ?_ rfl; (first | rfl | (simp; done) | (simp [AVal.pure, AVal.pures, AObj.pure]; done)))))))) | (refine .one (.pure _ ?_); (first | rfl | (simp; done) | (simp [AVal.pure, AVal.pures, AObj.pure]; done)))); (· first | rfl | (simp; done) | simp [AVal.pure, AVal.pures, AObj.pure])) | (apply runk_fa rfl rfl rfl ?_ rfl rfl ?_ ?_ ?_ ?_; rotate_left 5; (· (conv => (lhs; whnf))); (· (unfold sizeIs; conv => (lhs; whnf; arg 1; whnf))); (· rfl); (· (conv => (lhs; whnf)))) | (first | (apply runk0 rfl rfl (opok_load rfl ?_ ?_ ?_ ?_) ?_; rotate_left 5; (· (conv => (lhs; whnf))); (· (conv => (lhs; whnf; arg 1; whnf; arg 2; whnf))); (· rfl); (· (conv => (lhs; whnf; arg 1; whnf)))) | (apply runk0 rfl rfl (opok_loadR rfl ?_ ?_ ?_) ?_; rotate_left 2; (· (conv => (lhs; whnf))); (· rfl); (· (conv => (lhs; whnf; arg 1; whnf))))) | (apply runk0 rfl rfl (opok_loadA rfl ?_ ?_ ?_ ?_ ?_ ?_) ?_; rotate_left 6; (· (conv => (lhs; whnf))); (· (conv => (lhs; whnf; arg 1; whnf; arg 2; whnf))); (· rfl); (· (unfold sizeIs; conv => (lhs; whnf; arg 1; whnf))); (· (conv => (lhs; repeat (whnf; arg 2)))); (· rfl)) | (apply runk_box rfl rfl rfl ?_ ?_ ?_ ?_; rotate_left 2; (· (conv => (lhs; whnf))); (· rfl); (· (conv => (lhs; whnf)))) | (apply runk_alloc rfl rfl rfl ?_ ?_ ?_; rotate_left 2; (· (conv => (lhs; whnf; arg 1; whnf))); (· (conv => (lhs; whnf)))) | (apply runk_store rfl rfl rfl ?_ ?_ ?_ ?_ ?_ ?_ ?_ ?_ ?_ ?_ ?_; rotate_left 9; (· (conv => (lhs; whnf))); (· (conv => (lhs; whnf))); (· (conv => (lhs; whnf; arg 1; whnf; arg 2; whnf))); (· rfl); (· (conv => (lhs; whnf))); (· rfl); (· (unfold sizeIs; conv => (lhs; whnf; arg 1; whnf))); (· rfl); (· rfl); (· (conv => (lhs; repeat (whnf; arg 2))))) | refine runk_end (by kernel_rfl) ?_))
  rename_i ka kb kc
  refine awp_ret ?_
  refine ends_rows2 (v0 := .agg [.val (.int .i64 port), .val (.int .i64 sec), .own 5 kb xs.length, .own 9 kc ys.length]) (o1 := .row 3 1 (ints .i64 xs)) (o2 := .row 3 1 (ints .i64 ys)) (n1 := 5) (k1 := kb) (n2 := 9) (k2 := kc) ?_ ?_ ?_ ?_ ?_ (by decide) ?_ ?_ ?_ (.inl rfl)
  · exact res_cell rfl rfl rfl rfl rfl
  · rfl
  · rfl
  · refine .one (.aggs (.cons (.pure _ rfl) (.cons (.pure _ rfl) (.cons (.own _ _ _ _ _ _ ?_ List.mem_cons_self) (.cons (.own _ _ _ _ _ _ ?_ (List.mem_cons_of_mem _ List.mem_cons_self)) .nil)))))
    · simp
    · simp
  · rfl
  · simp [AObj.pure]
  · simp [AObj.pure]
  · rfl
set_option maxHeartbeats 8000000 in
set_option maxRecDepth 100000 in
theorem rcopy40 (m : SK) (hl : m.i.length ≤ 1000000) (hl2 : m.o.length ≤ 1000000) : Spec Try.prog 11 [.agg m.A] [] (copyA m) (copyO m) := by
  obtain ⟨port, sec, xs, ys⟩ := m
  unfold SK.A copyA copyO
  dsimp only at *
  refine spec_of_awp Try.func11 rfl (Nat.le_of_ble_eq_true rfl) fun ini => ?_
  simp only [Try.ntmps11]
  (repeat (first | refine awp_reg_seq rfl fun k => ?_ | refine awp_isF rfl (by assumption) ?_ | (apply runk_fa rfl rfl rfl ?_ rfl rfl ?_ ?_ ?_ ?_; rotate_left 5; (· (conv => (lhs; whnf))); (· (unfold sizeIs; conv => (lhs; whnf; arg 1; whnf))); (· rfl); (· (conv => (lhs; whnf)))) | (first | (apply runk0 rfl rfl (opok_load rfl ?_ ?_ ?_ ?_) ?_; rotate_left 5; (· (conv => (lhs; whnf))); (· (conv => (lhs; whnf; arg 1; whnf; arg 2; whnf))); (· rfl); (· (conv => (lhs; whnf; arg 1; whnf)))) | (apply runk0 rfl rfl (opok_loadR rfl ?_ ?_ ?_) ?_; rotate_left 2; (· (conv => (lhs; whnf))); (· rfl); (· (conv => (lhs; whnf; arg 1; whnf))))) | (apply runk0 rfl rfl (opok_loadA rfl ?_ ?_ ?_ ?_ ?_ ?_) ?_; rotate_left 6; (· (conv => (lhs; whnf))); (· (conv => (lhs; whnf; arg 1; whnf; arg 2; whnf))); (· rfl); (· (unfold sizeIs; conv => (lhs; whnf; arg 1; whnf))); (· (conv => (lhs; repeat (whnf; arg 2)))); (· rfl)) | (apply runk_box rfl rfl rfl ?_ ?_ ?_ ?_; rotate_left 2; (· (conv => (lhs; whnf))); (· rfl); (· (conv => (lhs; whnf)))) | (apply runk_alloc rfl rfl rfl ?_ ?_ ?_; rotate_left 2; (· (conv => (lhs; whnf; arg 1; whnf))); (· (conv => (lhs; whnf)))) | (apply runk_store rfl rfl rfl ?_ ?_ ?_ ?_ ?_ ?_ ?_ ?_ ?_ ?_ ?_; rotate_left 9; (· (conv => (lhs; whnf))); (· (conv => (lhs; whnf))); (· (conv => (lhs; whnf; arg 1; whnf; arg 2; whnf))); (· rfl); (· (conv => (lhs; whnf))); (· rfl); (· (unfold sizeIs; conv => (lhs; whnf; arg 1; whnf))); (· rfl); (· rfl); (· (conv => (lhs; repeat (whnf; arg 2))))) | refine runk_end (by kernel_rfl) ?_ | (apply runk_app rfl rfl rfl ?_ ?_ ?_ ?_ ?_ ?_ ?_ ?_ ?_ ?_ ?_ ?_ ?_ ?_ ?_ ?_; rotate_left 11; (· (conv => (lhs; whnf))); (· (conv => (lhs; whnf))); (· (conv => (lhs; whnf; arg 1; whnf))); (· (unfold sizeIs; conv => (lhs; whnf; arg 1; whnf))); (· (conv => (lhs; whnf; arg 1; whnf))); (· (conv => (lhs; whnf; arg 1; whnf))); (· rfl); (· rfl); (· rfl); (· first | exact .nil | (refine .own _ _ _ _ rfl ?_; first | rfl | (simp; done)) | (refine .pre _ _ _ _ rfl ?_ ?_; (· first | omega | (simp; done) | (simp; omega)); (· first | exact widths_ints _ _ | rfl | (simp; done)))); (· first | exact .ro _ | (refine .own _ _ _ _ _ _ rfl ?_; first | rfl | (simp; done)) | exact .nil | (refine .pre _ _ _ _ _ _ rfl ?_ ?_; (· first | omega | (simp; done) | (simp; omega)); (· first | exact widths_ints _ _ | rfl | (simp; done))) | (refine .sub _ _ _ _ _ _ _ rfl ?_ ?_; (· first | omega | (simp; done) | (simp; omega)); (· first | exact widths_ints _ _ | rfl | (simp; done)))); (· first | rfl | exact one_ints _ _ | exact widths_ints _ _ | (simp only [ints_takeR, ints_dropR]; first | exact one_ints _ _ | exact widths_ints _ _) | simp); (· first | rfl | exact one_ints _ _ | exact widths_ints _ _ | (simp only [ints_takeR, ints_dropR]; first | exact one_ints _ _ | exact widths_ints _ _) | simp); (· first | omega | (simp; done) | (simp; omega)); (· first | (simp only [List.nil_append, ints_takeR, ints_dropR, ints_one, ints_consR, ints_append]; done) | (simp only [List.nil_append, ints_takeR, ints_dropR, ints_one, ints_consR, ints_append]; rfl) | rfl))))
  rename_i ka kb
  refine awp_ret ?_
  refine ends_rows2 (v0 := .agg [.val (.int .i64 port), .val (.int .i64 sec), .own 5 kb (ints .i64 xs).length, .own 8 kb (ints .i64 ys).length]) (o1 := .row 3 1 (ints .i64 xs)) (o2 := .row 3 1 (ints .i64 ys)) (n1 := 5) (k1 := kb) (n2 := 8) (k2 := kb) ?_ ?_ ?_ ?_ ?_ (by decide) ?_ ?_ ?_ (.inl rfl)
  · exact res_cell rfl rfl rfl rfl rfl
  · rfl
  · rfl
  · refine .one (.aggs (.cons (.pure _ rfl) (.cons (.pure _ rfl) (.cons (.own _ _ _ _ _ _ ?_ List.mem_cons_self) (.cons (.own _ _ _ _ _ _ ?_ (List.mem_cons_of_mem _ List.mem_cons_self)) .nil)))))
    · simp
    · simp
  · rfl
  · simp [AObj.pure]
  · simp [AObj.pure]
  · rfl
end Go.Proofs.Ytlehkllcbedkhaa
