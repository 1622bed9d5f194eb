/-
  At most 30 bytes that the deck of exchangepointmake makes, the numbers of stations, by states.
-/
import Derived.Test.YtklolalgbcgdiaaMkDeck
import Derived.Test.YtklolalgbcgdiaaFrm4
import Derived.Test.YtklolalgbcgdiaaEther
namespace Go.Proofs.Ytklolalgbcgdiaa
open Go.RowKit
set_option maxHeartbeats 4000000 in
set_option maxRecDepth 100000 in
theorem bytes30_spec (zs : List Int) (p : Nat) (hz : zs.length ≤ 9223372036854775807) (hp : p ≤ zs.length) (N : Nat) (hN : (N : Int) = nextV zs p 31) :
    Spec Try.prog 37 [.ptr 0 0 0, .val (.int .i64 30)] [(0, some (0, deckO zs p))] (.ro (ints .u8 (takeB zs (nextP zs p) N))) [(0, some (0, deckO zs (nextPs zs N (nextP zs p))))] := by
  have hp0 := nextP_le zs p hp
  obtain ⟨r0, r1⟩ := nextV_range zs p 31 (by decide)
  have hN40 : N ≤ 30 := by omega
  generalize hP : nextP zs p = P at hp0
  refine spec_of_awp Try.func37 rfl (Nat.le_of_ble_eq_true rfl) fun ini => ?_
  simp only [Try.ntmps37]
  refine awp_reg_seq rfl fun k1 => ?_
  (repeat (first | (apply runk0 rfl rfl (opok_assign rfl ?_) ?_; rotate_left 1; (· (conv => (lhs; whnf)))) | refine runk_end (by kernel_rfl) ?_))
  refine awp_reg_seq rfl fun k2 => ?_
  (repeat (first | (apply runk0 rfl rfl (opok_assign rfl ?_) ?_; rotate_left 1; (· (conv => (lhs; whnf)))) | refine runk_end (by kernel_rfl) ?_))
  refine awp_seq ?_
  have hw : IntKind.i64.wrap (30 + 1) = 31 := by rw [IntKind.wrap_i64]; omega
  refine awp_reg_seq rfl fun k3 => ?_
  (repeat (first | (apply runk0 rfl rfl (opok_move rfl ?_) ?_; rotate_left 1; (· (conv => (lhs; whnf)))) | (apply runk0 rfl rfl (opok_bin rfl ?_ ?_ ?_) ?_; rotate_left 3; (· (conv => (lhs; whnf))); (· (conv => (lhs; whnf))); (· (intro w; go_simp; first | done | rfl)))))
  (apply runk_with rfl rfl rfl ?_ ?_ ?_ ?_ ?_ ?_ ?_ ?_ ?_ ?_ ?_; rotate_left 10; (· (conv => (lhs; whnf))); (· exact Try.func36); (· rfl); (· rfl); (· exact (next_spec zs p 31 (by decide) (by decide) hz hp)); (· (repeat (first | exact Rens.nil | (refine Rens.cons ?_ ?_; (· first | exact Ren.own _ _ _ _ _ _ rfl List.mem_cons_self | exact Ren.own _ _ _ _ _ _ rfl (List.mem_cons_of_mem _ List.mem_cons_self) | (refine (Ren.own _ _ _ _ _ _ ?_ List.mem_cons_self); first | rfl | (simp; done)) | (refine (Ren.own _ _ _ _ _ _ ?_ (List.mem_cons_of_mem _ List.mem_cons_self)); first | rfl | (simp; done)) | exact Ren.ptr _ _ _ _ _ List.mem_cons_self | (refine Ren.pureR ?_ rfl; (first | rfl | (simp; done) | (simp [AVal.pure, AVal.pures, AObj.pure]; done)))))))); (· rfl); (· first | rfl | (simp; done) | simp [AVal.pure, AVal.pures, AObj.pure]); (· first | rfl | (simp; done) | simp [AVal.pure, AVal.pures, AObj.pure]); (· first | rfl | (simp; done) | simp [AVal.pure, AVal.pures, AObj.pure]))
  rw [← hN, hP]
  (repeat (first | (apply runk0 rfl rfl (opok_assign rfl ?_) ?_; rotate_left 1; (· (conv => (lhs; whnf)))) | refine runk_end (by kernel_rfl) ?_))
  refine awp_adopt 5 5 5 1 rfl fun k4 => ?_
  refine awp_block ?_
  refine awp_loop (fun m st => m ≤ N ∧ ∃ kb, st.leB ⟨[(0, .ptr 0 0 0), (5, .own 5 kb (N - m)), (6, .val (.int .i64 m))], [(0, some (0, deckO zs (nextPs zs (N - m) P))), (5, some (kb, .row 5 1 (ints .u8 (takeB zs P (N - m)))))]⟩) N ⟨Nat.le_refl _, k4, ?_⟩ ?_
  · have e0 : N - N = 0 := Nat.sub_self N
    rw [e0]
    (refine leB_of ?_ ?_; (· (repeat (first | exact EnvIs.nil | (refine EnvIs.cons ?_ ?_; (· first | rfl | ((conv => (lhs; whnf)); first | (simp [ints, takeB, nextPs]; done) | (simp [ints, takeB, nextPs]; omega))))))); (· (repeat (first | exact ObjsAre.nil | (refine ObjsAre.cons ?_ ?_; (· first | rfl | ((conv => (lhs; whnf)); first | (simp [ints, takeB, nextPs]; done) | (simp [ints, takeB, nextPs]; omega))))))))
  · rintro m st ⟨hm, kb, hle⟩
    refine awp_less hle ?_
    clear hle st
    have hpm := nextPs_le zs (N - m) P hp0
    refine awp_seq ?_
    refine awp_reg_seq rfl fun k5 => ?_
    (repeat (first | (apply runk0 rfl rfl (opok_move rfl ?_) ?_; rotate_left 1; (· (conv => (lhs; whnf)))) | (apply runk0 rfl rfl (opok_bin rfl ?_ ?_ ?_) ?_; rotate_left 3; (· (conv => (lhs; whnf))); (· (conv => (lhs; whnf))); (· (intro w; go_simp; first | done | rfl))) | refine runk_end (by kernel_rfl) ?_))
    refine awp_cond _ rfl (fun hb => ?_) (fun hb => ?_)
    · have hm0 : 0 < m := by simp at hb; omega
      refine awp_skip (?_ : Awp _ _ _ _ _ _)
      refine awp_seq (awp_block ?_)
      refine awp_reg rfl fun k6 => ?_
      (repeat (first | (apply runk0 rfl rfl (opok_move rfl ?_) ?_; rotate_left 1; (· (conv => (lhs; whnf))))))
      (apply runk_with rfl rfl rfl ?_ ?_ ?_ ?_ ?_ ?_ ?_ ?_ ?_ ?_ ?_; rotate_left 10; (· (conv => (lhs; whnf))); (· exact Try.func36); (· rfl); (· rfl); (· exact (next_spec zs (nextPs zs (N - m) P) 256 (by decide) (by decide) hz hpm)); (· (repeat (first | exact Rens.nil | (refine Rens.cons ?_ ?_; (· first | exact Ren.own _ _ _ _ _ _ rfl List.mem_cons_self | exact Ren.own _ _ _ _ _ _ rfl (List.mem_cons_of_mem _ List.mem_cons_self) | (refine (Ren.own _ _ _ _ _ _ ?_ List.mem_cons_self); first | rfl | (simp; done)) | (refine (Ren.own _ _ _ _ _ _ ?_ (List.mem_cons_of_mem _ List.mem_cons_self)); first | rfl | (simp; done)) | exact Ren.ptr _ _ _ _ _ List.mem_cons_self | (refine Ren.pureR ?_ rfl; (first | rfl | (simp; done) | (simp [AVal.pure, AVal.pures, AObj.pure]; done)))))))); (· rfl); (· first | rfl | (simp; done) | simp [AVal.pure, AVal.pures, AObj.pure]); (· first | rfl | (simp; done) | simp [AVal.pure, AVal.pures, AObj.pure]); (· first | rfl | (simp; done) | simp [AVal.pure, AVal.pures, AObj.pure]))
      obtain ⟨s0, s1⟩ := nextV_range zs (nextPs zs (N - m) P) 256 (by decide)
      have hsucc := takeB_succ zs P (N - m)
      have hnp := nextPs_succ zs (N - m) P
      have hnm : N - (m - 1) = N - m + 1 := by omega
      rw [← hnm] at hsucc hnp
      rw [← hnp]
      have hl := takeB_length zs P (N - m)
      have hl2 := takeB_length zs P (N - (m - 1))
      have hwb : IntKind.u8.wrap (nextV zs (nextPs zs (N - m) P) 256) = nextV zs (nextPs zs (N - m) P) 256 := by rw [IntKind.wrap_u8]; omega
      generalize nextV zs (nextPs zs (N - m) P) 256 = b at hsucc hwb s0 s1
      (repeat (first | (apply runk_assignOwn rfl rfl rfl ?_ ?_ ?_; rotate_left 4; (· (conv => (lhs; whnf))); (· (conv => (lhs; whnf; arg 1; whnf)))) | (apply runk0 rfl rfl (opok_conv rfl ?_ ?_) ?_; rotate_left 2; (· (conv => (lhs; whnf))); (· (intro w; go_simp; first | done | rfl))) | (apply runk_lit rfl rfl rfl ?_ ?_ ?_ ?_ ?_ ?_ ?_ ?_ ?_ ?_ ?_; rotate_left 4; (· (conv => (lhs; whnf; arg 1; whnf))); (· (unfold sizeIs; conv => (lhs; whnf; arg 1; whnf))); (· (conv => (lhs; whnf; arg 1; whnf))); (· rfl); (· rfl); (· rfl); (· rfl); (· (repeat (first | exact PartsAre.nil _ | (apply PartsAre.cons; (· (conv => (lhs; whnf))))))); (· first | rfl | exact one_ints _ _ | exact widths_ints _ _ | simp); (· first | rfl | exact one_ints _ _ | exact widths_ints _ _ | simp)) | refine runk_end (by kernel_rfl) ?_ | (apply runk_app rfl rfl rfl ?_ ?_ ?_ ?_ ?_ ?_ ?_ ?_ ?_ ?_ ?_ ?_ ?_ ?_ ?_ ?_; rotate_left 11; (· (conv => (lhs; whnf))); (· (conv => (lhs; whnf))); (· (conv => (lhs; whnf; arg 1; whnf))); (· (unfold sizeIs; conv => (lhs; whnf; arg 1; whnf))); (· (conv => (lhs; whnf; arg 1; whnf))); (· (conv => (lhs; whnf; arg 1; whnf))); (· rfl); (· rfl); (· rfl); (· first | exact .nil | (refine .own _ _ _ _ rfl ?_; first | rfl | (simp; done)) | (refine .pre _ _ _ _ rfl ?_ ?_; (· first | omega | (simp; done) | (simp; omega)); (· first | exact widths_ints _ _ | rfl | (simp; done)))); (· first | exact .ro _ | (refine .own _ _ _ _ _ _ rfl ?_; first | rfl | (simp; done)) | exact .nil | (refine .pre _ _ _ _ _ _ rfl ?_ ?_; (· first | omega | (simp; done) | (simp; omega)); (· first | exact widths_ints _ _ | rfl | (simp; done))) | (refine .sub _ _ _ _ _ _ _ rfl ?_ ?_; (· first | omega | (simp; done) | (simp; omega)); (· first | exact widths_ints _ _ | rfl | (simp; done)))); (· first | rfl | exact one_ints _ _ | exact widths_ints _ _ | (simp only [ints_takeR, ints_dropR]; first | exact one_ints _ _ | exact widths_ints _ _) | simp); (· first | rfl | exact one_ints _ _ | exact widths_ints _ _ | (simp only [ints_takeR, ints_dropR]; first | exact one_ints _ _ | exact widths_ints _ _) | simp); (· first | omega | (simp; done) | (simp; omega)); (· first | (simp only [List.nil_append, ints_takeR, ints_dropR, ints_one, ints_consR, ints_append]; done) | (simp only [List.nil_append, ints_takeR, ints_dropR, ints_one, ints_consR, ints_append]; rfl) | rfl))))
      rw [hsucc]
      skip
      show Awp _ _ _ _ _ _
      have hwm : IntKind.i64.wrap ((m : Int) - 1) = ((m - 1 : Nat) : Int) := by rw [IntKind.wrap_i64]; omega
      refine awp_reg rfl fun k7 => ?_
      (repeat (first | (apply runk0 rfl rfl (opok_move rfl ?_) ?_; rotate_left 1; (· (conv => (lhs; whnf)))) | (apply runk0 rfl rfl (opok_assign rfl ?_) ?_; rotate_left 1; (· (conv => (lhs; whnf)))) | (apply runk0 rfl rfl (opok_bin rfl ?_ ?_ ?_) ?_; rotate_left 3; (· (conv => (lhs; whnf))); (· (conv => (lhs; whnf))); (· (intro w; go_simp; first | done | rfl))) | refine runk_end (by kernel_rfl) ?_))
      refine ⟨m - 1, by omega, by omega, k6, ?_⟩
      (refine leB_of ?_ ?_; (· (repeat (first | exact EnvIs.nil | (refine EnvIs.cons ?_ ?_; (· first | rfl | ((conv => (lhs; whnf)); first | (simp [hwm]; done) | (simp [hwm]; omega))))))); (· (repeat (first | exact ObjsAre.nil | (refine ObjsAre.cons ?_ ?_; (· first | rfl | ((conv => (lhs; whnf)); first | (simp [hwm]; done) | (simp [hwm]; omega))))))))
    · have hm0 : m = 0 := by simp at hb; omega
      subst hm0
      refine awp_exit (?_ : Awp _ _ _ _ _ _)
      refine awp_reg_seq rfl fun k6 => ?_
      (repeat (first | (apply runk0 rfl rfl (opok_move rfl ?_) ?_; rotate_left 1; (· (conv => (lhs; whnf)))) | (apply runk_assignOwn rfl rfl rfl ?_ ?_ ?_; rotate_left 4; (· (conv => (lhs; whnf))); (· (conv => (lhs; whnf; arg 1; whnf)))) | refine runk_end (by kernel_rfl) ?_))
      (refine awp_frz 4 k6 (ints .u8 (takeB zs P N)) ([(4, .ro (ints .u8 (takeB zs P N)))]) ([(0, some (0, deckO zs (nextPs zs N P)))]) rfl ?_ ?_ ?_; (· (repeat (first | exact EnvFrz.nil | (refine EnvFrz.cons rfl ?_ ?_; (· first | exact .one (.same _) | (refine .one (.own _ ?_); first | rfl | (simp; done) | (simp only [length_ints]; omega)) | (refine .agg ?_; (repeat (first | exact Frzs.nil | (refine Frzs.cons ?_ ?_; (· first | exact Frz1.same _ | (refine Frz1.own _ ?_; first | rfl | (simp; done) | (simp only [length_ints]; omega)) | exact Frz1.any _))))) | (refine .tuple ?_; (repeat (first | exact Frzs.nil | (refine Frzs.cons ?_ ?_; (· first | exact Frz1.same _ | (refine Frz1.own _ ?_; first | rfl | (simp; done) | (simp only [length_ints]; omega)) | exact Frz1.any _)))))))))); (· (repeat (first | exact ObjsFrz.nil | (refine ObjsFrz.cons rfl rfl ?_ ?_; (· first | exact .same _ | (refine .box ?_; (repeat (first | exact Frzs.nil | (refine Frzs.cons ?_ ?_; (· first | exact Frz1.same _ | (refine Frz1.own _ ?_; first | rfl | (simp; done) | (simp only [length_ints]; omega)) | exact Frz1.any _))))) | (refine .row ?_ rfl; (repeat (first | exact Frzs.nil | (refine Frzs.cons ?_ ?_; (· first | exact Frz1.same _ | (refine Frz1.own _ ?_; first | rfl | (simp; done) | (simp only [length_ints]; omega)) | exact Frz1.any _)))))))))))
      refine awp_ret ?_
      (apply ends_with ?_ ?_ ?_ ?_ ?_ ?_ ?_ ?_ (.inl rfl); rotate_left 3; (· first | exact res_one rfl rfl | exact res_two rfl rfl rfl | exact res_none rfl | exact res_three rfl rfl rfl rfl | exact res_cell rfl rfl rfl rfl rfl | exact res_cell2 rfl rfl rfl rfl rfl rfl); (· first | rfl | ((conv => (lhs; whnf)); first | rfl | (simp; done) | (rfl))); (· first | rfl | (simp; done) | (simp [AVal.pure, AVal.pures, AObj.pure]; done)); (· (conv => (lhs; whnf; arg 1; whnf))); (· rfl); (· first | rfl | (simp; done) | (rfl)); (· first | rfl | (simp; done) | (simp [AVal.pure, AVal.pures, AObj.pure]; done)); (· rfl))
theorem mac_spec (n : Int) : Spec Try.prog 33 [.val (.int .i64 n)] [] (.val (.agg #[.int .u8 2, .int .u8 0, .int .u8 (n / 16777216 % 256), .int .u8 (n / 65536 % 256), .int .u8 (n / 256 % 256), .int .u8 (n % 256)])) [] :=
  spec_of_calls (vs := #[.int .i64 n]) (mac_any n)
end Go.Proofs.Ytklolalgbcgdiaa
