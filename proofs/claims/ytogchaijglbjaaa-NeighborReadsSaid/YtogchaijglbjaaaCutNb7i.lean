/-
  Layer 7: the check that is awake; NeighborBack, by states.
-/
import Derived.Test.YtogchaijglbjaaaCutNb7g
import Derived.Test.YtogchaijglbjaaaCutNb7h
namespace Go.Proofs.Ytogchaijglbjaaa
open Go.RowKit
theorem eq_mac_d (d : Nat) (a0 a1 a2 a3 a4 a5 : Int) (w : World) : (Op.equalIn (d + 2) 26 (.agg #[.int .u8 a0, .int .u8 a1, .int .u8 a2, .int .u8 a3, .int .u8 a4, .int .u8 a5]) (.agg #[.int .u8 a0, .int .u8 a1, .int .u8 a2, .int .u8 a3, .int .u8 a4, .int .u8 a5])).run Try.prog w = .ok true w := by
  obtain ⟨i, hi⟩ := Option.isSome_iff_exists.1 (show (Try.prog.info? 5).isSome = true by kernel_rfl)
  have h := eq_ints_list Try.underlying5 d w [a0, a1, a2, a3, a4, a5] [a0, a1, a2, a3, a4, a5] (List.range 6) (by intro i hi; simp at hi; simp; omega)
  rw [run_equalIn_array w (d + 1) _ _ Try.underlying26 hi, show Try.prog.cellsOf 5 = 1 by kernel_rfl]
  rw [all_range _ _ 6 rfl rfl] at h
  simpa using h
set_option maxHeartbeats 4000000 in
theorem eq_nb (kind flags : Int) (tv : Bool) (th tl : Int) (has : Bool) (l0 l1 l2 l3 l4 l5 : Int) (w : World) : (Op.equalIn 10000 28 (.agg #[.int .i64 kind, .int .i64 flags, .bool tv, .int .u64 th, .int .u64 tl, .bool has, .int .u8 l0, .int .u8 l1, .int .u8 l2, .int .u8 l3, .int .u8 l4, .int .u8 l5]) (.agg #[.int .i64 kind, .int .i64 flags, .bool tv, .int .u64 th, .int .u64 tl, .bool has, .int .u8 l0, .int .u8 l1, .int .u8 l2, .int .u8 l3, .int .u8 l4, .int .u8 l5])).run Try.prog w = .ok true w := by
  have e1 := fun w => eq_mac_d 9997 l0 l1 l2 l3 l4 l5 w
  go_simp
def n0 : NK := ⟨135, 0, true, 18338657682652659712, 1, false, 0, 0, 0, 0, 0, 0⟩
set_option maxHeartbeats 32000000 in
set_option maxRecDepth 100000 in
theorem awake7_spec : Spec Try.prog 15 [] [] (.val (.bool true)) [] := by
  have hok : n0.ok = true := by decide +kernel
  have hlb : Bytes n0.link := by intro z hz; simp [NK.link, n0] at hz; omega
  have se := nenc_ok n0 hok hlb 18338657682652659712 1 18338657682652659712 1
  have hlen := n0.b3_length
  have sd := ndec_spec (encN n0 18338657682652659712 1 18338657682652659712 1) (sgn_bytes _ _ _ _ (NK.b3_bytes hok hlb)) (by show (sgn _ _ _ _ _).length ≤ 9000; rw [sgn_length, hlen]; decide)
  rw [dec_enc hok hlb (by decide) (by decide), if_neg (by simp)] at sd
  obtain ⟨D, hD, hl⟩ : ∃ D, encN n0 18338657682652659712 1 18338657682652659712 1 = ⟨true, 18338657682652659712, 1, true, 18338657682652659712, 1, 58, 255, D⟩ ∧ D.length = 24 := ⟨_, rfl, by rw [sgn_length, hlen]; rfl⟩
  rw [hD] at se sd
  have hl2 : ((ints .u8 D).length : Int) = 24 := by rw [length_ints, hl]; rfl
  have hl3 : (D.length : Int) = 24 := by rw [hl]; rfl
  have ea := eq_addr7 true true 18338657682652659712 1 18338657682652659712 1
  unfold PK.A NK.A n0 at *
  dsimp only at *
  refine spec_of_awp Try.func15 rfl (Nat.le_of_ble_eq_true rfl) fun ini => ?_
  simp only [Try.ntmps15]
  (repeat (first | refine awp_reg_seq rfl fun k => ?_ | refine awp_isF rfl (by assumption) ?_ | refine awp_exit (?_ : Awp _ _ _ _ _ _) | (refine awp_ret ?_; (apply ends_pure ?_ ?_ ?_ ?_ ?_ (.inl rfl); rotate_left 1; (· first | exact res_one rfl rfl | exact res_two rfl rfl rfl | exact res_none rfl | exact res_three rfl rfl rfl rfl | exact res_cell rfl rfl rfl rfl rfl | exact res_cell2 rfl rfl rfl rfl rfl rfl | exact res3 rfl (rv_cell rfl rfl rfl rfl) (rv_tmp rfl) (rv_tmp rfl) | exact res3 rfl (rv_cell rfl rfl rfl rfl) (rv_cell rfl rfl rfl rfl) (rv_cell rfl rfl rfl rfl)); (· first | rfl | ((conv => (lhs; whnf)); first | rfl | (simp; done))); (· first | rfl | (simp; done) | (simp [AVal.pure, AVal.pures, AObj.pure]; done)); (· rfl); (· rfl))) | (apply runk_pure rfl rfl rfl ?_ ?_ ?_ ?_ ?_ ?_ ?_ ?_; rotate_left 6; (· (conv => (lhs; whnf))); (· exact Try.func10); (· rfl); (· rfl); (· exact (se)); (· (repeat (first | exact Rens.nil | (refine Rens.cons ?_ ?_; (· first | exact Ren.own _ _ _ _ _ _ rfl List.mem_cons_self | exact Ren.own _ _ _ _ _ _ rfl (List.mem_cons_of_mem _ List.mem_cons_self) | (refine (Ren.own _ _ _ _ _ _ ?_ List.mem_cons_self); first | rfl | (simp; done)) | (refine (Ren.own _ _ _ _ _ _ ?_ (List.mem_cons_of_mem _ List.mem_cons_self)); first | rfl | (simp; done)) | exact Ren.ptr _ _ _ _ _ List.mem_cons_self | (refine Ren.pureR ?_ rfl; (first | rfl | (simp; done) | (simp [AVal.pure, AVal.pures, AObj.pure]; done)))))))); (· first | rfl | (simp; done) | simp [AVal.pure, AVal.pures, AObj.pure])) | (apply runk_pure rfl rfl rfl ?_ ?_ ?_ ?_ ?_ ?_ ?_ ?_; rotate_left 6; (· (conv => (lhs; whnf))); (· exact Try.func22); (· rfl); (· rfl); (· exact (sd)); (· (repeat (first | exact Rens.nil | (refine Rens.cons ?_ ?_; (· first | exact Ren.own _ _ _ _ _ _ rfl List.mem_cons_self | exact Ren.own _ _ _ _ _ _ rfl (List.mem_cons_of_mem _ List.mem_cons_self) | (refine (Ren.own _ _ _ _ _ _ ?_ List.mem_cons_self); first | rfl | (simp; done)) | (refine (Ren.own _ _ _ _ _ _ ?_ (List.mem_cons_of_mem _ List.mem_cons_self)); first | rfl | (simp; done)) | exact Ren.ptr _ _ _ _ _ List.mem_cons_self | (refine Ren.pureR ?_ rfl; (first | rfl | (simp; done) | (simp [AVal.pure, AVal.pures, AObj.pure]; done)))))))); (· first | rfl | (simp; done) | simp [AVal.pure, AVal.pures, AObj.pure])) | (first | refine runk_ung rfl rfl rfl rfl ?_ | refine runk_ung rfl rfl rfl (by assumption) ?_) | (apply runk0 rfl rfl (opok_move rfl ?_) ?_; rotate_left 1; (· (conv => (lhs; whnf)))) | (apply runk0 rfl rfl (opok_assign rfl ?_) ?_; rotate_left 1; (· (conv => (lhs; whnf)))) | (apply runk_fa rfl rfl rfl ?_ rfl rfl ?_ ?_ ?_ ?_; rotate_left 5; (· (conv => (lhs; whnf))); (· (unfold sizeIs; conv => (lhs; whnf; arg 1; whnf))); (· rfl); (· (conv => (lhs; whnf)))) | (first | (apply runk0 rfl rfl (opok_load rfl ?_ ?_ ?_ ?_) ?_; rotate_left 5; (· (conv => (lhs; whnf))); (· (conv => (lhs; whnf; arg 1; whnf; arg 2; whnf))); (· rfl); (· (conv => (lhs; whnf; arg 1; whnf)))) | (apply runk0 rfl rfl (opok_loadR rfl ?_ ?_ ?_) ?_; rotate_left 2; (· (conv => (lhs; whnf))); (· rfl); (· (conv => (lhs; whnf; arg 1; whnf))))) | (apply runk0 rfl rfl (opok_loadA rfl ?_ ?_ ?_ ?_ ?_ ?_) ?_; rotate_left 6; (· (conv => (lhs; whnf))); (· (conv => (lhs; whnf; arg 1; whnf; arg 2; whnf))); (· rfl); (· (unfold sizeIs; conv => (lhs; whnf; arg 1; whnf))); (· (conv => (lhs; repeat (whnf; arg 2)))); (· rfl)) | (apply runk0 rfl rfl (opok_bin rfl ?_ ?_ ?_) ?_; rotate_left 3; (· (conv => (lhs; whnf))); (· (conv => (lhs; whnf))); (· (intro w; go_simp; first | done | rfl))) | (first | (apply runk0 rfl rfl (opok_lenO rfl ?_ ?_ ?_) ?_; rotate_left 5; (· (conv => (lhs; whnf))); (· (conv => (lhs; whnf; arg 1; whnf))); (· first | exact length_ints _ _ | rfl)) | (apply runk0 rfl rfl (opok_len_own rfl ?_ ?_) ?_; rotate_left 4; (· (conv => (lhs; whnf))); (· (conv => (lhs; whnf; arg 1; whnf)))) | (apply runk0 rfl rfl (opok_len rfl ?_ ?_ ?_) ?_; rotate_left 3; (· (conv => (lhs; whnf))); (· (conv => (lhs; whnf; arg 1; whnf))); (· first | exact length_ints _ _ | rfl))) | (apply runk0 rfl rfl (opok_binA rfl ?_ ?_ ?_ ?_ ?_) ?_; rotate_left 5; (· (conv => (lhs; whnf))); (· (repeat (first | exact ValsAre.nil | apply ValsAre.cons))); (· (conv => (lhs; whnf))); (· (repeat (first | exact ValsAre.nil | apply ValsAre.cons))); (· (intro w; go_simp; first | done | rfl))) | (apply runk0 rfl rfl (opok_pick rfl ?_ ?_) ?_; rotate_left 2; (· (conv => (lhs; whnf))); (· first | exact pick_or | exact pick_and | (conv => (lhs; whnf)))) | (apply runk0 rfl rfl (opok_extract rfl ?_ ?_) ?_; rotate_left 2; (· (conv => (lhs; whnf))); (· (conv => (lhs; whnf; arg 1; whnf)))) | (apply runk0 rfl rfl (opok_build rfl ?_ ?_ ?_ ?_ ?_) ?_; rotate_left 5; (· (conv => (lhs; whnf; arg 1; whnf))); (· (conv => (lhs; whnf; arg 1; repeat (whnf; arg 2)))); (· (conv => (lhs; whnf; arg 1; whnf))); (· (repeat (first | exact PartsOf.nil | (apply PartsOf.cons; (· (conv => (lhs; whnf))))))); (· (conv => (lhs; whnf; arg 1; repeat (whnf; arg 2))))) | (apply runk_alloc rfl rfl rfl ?_ ?_ ?_; rotate_left 2; (· (conv => (lhs; whnf; arg 1; whnf))); (· (conv => (lhs; whnf)))) | (apply runk_store rfl rfl rfl ?_ ?_ ?_ ?_ ?_ ?_ ?_ ?_ ?_ ?_ ?_; rotate_left 9; (· (conv => (lhs; whnf))); (· (conv => (lhs; whnf))); (· (conv => (lhs; whnf; arg 1; whnf; arg 2; whnf))); (· rfl); (· (conv => (lhs; whnf))); (· rfl); (· (unfold sizeIs; conv => (lhs; whnf; arg 1; whnf))); (· rfl); (· rfl); (· (conv => (lhs; repeat (whnf; arg 2))))) | refine runk_end (by kernel_rfl) ?_))
theorem encN_len (n : NK) (h l h2 l2 : Int) : (encN n h l h2 l2).data.length ≤ 48 := by
  show (sgn _ _ _ _ _).length ≤ 48
  rw [sgn_length, n.b3_length]
  have := fixN_cases n.kind
  cases n.has <;> simp <;> omega
end Go.Proofs.Ytogchaijglbjaaa
