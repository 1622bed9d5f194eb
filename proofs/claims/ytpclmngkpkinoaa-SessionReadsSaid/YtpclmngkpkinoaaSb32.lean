/-
  Layer 32: SessionBack, by states.
-/
import Derived.Test.YtpclmngkpkinoaaSd32e
import Derived.Test.YtpclmngkpkinoaaAwake32
namespace Go.Proofs.Ytpclmngkpkinoaa
open Go.RowKit
theorem awake32s : Spec Try.prog 8 [] [] (.val (.bool true)) [] := spec_of_calls (vs := #[]) awake32_any
/-- Encode, whose bytes nobody writes any more. -/
theorem senc_spec (o : OpenV) (hv : validO o.a o.i o.h o.r o.g = true) : Spec Try.prog 16 [.agg o.cells] [] (.tuple [.ro (ints .u8 (encO o.a o.i o.h o.r o.g o.ag)), .val (.int .i64 0)]) [] := by
  have := encode_spec o.a o.i o.h o.r o.g o.ag hv
  exact Spec.frz2 this rfl
theorem enc_bytes {a i h r g : Int} {ag : Bool} (hv : validO a i h r g = true) : Bytes (encO a i h r g ag) := by
  obtain ⟨⟨a0, a1⟩, ⟨i0, i1⟩, ⟨h0, h1⟩, ⟨r0, r1⟩, ⟨g0, g1⟩⟩ := valid_bounds hv
  have hl := capO_len r g ag a
  have bb : ∀ x : Int, 0 ≤ x % 256 ∧ x % 256 < 256 := fun x => by omega
  intro z hz
  unfold encO at hz
  have b2 : ∀ (x : Int), z ∈ be2 x → 0 ≤ z ∧ z < 256 := fun x h => by
    simp only [be2, List.mem_cons, List.not_mem_nil, or_false] at h
    rcases h with rfl | rfl <;> exact bb _
  have b4 : ∀ (x : Int), z ∈ be4 x → 0 ≤ z ∧ z < 256 := fun x h => by
    simp only [be4, List.mem_cons, List.not_mem_nil, or_false] at h
    rcases h with rfl | rfl | rfl | rfl <;> exact bb _
  simp only [List.mem_append, List.mem_cons, List.not_mem_nil, or_false] at hz
  rcases hz with ((((rfl | hz) | hz) | hz) | rfl | rfl | rfl) | hz
  · decide
  · exact b2 _ hz
  · exact b2 _ hz
  · exact b4 _ hz
  · omega
  · decide
  · omega
  · unfold capO capA capG at hz
    simp only [List.mem_append] at hz
    rcases hz with (hz | hz) | hz
    · split at hz
      · cases hz
      · simp only [List.mem_cons, List.not_mem_nil, or_false] at hz
        omega
    · split at hz
      · simp only [List.mem_append, List.mem_cons, List.not_mem_nil, or_false] at hz
        rcases hz with (rfl | rfl) | hz
        · decide
        · decide
        · exact b2 _ hz
      · cases hz
    · rcases hz with hz | hz
      · simp only [List.mem_cons, List.not_mem_nil, or_false] at hz
        omega
      · exact b4 _ hz
theorem enc_len (a i h r g : Int) (ag : Bool) : 12 ≤ (encO a i h r g ag).length ∧ (encO a i h r g ag).length ≤ 25 := by
  have hl := capO_len r g ag a
  unfold encO
  simp [be2, be4]
  omega
theorem openD_valid (zs : List Int) (p : Nat) (asn : Int) (h0 : 1 ≤ asn) (h1 : asn ≤ 4294967295) : validO (openD zs p asn).a (openD zs p asn).i (openD zs p asn).h (openD zs p asn).r (openD zs p asn).g = true := by
  obtain ⟨r0, r1⟩ := nextV_range zs p 1073741824 (by decide)
  obtain ⟨s0, s1⟩ := nextV_range zs (nextPs zs 1 p) 5 (by decide)
  obtain ⟨t0, t1⟩ := nextV_range zs (nextPs zs 2 p) 6 (by decide)
  obtain ⟨u0, u1⟩ := nextV_range zs (nextPs zs 3 p) 5 (by decide)
  have hh : ∀ x : Int, 0 ≤ x → x < 5 → holdL.getD x.toNat 0 = 0 ∨ 3 ≤ holdL.getD x.toNat 0 ∧ holdL.getD x.toNat 0 ≤ 65535 := fun x q0 q1 => by
    rcases (show x = 0 ∨ x = 1 ∨ x = 2 ∨ x = 3 ∨ x = 4 by omega) with rfl | rfl | rfl | rfl | rfl <;> decide
  have hg : ∀ x : Int, 0 ≤ x → x < 5 → 0 ≤ graceL.getD x.toNat 0 ∧ graceL.getD x.toNat 0 ≤ 4095 := fun x q0 q1 => by
    rcases (show x = 0 ∨ x = 1 ∨ x = 2 ∨ x = 3 ∨ x = 4 by omega) with rfl | rfl | rfl | rfl | rfl <;> decide
  have q1 := hh _ s0 s1
  have q2 := hg _ u0 u1
  exact decide_eq_true ⟨h0, h1, by show 1 ≤ 1 + nextV zs p 1073741824; omega, by show 1 + nextV zs p 1073741824 ≤ _; omega, q1, by show -1 ≤ nextV zs (nextPs zs 2 p) 6 - 1; omega, by show nextV zs (nextPs zs 2 p) 6 - 1 ≤ 4; omega, q2.1, q2.2⟩
set_option maxHeartbeats 16000000 in
set_option maxRecDepth 100000 in
theorem sessionBack_all (zs : List Int) (hz : zs.length ≤ 9223372036854775807) (asn : Int) : Spec Try.prog 4 [.ro (ints .i64 zs), .val (.int .i64 asn)] [] (.val (.bool true)) [] := by
  have sn := new_spec zs
  have sw := awake32s
  have m1 := mod_spec asn 4294967295 (by decide) (by decide)
  have b1 := Int.emod_nonneg asn (show (4294967295 : Int) ≠ 0 by decide)
  have b2 := Int.emod_lt_of_pos asn (show (0 : Int) < 4294967295 by decide)
  have w1 : IntKind.i64.wrap (1 + asn % 4294967295) = 1 + asn % 4294967295 := by rw [IntKind.wrap_i64]; omega
  generalize asn % 4294967295 = k at *
  have so := open_spec zs 0 (1 + k) hz (Nat.zero_le _)
  have hv := openD_valid zs 0 (1 + k) (by omega) (by omega)
  generalize openD zs 0 (1 + k) = o at *
  have se := senc_spec o hv
  have sd := sdec_spec (encO o.a o.i o.h o.r o.g o.ag) (enc_bytes hv) (by have := (enc_len o.a o.i o.h o.r o.g o.ag).2; omega)
  rw [dec_enc hv] at sd
  have hle := enc_len o.a o.i o.h o.r o.g o.ag
  generalize encO o.a o.i o.h o.r o.g o.ag = E at *
  have d29 : decide ((E.length : Int) ≤ 29) = true := decide_eq_true (by omega)
  clear hv hle b1 b2
  unfold OpenV.cells at *
  dsimp only at sd
  obtain ⟨a, i, h, r, g, ag⟩ := o
  dsimp only at so se sd
  refine spec_of_awp Try.func4 rfl (Nat.le_of_ble_eq_true rfl) fun ini => ?_
  simp only [Try.ntmps4]
  (repeat (first | refine awp_reg_seq rfl fun k => ?_ | refine awp_exit (?_ : Awp _ _ _ _ _ _) | (refine awp_ret ?_; (apply ends_pure ?_ ?_ ?_ ?_ ?_ (.inl rfl); rotate_left 1; (· first | exact res_one rfl rfl | exact res_two rfl rfl rfl | exact res_none rfl | exact res_three rfl rfl rfl rfl | exact res_cell rfl rfl rfl rfl rfl | exact res_cell2 rfl rfl rfl rfl rfl rfl | exact res3 rfl (rv_cell rfl rfl rfl rfl) (rv_tmp rfl) (rv_tmp rfl) | exact res3 rfl (rv_cell rfl rfl rfl rfl) (rv_cell rfl rfl rfl rfl) (rv_cell rfl rfl rfl rfl)); (· first | rfl | ((conv => (lhs; whnf)); first | rfl | (simp; done))); (· first | rfl | (simp; done) | (simp [AVal.pure, AVal.pures, AObj.pure]; done)); (· rfl); (· rfl))) | (apply runk_made rfl rfl rfl ?_ ?_ ?_ ?_ ?_ ?_ ?_ ?_ ?_; rotate_left 8; (· (conv => (lhs; whnf))); (· exact Try.func9); (· rfl); (· rfl); (· exact (sn)); (· (repeat (first | exact Rens.nil | (refine Rens.cons ?_ ?_; (· first | exact Ren.own _ _ _ _ _ _ rfl List.mem_cons_self | exact Ren.own _ _ _ _ _ _ rfl (List.mem_cons_of_mem _ List.mem_cons_self) | (refine (Ren.own _ _ _ _ _ _ ?_ List.mem_cons_self); first | rfl | (simp; done)) | (refine (Ren.own _ _ _ _ _ _ ?_ (List.mem_cons_of_mem _ List.mem_cons_self)); first | rfl | (simp; done)) | exact Ren.ptr _ _ _ _ _ List.mem_cons_self | (refine Ren.pureR ?_ rfl; (first | rfl | (simp; done) | (simp [AVal.pure, AVal.pures, AObj.pure]; done)))))))); (· first | exact .one (.ptr _ _ _ _ _ List.mem_cons_self) | exact .one (.own _ _ _ _ _ _ rfl List.mem_cons_self) | exact .one (.own _ _ _ _ _ _ rfl (List.mem_cons_of_mem _ List.mem_cons_self)) | (apply RenT.tuple; (repeat (first | exact Rens.nil | (apply Rens.cons; (· first | exact Ren.own _ _ _ _ _ _ rfl List.mem_cons_self | exact Ren.own _ _ _ _ _ _ rfl (List.mem_cons_of_mem _ List.mem_cons_self) | exact Ren.ptr _ _ _ _ _ List.mem_cons_self | (refine Ren.pureR ?_ rfl; (first | rfl | (simp; done) | (simp [AVal.pure, AVal.pures, AObj.pure]; done)))))))) | (refine .one (.pure _ ?_); (first | rfl | (simp; done) | (simp [AVal.pure, AVal.pures, AObj.pure]; done)))); (· first | rfl | (simp; done) | simp [AVal.pure, AVal.pures, AObj.pure])) | (apply runk_with rfl rfl rfl ?_ ?_ ?_ ?_ ?_ ?_ ?_ ?_ ?_ ?_ ?_; rotate_left 10; (· (conv => (lhs; whnf))); (· exact Try.func11); (· rfl); (· rfl); (· exact (so)); (· (repeat (first | exact Rens.nil | (refine Rens.cons ?_ ?_; (· first | exact Ren.own _ _ _ _ _ _ rfl List.mem_cons_self | exact Ren.own _ _ _ _ _ _ rfl (List.mem_cons_of_mem _ List.mem_cons_self) | (refine (Ren.own _ _ _ _ _ _ ?_ List.mem_cons_self); first | rfl | (simp; done)) | (refine (Ren.own _ _ _ _ _ _ ?_ (List.mem_cons_of_mem _ List.mem_cons_self)); first | rfl | (simp; done)) | exact Ren.ptr _ _ _ _ _ List.mem_cons_self | (refine Ren.pureR ?_ rfl; (first | rfl | (simp; done) | (simp [AVal.pure, AVal.pures, AObj.pure]; done)))))))); (· rfl); (· first | rfl | (simp; done) | simp [AVal.pure, AVal.pures, AObj.pure]); (· first | rfl | (simp; done) | simp [AVal.pure, AVal.pures, AObj.pure]); (· first | rfl | (simp; done) | simp [AVal.pure, AVal.pures, AObj.pure])) | (apply runk_pure rfl rfl rfl ?_ ?_ ?_ ?_ ?_ ?_ ?_ ?_; rotate_left 6; (· (conv => (lhs; whnf))); (· exact Try.func13); (· rfl); (· rfl); (· exact (m1)); (· (repeat (first | exact Rens.nil | (refine Rens.cons ?_ ?_; (· first | exact Ren.own _ _ _ _ _ _ rfl List.mem_cons_self | exact Ren.own _ _ _ _ _ _ rfl (List.mem_cons_of_mem _ List.mem_cons_self) | (refine (Ren.own _ _ _ _ _ _ ?_ List.mem_cons_self); first | rfl | (simp; done)) | (refine (Ren.own _ _ _ _ _ _ ?_ (List.mem_cons_of_mem _ List.mem_cons_self)); first | rfl | (simp; done)) | exact Ren.ptr _ _ _ _ _ List.mem_cons_self | (refine Ren.pureR ?_ rfl; (first | rfl | (simp; done) | (simp [AVal.pure, AVal.pures, AObj.pure]; done)))))))); (· first | rfl | (simp; done) | simp [AVal.pure, AVal.pures, AObj.pure])) | (apply runk_pure rfl rfl rfl ?_ ?_ ?_ ?_ ?_ ?_ ?_ ?_; rotate_left 6; (· (conv => (lhs; whnf))); (· exact Try.func16); (· rfl); (· rfl); (· exact (se)); (· (repeat (first | exact Rens.nil | (refine Rens.cons ?_ ?_; (· first | exact Ren.own _ _ _ _ _ _ rfl List.mem_cons_self | exact Ren.own _ _ _ _ _ _ rfl (List.mem_cons_of_mem _ List.mem_cons_self) | (refine (Ren.own _ _ _ _ _ _ ?_ List.mem_cons_self); first | rfl | (simp; done)) | (refine (Ren.own _ _ _ _ _ _ ?_ (List.mem_cons_of_mem _ List.mem_cons_self)); first | rfl | (simp; done)) | exact Ren.ptr _ _ _ _ _ List.mem_cons_self | (refine Ren.pureR ?_ rfl; (first | rfl | (simp; done) | (simp [AVal.pure, AVal.pures, AObj.pure]; done)))))))); (· first | rfl | (simp; done) | simp [AVal.pure, AVal.pures, AObj.pure])) | (apply runk_pure rfl rfl rfl ?_ ?_ ?_ ?_ ?_ ?_ ?_ ?_; rotate_left 6; (· (conv => (lhs; whnf))); (· exact Try.func14); (· rfl); (· rfl); (· exact (sd)); (· (repeat (first | exact Rens.nil | (refine Rens.cons ?_ ?_; (· first | exact Ren.own _ _ _ _ _ _ rfl List.mem_cons_self | exact Ren.own _ _ _ _ _ _ rfl (List.mem_cons_of_mem _ List.mem_cons_self) | (refine (Ren.own _ _ _ _ _ _ ?_ List.mem_cons_self); first | rfl | (simp; done)) | (refine (Ren.own _ _ _ _ _ _ ?_ (List.mem_cons_of_mem _ List.mem_cons_self)); first | rfl | (simp; done)) | exact Ren.ptr _ _ _ _ _ List.mem_cons_self | (refine Ren.pureR ?_ rfl; (first | rfl | (simp; done) | (simp [AVal.pure, AVal.pures, AObj.pure]; done)))))))); (· first | rfl | (simp; done) | simp [AVal.pure, AVal.pures, AObj.pure])) | (apply runk_pure rfl rfl rfl ?_ ?_ ?_ ?_ ?_ ?_ ?_ ?_; rotate_left 6; (· (conv => (lhs; whnf))); (· exact Try.func8); (· rfl); (· rfl); (· exact (sw)); (· (repeat (first | exact Rens.nil | (refine Rens.cons ?_ ?_; (· first | exact Ren.own _ _ _ _ _ _ rfl List.mem_cons_self | exact Ren.own _ _ _ _ _ _ rfl (List.mem_cons_of_mem _ List.mem_cons_self) | (refine (Ren.own _ _ _ _ _ _ ?_ List.mem_cons_self); first | rfl | (simp; done)) | (refine (Ren.own _ _ _ _ _ _ ?_ (List.mem_cons_of_mem _ List.mem_cons_self)); first | rfl | (simp; done)) | exact Ren.ptr _ _ _ _ _ List.mem_cons_self | (refine Ren.pureR ?_ rfl; (first | rfl | (simp; done) | (simp [AVal.pure, AVal.pures, AObj.pure]; done)))))))); (· first | rfl | (simp; done) | simp [AVal.pure, AVal.pures, AObj.pure])) | (first | refine runk_ung rfl rfl rfl rfl ?_ | refine runk_ung rfl rfl rfl (by assumption) ?_) | (apply runk0 rfl rfl (opok_move rfl ?_) ?_; rotate_left 1; (· (conv => (lhs; whnf)))) | (apply runk0 rfl rfl (opok_assign rfl ?_) ?_; rotate_left 1; (· (conv => (lhs; whnf)))) | (apply runk0 rfl rfl (opok_loadA rfl ?_ ?_ ?_ ?_ ?_ ?_) ?_; rotate_left 6; (· (conv => (lhs; whnf))); (· (conv => (lhs; whnf; arg 1; whnf; arg 2; whnf))); (· rfl); (· (unfold sizeIs; conv => (lhs; whnf; arg 1; whnf))); (· (conv => (lhs; repeat (whnf; arg 2)))); (· rfl)) | (apply runk0 rfl rfl (opok_bin rfl ?_ ?_ ?_) ?_; rotate_left 3; (· (conv => (lhs; whnf))); (· (conv => (lhs; whnf))); (· (intro w; go_simp; first | done | rfl))) | (first | (apply runk0 rfl rfl (opok_lenO rfl ?_ ?_ ?_) ?_; rotate_left 5; (· (conv => (lhs; whnf))); (· (conv => (lhs; whnf; arg 1; whnf))); (· first | exact length_ints _ _ | rfl)) | (apply runk0 rfl rfl (opok_len_own rfl ?_ ?_) ?_; rotate_left 4; (· (conv => (lhs; whnf))); (· (conv => (lhs; whnf; arg 1; whnf)))) | (apply runk0 rfl rfl (opok_len rfl ?_ ?_ ?_) ?_; rotate_left 3; (· (conv => (lhs; whnf))); (· (conv => (lhs; whnf; arg 1; whnf))); (· first | exact length_ints _ _ | rfl))) | (apply runk0 rfl rfl (opok_binA rfl ?_ ?_ ?_ ?_ ?_) ?_; rotate_left 5; (· (conv => (lhs; whnf))); (· (repeat (first | exact ValsAre.nil | apply ValsAre.cons))); (· (conv => (lhs; whnf))); (· (repeat (first | exact ValsAre.nil | apply ValsAre.cons))); (· (intro w; go_simp; first | done | rfl))) | (apply runk0 rfl rfl (opok_pick rfl ?_ ?_) ?_; rotate_left 2; (· (conv => (lhs; whnf))); (· first | exact pick_or | exact pick_and | (conv => (lhs; whnf)))) | (apply runk0 rfl rfl (opok_extract rfl ?_ ?_) ?_; rotate_left 2; (· (conv => (lhs; whnf))); (· (conv => (lhs; whnf; arg 1; whnf)))) | (apply runk_alloc rfl rfl rfl ?_ ?_ ?_; rotate_left 2; (· (conv => (lhs; whnf; arg 1; whnf))); (· (conv => (lhs; whnf)))) | (apply runk_store rfl rfl rfl ?_ ?_ ?_ ?_ ?_ ?_ ?_ ?_ ?_ ?_ ?_; rotate_left 9; (· (conv => (lhs; whnf))); (· (conv => (lhs; whnf))); (· (conv => (lhs; whnf; arg 1; whnf; arg 2; whnf))); (· rfl); (· (conv => (lhs; whnf))); (· rfl); (· (unfold sizeIs; conv => (lhs; whnf; arg 1; whnf))); (· rfl); (· rfl); (· (conv => (lhs; repeat (whnf; arg 2))))) | refine runk_end (by kernel_rfl) ?_))
  done
end Go.Proofs.Ytpclmngkpkinoaa
