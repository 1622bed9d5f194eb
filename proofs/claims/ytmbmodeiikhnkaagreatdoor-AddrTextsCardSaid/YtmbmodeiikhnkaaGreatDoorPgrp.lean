/-
  addr.printGroups, by states.
-/
import Derived.Test.YtmbmodeiikhnkaaGreatDoorFmt16
namespace Go.Proofs.YtmbmodeiikhnkaaGreatDoor
open Go.RowKit
theorem join_nil (sep : List UInt8) : Spec Tryz.prog 15 [.val (.slice none 0 0), .val (bstr sep)] [] (.val (bstr [])) [] :=
  spec_belowV (timeless_val _) fun ψ prot w cargs hV hk hsz hargs => by
    obtain rfl := two_vals hsz hargs
    refine (Tryz.strings_Join_none none 0 ⟨sep.toArray⟩ w).mono ?_
    rintro e w' ⟨rfl, rfl⟩
    exact ⟨_, rfl, .val _, Below.refl _ _⟩
theorem join_own (ls : List (List UInt8)) (sep : List UInt8) (hN : ls.length ≤ 140737488355328) (hlen : (Lib.join ls sep).length ≤ 140737488355328) : Spec Tryz.prog 15 [.own 0 0 (strL ls).length, .val (bstr sep)] [(0, some (0, .row 9 1 (strL ls)))] (.val (bstr (Lib.join ls sep))) [(0, some (0, .row 9 1 (strL ls)))] :=
  spec_lendT (timeless_val _) (by rfl) (fun i y hi => by
    match i, hi with
    | 0, hi => cases hi; exact ⟨_, rfl, .one (.own _ rfl)⟩
    | 1, hi => cases hi; exact ⟨_, rfl, .one (.same _)⟩) (join_spec ls sep hN hlen)
def nats (xs : List Nat) : List Int := xs.map fun x : Nat => (x : Int)
set_option maxHeartbeats 8000000 in
set_option maxRecDepth 100000 in
theorem pgrp_spec (xs : List Nat) (hb : ∀ x ∈ xs, x < 65536) (hl : xs.length ≤ 8) (hj : (Lib.join (xs.map hexL) [58]).length ≤ 140737488355328) : Spec Tryz.prog 43 [.ro (ints .u16 (nats xs))] [] (.val (bstr (Lib.join (xs.map hexL) [58]))) [] := by
  have hlen : (nats xs).length = xs.length := by simp [nats]
  refine spec_of_awp Tryz.func43 rfl (Nat.le_of_ble_eq_true rfl) fun ini => ?_
  simp only [Tryz.ntmps43]
  (repeat (first | refine awp_reg_seq rfl fun k => ?_ | refine awp_seq ?_ | refine awp_block ?_ | (apply runk0 rfl rfl (opok_move rfl ?_) ?_; rotate_left 1; (· (conv => (lhs; whnf)))) | (apply runk0 rfl rfl (opok_assign rfl ?_) ?_; rotate_left 1; (· (conv => (lhs; whnf)))) | (((apply runk0 rfl rfl (opok_len rfl ?_ ?_ ?_) ?_; rotate_left 3; (· (conv => (lhs; whnf))); (· (conv => (lhs; whnf; arg 1; whnf))); (· (exact length_ints _ _))))) | refine runk_end (by kernel_rfl) ?_))
  refine awp_loop (fun m st => ∃ i : Nat, i + m = xs.length ∧ (i = 0 ∧ st.leB ⟨[(3, .val (.slice none 0 0)), (6, .ro (ints .u16 (nats xs))), (7, .val (.int .i64 (xs.length : Int))), (8, .val (.int .i64 0))], []⟩ ∨
    0 < i ∧ ∃ kk, st.leB ⟨[(3, .own 3 kk (strL ((xs.take i).map hexL)).length), (6, .ro (ints .u16 (nats xs))), (7, .val (.int .i64 (xs.length : Int))), (8, .val (.int .i64 (i : Int)))], [(3, some (kk, .row 9 1 (strL ((xs.take i).map hexL))))]⟩)) xs.length ⟨0, by rw [Nat.zero_add], .inl ⟨rfl, ?_⟩⟩ ?_
  · (refine leB_of ?_ ?_; (· (repeat (first | exact EnvIs.nil | (refine EnvIs.cons ?_ ?_; (· first | rfl | ((conv => (lhs; whnf)); first | (simp [ints, hlen]; done) | (simp [ints, hlen]; omega))))))); (· (repeat (first | exact ObjsAre.nil | (refine ObjsAre.cons ?_ ?_; (· first | rfl | ((conv => (lhs; whnf)); first | (simp [ints, hlen]; done) | (simp [ints, hlen]; omega))))))))
  · rintro m st ⟨i, hi, ⟨h0, hle⟩ | ⟨h0, kk, hle⟩⟩
    · subst h0
      refine awp_less hle ?_
      clear hle st
      (repeat (first | refine awp_reg_seq rfl fun k => ?_ | refine awp_seq ?_ | (apply runk0 rfl rfl (opok_bin rfl ?_ ?_ ?_) ?_; rotate_left 3; (· (conv => (lhs; whnf))); (· (conv => (lhs; whnf))); (· (intro w; go_simp; first | done | rfl))) | refine runk_end (by kernel_rfl) ?_))
      refine awp_if rfl (fun hc => ?_) (fun hc => ?_)
      · have hlt : 0 < xs.length := by simpa using hc
        obtain ⟨x, hx⟩ : ∃ x, xs[0] = x := ⟨_, rfl⟩
        have hx2 : x < 65536 := hb x (hx ▸ List.getElem_mem _)
        have hxi : (ints .u16 (nats xs))[0]? = some (.val (.int .u16 (x : Int))) := by
          rw [ints_get]
          simp [nats, List.getElem?_eq_getElem hlt, hx]
        have wx : IntKind.u64.wrap (x : Int) = (x : Int) := by rw [IntKind.wrap_u64]; omega
        have w1 : IntKind.i64.wrap 1 = 1 := by decide
        have f := fmt16_spec x hx2
        (repeat (first | refine awp_reg_seq rfl fun k => ?_ | refine awp_reg rfl fun k => ?_ | refine awp_seq ?_ | refine awp_skip (?_ : Awp _ _ _ _ _ _) | refine awp_block ?_ | (apply runk_pure rfl rfl rfl ?_ ?_ ?_ ?_ ?_ ?_ ?_ ?_; rotate_left 6; (· (conv => (lhs; whnf))); (· exact Tryz.func24); (· rfl); (· rfl); (· exact (f)); (· (repeat (first | exact Rens.nil | (refine Rens.cons ?_ ?_; (· ((refine Ren.pureR ?_ rfl; (rfl)))))))); (· rfl)) | (apply runk0 rfl rfl (opok_move rfl ?_) ?_; rotate_left 1; (· (conv => (lhs; whnf)))) | (apply runk_assignOwn rfl rfl rfl ?_ ?_ ?_; rotate_left 4; (· (conv => (lhs; whnf))); (· (conv => (lhs; whnf; arg 1; whnf)))) | (apply runk0 rfl rfl (opok_assign rfl ?_) ?_; rotate_left 1; (· (conv => (lhs; whnf)))) | (((apply runk0 rfl rfl (opok_loadR rfl ?_ ?_ ?_) ?_; rotate_left 2; (· (conv => (lhs; whnf))); (· rfl); (· (conv => (lhs; whnf; arg 1; whnf)))))) | (apply runk0 rfl rfl (opok_bin rfl ?_ ?_ ?_) ?_; rotate_left 3; (· (conv => (lhs; whnf))); (· (conv => (lhs; whnf))); (· (intro w; go_simp; rfl))) | (apply runk0 rfl rfl (opok_conv rfl ?_ ?_) ?_; rotate_left 2; (· (conv => (lhs; whnf))); (· (intro w; go_simp; rfl))) | (apply runk_lit rfl rfl rfl ?_ ?_ ?_ ?_ ?_ ?_ ?_ ?_ ?_ ?_ ?_; rotate_left 4; (· (conv => (lhs; whnf; arg 1; whnf))); (· (unfold sizeIs; conv => (lhs; whnf; arg 1; whnf))); (· (conv => (lhs; whnf; arg 1; whnf))); (· rfl); (· rfl); (· rfl); (· rfl); (· (repeat (first | exact PartsAre.nil _ | (apply PartsAre.cons; (· (conv => (lhs; whnf))))))); (· rfl); (· rfl)) | refine runk_end (by kernel_rfl) ?_ | (apply runk0 rfl rfl (opok_index_ro rfl ?_ ?_ ?_ ?_ ?_ ?_ ?_) ?_; rotate_left 6; (· (conv => (lhs; whnf))); (· (conv => (lhs; whnf))); (· (conv => (lhs; whnf; arg 1; whnf))); (· (unfold sizeIs; conv => (lhs; whnf; arg 1; whnf))); (· (exact widths_ints _ _)); (· omega); (· assumption)) | (apply runk_app rfl rfl rfl ?_ ?_ ?_ ?_ ?_ ?_ ?_ ?_ ?_ ?_ ?_ ?_ ?_ ?_ ?_ ?_; rotate_left 11; (· (conv => (lhs; whnf))); (· (conv => (lhs; whnf))); (· (conv => (lhs; whnf; arg 1; whnf))); (· (unfold sizeIs; conv => (lhs; whnf; arg 1; whnf))); (· (conv => (lhs; whnf; arg 1; whnf))); (· (conv => (lhs; whnf; arg 1; whnf))); (· rfl); (· rfl); (· rfl); (· (exact .nil)); (· ((refine .own _ _ _ _ _ _ rfl ?_; rfl))); (· rfl); (· rfl); (· ((simp; done))); (· ((simp only [List.nil_append, ints_takeR, ints_dropR, ints_one, ints_consR, ints_append]; rfl))))))
        have ht : strL ((xs.take 1).map hexL) = [.val (bstr (hexL x))] := by
          rw [show 1 = 0 + 1 from rfl, List.take_add_one, List.getElem?_eq_getElem hlt, hx]
          rfl
        rename_i kz
        refine ⟨m - 1, by omega, 1, by omega, .inr ⟨by omega, kz, ?_⟩⟩
        rw [ht]
        (refine leB_of ?_ ?_; (· (repeat (first | exact EnvIs.nil | (refine EnvIs.cons ?_ ?_; (· first | rfl | ((conv => (lhs; whnf)); first | (simp [ints]; done) | (simp [ints]; omega))))))); (· (repeat (first | exact ObjsAre.nil | (refine ObjsAre.cons ?_ ?_; (· first | rfl | ((conv => (lhs; whnf)); first | (simp [ints]; done) | (simp [ints]; omega))))))))
      · have hie : xs = [] := by
          cases xs with
          | nil => rfl
          | cons a b => simp at hc
        subst hie
        have jn := join_nil [58]
        refine awp_exit (?_ : Awp _ _ _ _ _ _)
        (repeat (first | refine awp_reg_seq rfl fun k => ?_ | (refine awp_ret ?_; (apply ends_pure ?_ ?_ ?_ ?_ ?_ (.inl rfl); rotate_left 1; (· (exact res_one rfl rfl)); (· rfl); (· rfl); (· rfl); (· rfl))) | (apply runk_pure rfl rfl rfl ?_ ?_ ?_ ?_ ?_ ?_ ?_ ?_; rotate_left 6; (· (conv => (lhs; whnf))); (· exact Tryz.func15); (· rfl); (· rfl); (· exact (jn)); (· (repeat (first | exact Rens.nil | (refine Rens.cons ?_ ?_; (· ((refine Ren.pureR ?_ rfl; (rfl)))))))); (· rfl)) | (apply runk0 rfl rfl (opok_move rfl ?_) ?_; rotate_left 1; (· (conv => (lhs; whnf)))) | (apply runk0 rfl rfl (opok_assign rfl ?_) ?_; rotate_left 1; (· (conv => (lhs; whnf)))) | refine runk_end (by kernel_rfl) ?_))
    · refine awp_less hle ?_
      clear hle st
      (repeat (first | refine awp_reg_seq rfl fun k => ?_ | refine awp_seq ?_ | (apply runk0 rfl rfl (opok_bin rfl ?_ ?_ ?_) ?_; rotate_left 3; (· (conv => (lhs; whnf))); (· (conv => (lhs; whnf))); (· (intro w; go_simp; first | done | rfl))) | refine runk_end (by kernel_rfl) ?_))
      refine awp_if rfl (fun hc => ?_) (fun hc => ?_)
      · have hlt : i < xs.length := by simpa using hc
        obtain ⟨x, hx⟩ : ∃ x, xs[i] = x := ⟨_, rfl⟩
        have hx2 : x < 65536 := hb x (hx ▸ List.getElem_mem _)
        have hxi : (ints .u16 (nats xs))[i]? = some (.val (.int .u16 (x : Int))) := by
          rw [ints_get]
          simp [nats, List.getElem?_eq_getElem hlt, hx]
        have wx : IntKind.u64.wrap (x : Int) = (x : Int) := by rw [IntKind.wrap_u64]; omega
        have hwn : IntKind.i64.wrap ((i : Int) + 1) = ((i + 1 : Nat) : Int) := by rw [IntKind.wrap_i64]; omega
        have f := fmt16_spec x hx2
        have ht : strL ((xs.take (i + 1)).map hexL) = strL ((xs.take i).map hexL) ++ [.val (bstr (hexL x))] := by
          rw [List.take_add_one, List.getElem?_eq_getElem hlt, hx, List.map_append, strL_append]
          rfl
        have hls : (strL ((xs.take i).map hexL)).length ≤ 8 := by simp; omega
        generalize strL ((xs.take i).map hexL) = ss at *
        (repeat (first | refine awp_reg_seq rfl fun k => ?_ | refine awp_reg rfl fun k => ?_ | refine awp_seq ?_ | refine awp_skip (?_ : Awp _ _ _ _ _ _) | refine awp_block ?_ | (apply runk_pure rfl rfl rfl ?_ ?_ ?_ ?_ ?_ ?_ ?_ ?_; rotate_left 6; (· (conv => (lhs; whnf))); (· exact Tryz.func24); (· rfl); (· rfl); (· exact (f)); (· (repeat (first | exact Rens.nil | (refine Rens.cons ?_ ?_; (· ((refine Ren.pureR ?_ rfl; (rfl)))))))); (· rfl)) | (apply runk0 rfl rfl (opok_move rfl ?_) ?_; rotate_left 1; (· (conv => (lhs; whnf)))) | (apply runk_assignOwn rfl rfl rfl ?_ ?_ ?_; rotate_left 4; (· (conv => (lhs; whnf))); (· (conv => (lhs; whnf; arg 1; whnf)))) | (apply runk0 rfl rfl (opok_assign rfl ?_) ?_; rotate_left 1; (· (conv => (lhs; whnf)))) | (((apply runk0 rfl rfl (opok_loadR rfl ?_ ?_ ?_) ?_; rotate_left 2; (· (conv => (lhs; whnf))); (· rfl); (· (conv => (lhs; whnf; arg 1; whnf)))))) | (apply runk0 rfl rfl (opok_bin rfl ?_ ?_ ?_) ?_; rotate_left 3; (· (conv => (lhs; whnf))); (· (conv => (lhs; whnf))); (· (intro w; go_simp; rfl))) | (apply runk0 rfl rfl (opok_conv rfl ?_ ?_) ?_; rotate_left 2; (· (conv => (lhs; whnf))); (· (intro w; go_simp; rfl))) | (apply runk_lit rfl rfl rfl ?_ ?_ ?_ ?_ ?_ ?_ ?_ ?_ ?_ ?_ ?_; rotate_left 4; (· (conv => (lhs; whnf; arg 1; whnf))); (· (unfold sizeIs; conv => (lhs; whnf; arg 1; whnf))); (· (conv => (lhs; whnf; arg 1; whnf))); (· rfl); (· rfl); (· rfl); (· rfl); (· (repeat (first | exact PartsAre.nil _ | (apply PartsAre.cons; (· (conv => (lhs; whnf))))))); (· rfl); (· rfl)) | refine runk_end (by kernel_rfl) ?_ | (apply runk0 rfl rfl (opok_index_ro rfl ?_ ?_ ?_ ?_ ?_ ?_ ?_) ?_; rotate_left 6; (· (conv => (lhs; whnf))); (· (conv => (lhs; whnf))); (· (conv => (lhs; whnf; arg 1; whnf))); (· (unfold sizeIs; conv => (lhs; whnf; arg 1; whnf))); (· (exact widths_ints _ _)); (· omega); (· assumption)) | (apply runk_app rfl rfl rfl ?_ ?_ ?_ ?_ ?_ ?_ ?_ ?_ ?_ ?_ ?_ ?_ ?_ ?_ ?_ ?_; rotate_left 11; (· (conv => (lhs; whnf))); (· (conv => (lhs; whnf))); (· (conv => (lhs; whnf; arg 1; whnf))); (· (unfold sizeIs; conv => (lhs; whnf; arg 1; whnf))); (· (conv => (lhs; whnf; arg 1; whnf))); (· (conv => (lhs; whnf; arg 1; whnf))); (· rfl); (· rfl); (· rfl); (· ((refine .own _ _ _ _ rfl ?_; rfl))); (· ((refine .own _ _ _ _ _ _ rfl ?_; rfl))); (· rfl); (· rfl); (· ((simp; omega))); (· rfl))))
        rename_i kz
        refine ⟨m - 1, by omega, i + 1, by omega, .inr ⟨by omega, kz, ?_⟩⟩
        rw [ht]
        (refine leB_of ?_ ?_; (· (repeat (first | exact EnvIs.nil | (refine EnvIs.cons ?_ ?_; (· first | rfl | ((conv => (lhs; whnf)); first | (simp [ints]; done) | (simp [ints]; omega))))))); (· (repeat (first | exact ObjsAre.nil | (refine ObjsAre.cons ?_ ?_; (· first | rfl | ((conv => (lhs; whnf)); first | (simp [ints]; done) | (simp [ints]; omega))))))))
      · have hie : i = xs.length := by simp at hc; omega
        subst hie
        have jo := join_own (xs.map hexL) [58] (by simp; omega) hj
        rw [List.take_length]
        refine awp_exit (?_ : Awp _ _ _ _ _ _)
        (repeat (first | refine awp_reg_seq rfl fun k => ?_ | (refine awp_ret ?_; (apply ends_pure ?_ ?_ ?_ ?_ ?_ (.inl rfl); rotate_left 1; (· (exact res_one rfl rfl)); (· rfl); (· rfl); (· rfl); (· rfl))) | (apply runk_with rfl rfl rfl ?_ ?_ ?_ ?_ ?_ ?_ ?_ ?_ ?_ ?_ ?_; rotate_left 10; (· (conv => (lhs; whnf))); (· exact Tryz.func15); (· rfl); (· rfl); (· exact (jo)); (· (repeat (first | exact Rens.nil | (refine Rens.cons ?_ ?_; (· first | exact Ren.own _ _ _ _ _ _ rfl List.mem_cons_self | (refine Ren.pureR ?_ rfl; (rfl))))))); (· rfl); (· rfl); (· (simp [AVal.pure, AVal.pures, AObj.pure])); (· (simp [AVal.pure, AVal.pures, AObj.pure]))) | (apply runk0 rfl rfl (opok_move rfl ?_) ?_; rotate_left 1; (· (conv => (lhs; whnf)))) | (apply runk0 rfl rfl (opok_assign rfl ?_) ?_; rotate_left 1; (· (conv => (lhs; whnf)))) | refine runk_end (by kernel_rfl) ?_))
end Go.Proofs.YtmbmodeiikhnkaaGreatDoor
