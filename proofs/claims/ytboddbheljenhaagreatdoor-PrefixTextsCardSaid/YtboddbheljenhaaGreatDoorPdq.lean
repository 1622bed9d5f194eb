/-
  Layer 2: the reference's Parse of any text (ref02.Parse).
-/
import Derived.Test.YtboddbheljenhaaGreatDoorG18
import Derived.Test.YtboddbheljenhaaGreatDoorPdp
import Derived.Test.YtboddbheljenhaaGreatDoorMkA
import Derived.Test.YtboddbheljenhaaGreatDoorRpo
namespace Go.Proofs.YtboddbheljenhaaGreatDoor
open Go.RowKit
theorem lastidx_spec (l : List UInt8) (hl : l.length ≤ 100000) : Spec Tryz.prog 61 [.val (bstr l), .val (.int .u8 47)] [] (.val (.int .i64 (Lib.lastIndexByte ⟨l.toArray⟩ 47))) [] :=
  spec_belowV (timeless_val _) fun ψ prot w cargs hV hk hsz hargs => by
    obtain rfl := two_vals hsz hargs
    have hs : (⟨l.toArray⟩ : ByteArray).size = l.length := rfl
    refine (Tryz.strings_LastIndexByte ⟨l.toArray⟩ 47 (by rw [hs]; omega) w).mono ?_
    rintro e w' ⟨rfl, rfl⟩
    exact ⟨_, rfl, .val _, Below.refl _ _⟩
theorem last47 (l : List UInt8) : Lib.lastIndexByte ⟨l.toArray⟩ 47 = -1 ∧ (47 : UInt8) ∉ l ∨ ∃ H T : List UInt8, l = H ++ 47 :: T ∧ Lib.lastIndexByte ⟨l.toArray⟩ 47 = (H.length : Int) := by
  have hs : (⟨l.toArray⟩ : ByteArray).size = l.length := rfl
  have hg : ∀ j, j < l.length → (⟨l.toArray⟩ : ByteArray).data[j]! = l.getD j 0 := fun j hj => by
    simp [List.getD_eq_getElem?_getD, List.getElem?_eq_getElem hj, hj]
  rcases Lib.lastIndexByte_spec ⟨l.toArray⟩ 47 with ⟨e, hn⟩ | ⟨i, hi, e, hc, -⟩
  · refine .inl ⟨e, fun hm => ?_⟩
    obtain ⟨j, hj, hje⟩ := List.getElem_of_mem hm
    refine hn j (by rw [hs]; exact hj) ?_
    rw [hg j hj, List.getD_eq_getElem?_getD, List.getElem?_eq_getElem hj, hje]
    rfl
  · rw [hs] at hi
    rw [hg i hi, List.getD_eq_getElem?_getD, List.getElem?_eq_getElem hi] at hc
    have h47 : l[i] = 47 := UInt8.toNat_inj.1 (by
      have : (47 : UInt8).toNat = 47 := rfl
      simp at hc
      omega)
    refine .inr ⟨l.take i, l.drop (i + 1), ?_, by rw [e, List.length_take]; congr 1; omega⟩
    rw [← h47, ← List.drop_eq_getElem_cons hi, List.take_append_drop]
theorem numOf_snoc (l : List UInt8) (x : UInt8) : numOf 0 (l ++ [x]) = numOf 0 l * 10 + (x.toNat - 48) := by
  rw [numOf_append]
  rfl
attribute [local irreducible] eqQ
set_option maxHeartbeats 16000000 in
set_option maxRecDepth 100000 in
theorem rpp_none (l : List UInt8) (hl : l.length ≤ 100000) (h : Lib.lastIndexByte ⟨l.toArray⟩ 47 = -1) : Spec Tryz.prog 38 [.val (bstr l)] [] (errP 2) [] := by
  have li := lastidx_spec l hl
  rw [h] at li
  unfold errP
  refine spec_of_awp Tryz.func38 rfl (Nat.le_of_ble_eq_true rfl) fun ini => ?_
  simp only [Tryz.ntmps38]
  (repeat (first | refine awp_reg_seq rfl fun k => ?_ | refine awp_seq ?_ | refine awp_true rfl ?_ | (refine awp_ret ?_; (apply ends_pure ?_ ?_ ?_ ?_ ?_ (.inl rfl); rotate_left 1; (· (exact res_cell2 rfl rfl rfl rfl rfl rfl)); (· rfl); (· rfl); (· rfl); (· rfl))) | (apply runk_pure rfl rfl rfl ?_ ?_ ?_ ?_ ?_ ?_ ?_ ?_; rotate_left 6; (· (conv => (lhs; whnf))); (· exact Tryz.func61); (· rfl); (· rfl); (· exact (li)); (· (repeat (first | exact Rens.nil | (refine Rens.cons ?_ ?_; (· ((refine Ren.pureR ?_ rfl; (rfl)))))))); (· rfl)) | ((refine runk_off rfl rfl rfl rfl rfl ?_)) | (apply runk0 rfl rfl (opok_move rfl ?_) ?_; rotate_left 1; (· (conv => (lhs; whnf)))) | (apply runk0 rfl rfl (opok_assign rfl ?_) ?_; rotate_left 1; (· (conv => (lhs; whnf)))) | (apply runk0 rfl rfl (opok_bin rfl ?_ ?_ ?_) ?_; rotate_left 3; (· (conv => (lhs; whnf))); (· (conv => (lhs; whnf))); (· (intro w; go_simp; rfl))) | (apply runk0 rfl rfl (opok_pick rfl ?_ ?_) ?_; rotate_left 2; (· (conv => (lhs; whnf))); (· ((conv => (lhs; whnf))))) | (apply runk0 rfl rfl (opok_build rfl ?_ ?_ ?_ ?_ ?_) ?_; rotate_left 5; (· (conv => (lhs; whnf; arg 1; whnf))); (· (conv => (lhs; whnf; arg 1; repeat (whnf; arg 2)))); (· (conv => (lhs; whnf; arg 1; whnf))); (· (repeat ((exact PartsOf.nil)))); (· (conv => (lhs; whnf; arg 1; repeat (whnf; arg 2))))) | (apply runk_alloc rfl rfl rfl ?_ ?_ ?_; rotate_left 2; (· (conv => (lhs; whnf; arg 1; whnf))); (· (conv => (lhs; whnf)))) | (apply runk_store rfl rfl rfl ?_ ?_ ?_ ?_ ?_ ?_ ?_ ?_ ?_ ?_ ?_; rotate_left 9; (· (conv => (lhs; whnf))); (· (conv => (lhs; whnf))); (· (conv => (lhs; whnf; arg 1; whnf; arg 2; whnf))); (· rfl); (· (conv => (lhs; whnf))); (· rfl); (· (unfold sizeIs; conv => (lhs; whnf; arg 1; whnf))); (· rfl); (· rfl); (· (conv => (lhs; repeat (whnf; arg 2))))) | refine runk_end (by kernel_rfl) ?_))
set_option maxHeartbeats 16000000 in
set_option maxRecDepth 100000 in
theorem rpp_some (l H T : List UInt8) (hl : l.length ≤ 100000) (hlt : l = H ++ 47 :: T) (h : Lib.lastIndexByte ⟨l.toArray⟩ 47 = (H.length : Int)) : Spec Tryz.prog 38 [.val (bstr l)] [] (pfV H T) [] := by
  have li := lastidx_spec l hl
  rw [h] at li
  obtain ⟨i, hi⟩ : ∃ i, H.length = i := ⟨_, rfl⟩
  obtain ⟨j, hj⟩ : ∃ j, i + 1 = j := ⟨_, rfl⟩
  have hlen : l.length = H.length + (T.length + 1) := by rw [hlt, List.length_append, List.length_cons]
  have eH : l.take i = H := by rw [hlt, ← hi]; exact List.take_left
  have eT : (l.drop j).take (l.length - j) = T := by
    have : l.drop j = T := by
      rw [hlt, ← hj, ← hi, ← List.drop_drop, List.drop_left]
      rfl
    rw [this]
    exact List.take_of_length_le (by omega)
  have d1 : decide ((i : Int) < 0) = false := decide_eq_false (by omega)
  have wj : IntKind.i64.wrap ((i : Int) + 1) = (j : Int) := by rw [IntKind.wrap_i64]; omega
  have hil : i ≤ l.length := by omega
  have hjl : j ≤ l.length := by omega
  have dg := rdigits_spec T (by omega)
  have pr := rparse_spec H (by omega)
  have hTl : T.length ≤ 100000 := by omega
  rw [hi] at li
  rw [← eT] at dg
  rw [eT] at dg
  unfold prsV at pr
  clear h hlt hlen hi
  cases eD : canD T with
  | false =>
    rw [eD, ← eT] at dg
    rw [pfV_bad eD]
    unfold errP
    clear pr
    refine spec_of_awp Tryz.func38 rfl (Nat.le_of_ble_eq_true rfl) fun ini => ?_
    simp only [Tryz.ntmps38]
    (repeat (first | refine awp_reg_seq rfl fun k => ?_ | refine awp_seq ?_ | refine awp_true rfl ?_ | (refine awp_ret ?_; (apply ends_pure ?_ ?_ ?_ ?_ ?_ (.inl rfl); rotate_left 1; (· (exact res_cell2 rfl rfl rfl rfl rfl rfl)); (· rfl); (· rfl); (· rfl); (· rfl))) | (apply runk_pure rfl rfl rfl ?_ ?_ ?_ ?_ ?_ ?_ ?_ ?_; rotate_left 6; (· (conv => (lhs; whnf))); (· exact Tryz.func61); (· rfl); (· rfl); (· exact (li)); (· (repeat (first | exact Rens.nil | (refine Rens.cons ?_ ?_; (· ((refine Ren.pureR ?_ rfl; (rfl)))))))); (· rfl)) | (apply runk_guard rfl rfl ?_ rfl ?_ ?_; rotate_left 3; (· (conv => (lhs; whnf))); (· (intro hb; (try rw [hb]); apply opok_pure rfl ?_ ?_ ?_ ?_ ?_ ?_ ?_; rotate_left 6; (· (conv => (lhs; whnf))); (· exact Tryz.func62); (· rfl); (· rfl); (· exact (dg)); (· (repeat (first | exact Rens.nil | (refine Rens.cons ?_ ?_; (· ((refine Ren.pureR ?_ rfl; (rfl)))))))); (· rfl)))) | (((((apply runk0 rfl rfl (opok_sslice _ _ rfl ?_ rfl ?_ ?_ ?_ ?_) ?_; rotate_left 3; (· ((conv => (lhs; whnf)); try exact rfl)); (· (exact .inr ⟨_, _, rfl, rfl⟩)); (· (exact .inl ⟨rfl, rfl⟩)); (· omega); (· omega)))))) | ((refine runk_ung rfl rfl rfl rfl ?_)) | (apply runk0 rfl rfl (opok_move rfl ?_) ?_; rotate_left 1; (· (conv => (lhs; whnf)))) | (apply runk0 rfl rfl (opok_assign rfl ?_) ?_; rotate_left 1; (· (conv => (lhs; whnf)))) | (apply runk0 rfl rfl (opok_bin rfl ?_ ?_ ?_) ?_; rotate_left 3; (· (conv => (lhs; whnf))); (· (conv => (lhs; whnf))); (· (intro w; go_simp; rfl))) | (apply runk0 rfl rfl (opok_un rfl ?_ ?_) ?_; rotate_left 2; (· (conv => (lhs; whnf))); (· (intro w; go_simp; rfl))) | (apply runk0 rfl rfl (opok_pick rfl ?_ ?_) ?_; rotate_left 2; (· (conv => (lhs; whnf))); (· (exact pick_or))) | (apply runk0 rfl rfl (opok_build rfl ?_ ?_ ?_ ?_ ?_) ?_; rotate_left 5; (· (conv => (lhs; whnf; arg 1; whnf))); (· (conv => (lhs; whnf; arg 1; repeat (whnf; arg 2)))); (· (conv => (lhs; whnf; arg 1; whnf))); (· (repeat ((exact PartsOf.nil)))); (· (conv => (lhs; whnf; arg 1; repeat (whnf; arg 2))))) | (apply runk_alloc rfl rfl rfl ?_ ?_ ?_; rotate_left 2; (· (conv => (lhs; whnf; arg 1; whnf))); (· (conv => (lhs; whnf)))) | (apply runk_store rfl rfl rfl ?_ ?_ ?_ ?_ ?_ ?_ ?_ ?_ ?_ ?_ ?_; rotate_left 9; (· (conv => (lhs; whnf))); (· (conv => (lhs; whnf))); (· (conv => (lhs; whnf; arg 1; whnf; arg 2; whnf))); (· rfl); (· (conv => (lhs; whnf))); (· rfl); (· (unfold sizeIs; conv => (lhs; whnf; arg 1; whnf))); (· rfl); (· rfl); (· (conv => (lhs; repeat (whnf; arg 2))))) | refine runk_end (by kernel_rfl) ?_))
  | true =>
    rw [eD, ← eT] at dg
    unfold pfV
    rw [eD]
    cases eA : prsA H with
    | none =>
      rw [eA, ← eH] at pr
      dsimp only at pr ⊢
      unfold errP
      refine spec_of_awp Tryz.func38 rfl (Nat.le_of_ble_eq_true rfl) fun ini => ?_
      simp only [Tryz.ntmps38]
      (repeat (first | refine awp_reg_seq rfl fun k => ?_ | refine awp_seq ?_ | refine awp_true rfl ?_ | refine awp_false rfl ?_ | refine awp_skip (?_ : Awp _ _ _ _ _ _) | (refine awp_ret ?_; (apply ends_pure ?_ ?_ ?_ ?_ ?_ (.inl rfl); rotate_left 1; (· (exact res_cell2 rfl rfl rfl rfl rfl rfl)); (· rfl); (· rfl); (· rfl); (· rfl))) | (apply runk_pure rfl rfl rfl ?_ ?_ ?_ ?_ ?_ ?_ ?_ ?_; rotate_left 6; (· (conv => (lhs; whnf))); (· exact Tryz.func61); (· rfl); (· rfl); (· exact (li)); (· (repeat (first | exact Rens.nil | (refine Rens.cons ?_ ?_; (· ((refine Ren.pureR ?_ rfl; (rfl)))))))); (· rfl)) | (apply runk_guard rfl rfl ?_ rfl ?_ ?_; rotate_left 3; (· (conv => (lhs; whnf))); (· (intro hb; (try rw [hb]); apply opok_pure rfl ?_ ?_ ?_ ?_ ?_ ?_ ?_; rotate_left 6; (· (conv => (lhs; whnf))); (· exact Tryz.func62); (· rfl); (· rfl); (· exact (dg)); (· (repeat (first | exact Rens.nil | (refine Rens.cons ?_ ?_; (· ((refine Ren.pureR ?_ rfl; (rfl)))))))); (· rfl)))) | (apply runk_pure rfl rfl rfl ?_ ?_ ?_ ?_ ?_ ?_ ?_ ?_; rotate_left 6; (· (conv => (lhs; whnf))); (· exact Tryz.func63); (· rfl); (· rfl); (· exact (pr)); (· (repeat (first | exact Rens.nil | (refine Rens.cons ?_ ?_; (· ((refine Ren.pureR ?_ rfl; (rfl)))))))); (· rfl)) | (((((apply runk0 rfl rfl (opok_sslice _ _ rfl ?_ rfl ?_ ?_ ?_ ?_) ?_; rotate_left 3; (· ((conv => (lhs; whnf)); try exact rfl)); (· first | exact .inl ⟨rfl, rfl⟩ | exact .inr ⟨_, _, rfl, rfl⟩); (· first | exact .inl ⟨rfl, rfl⟩ | exact .inr ⟨_, _, rfl, rfl⟩); (· omega); (· omega)))))) | ((refine runk_ung rfl rfl rfl rfl ?_)) | (apply runk0 rfl rfl (opok_move rfl ?_) ?_; rotate_left 1; (· (conv => (lhs; whnf)))) | (apply runk0 rfl rfl (opok_assign rfl ?_) ?_; rotate_left 1; (· (conv => (lhs; whnf)))) | (apply runk0 rfl rfl (opok_bin rfl ?_ ?_ ?_) ?_; rotate_left 3; (· (conv => (lhs; whnf))); (· (conv => (lhs; whnf))); (· (intro w; go_simp; rfl))) | (apply runk0 rfl rfl (opok_un rfl ?_ ?_) ?_; rotate_left 2; (· (conv => (lhs; whnf))); (· (intro w; go_simp; rfl))) | (apply runk0 rfl rfl (opok_pick rfl ?_ ?_) ?_; rotate_left 2; (· (conv => (lhs; whnf))); (· (exact pick_or))) | (apply runk0 rfl rfl (opok_extract rfl ?_ ?_) ?_; rotate_left 2; (· (conv => (lhs; whnf))); (· (conv => (lhs; whnf; arg 1; whnf)))) | (apply runk0 rfl rfl (opok_build rfl ?_ ?_ ?_ ?_ ?_) ?_; rotate_left 5; (· (conv => (lhs; whnf; arg 1; whnf))); (· (conv => (lhs; whnf; arg 1; repeat (whnf; arg 2)))); (· (conv => (lhs; whnf; arg 1; whnf))); (· (repeat ((exact PartsOf.nil)))); (· (conv => (lhs; whnf; arg 1; repeat (whnf; arg 2))))) | (apply runk_alloc rfl rfl rfl ?_ ?_ ?_; rotate_left 2; (· (conv => (lhs; whnf; arg 1; whnf))); (· (conv => (lhs; whnf)))) | (apply runk_store rfl rfl rfl ?_ ?_ ?_ ?_ ?_ ?_ ?_ ?_ ?_ ?_ ?_; rotate_left 9; (· (conv => (lhs; whnf))); (· (conv => (lhs; whnf))); (· (conv => (lhs; whnf; arg 1; whnf; arg 2; whnf))); (· rfl); (· (conv => (lhs; whnf))); (· rfl); (· (unfold sizeIs; conv => (lhs; whnf; arg 1; whnf))); (· rfl); (· rfl); (· (conv => (lhs; repeat (whnf; arg 2))))) | refine runk_end (by kernel_rfl) ?_))
    | some a =>
      obtain ⟨v, hi, lo⟩ := a
      have ao := prsA_ok eA
      rw [eA, ← eH] at pr
      dsimp only at pr ⊢
      rw [if_pos rfl]
      have hw := wiN_le8 v
      have hdig := canD_dig eD
      have hB := bints_len T
      have hG := fun (i : Nat) (x : UInt8) (h : T[i]? = some x) => bints_get h
      rw [← eT] at hB hG
      rw [eT] at hB
      have hG2 : ∀ (i : Nat) (x : UInt8), T[i]? = some x → (ints .u8 (bints ((l.drop j).take (l.length - j))))[i]? = some (.val (.int .u8 (x.toNat : Int))) := fun i x h => hG i x (by rw [eT]; exact h)
      clear hG eD eA
      have hB2 : (bints ((l.drop j).take (l.length - j))).length = T.length := by rw [eT]; exact bints_len T
      refine spec_of_awp Tryz.func38 rfl (Nat.le_of_ble_eq_true rfl) fun ini => ?_
      simp only [Tryz.ntmps38]
      (repeat (first | refine awp_reg_seq rfl fun k => ?_ | refine awp_seq ?_ | refine awp_false rfl ?_ | refine awp_skip (?_ : Awp _ _ _ _ _ _) | refine awp_block ?_ | (apply runk_pure rfl rfl rfl ?_ ?_ ?_ ?_ ?_ ?_ ?_ ?_; rotate_left 6; (· (conv => (lhs; whnf))); (· exact Tryz.func61); (· rfl); (· rfl); (· exact (li)); (· (repeat (first | exact Rens.nil | (refine Rens.cons ?_ ?_; (· ((refine Ren.pureR ?_ rfl; (rfl)))))))); (· rfl)) | (apply runk_guard rfl rfl ?_ rfl ?_ ?_; rotate_left 3; (· (conv => (lhs; whnf))); (· (intro hb; (try rw [hb]); apply opok_pure rfl ?_ ?_ ?_ ?_ ?_ ?_ ?_; rotate_left 6; (· (conv => (lhs; whnf))); (· exact Tryz.func62); (· rfl); (· rfl); (· exact (dg)); (· (repeat (first | exact Rens.nil | (refine Rens.cons ?_ ?_; (· ((refine Ren.pureR ?_ rfl; (rfl)))))))); (· rfl)))) | (apply runk_pure rfl rfl rfl ?_ ?_ ?_ ?_ ?_ ?_ ?_ ?_; rotate_left 6; (· (conv => (lhs; whnf))); (· exact Tryz.func63); (· rfl); (· rfl); (· exact (pr)); (· (repeat (first | exact Rens.nil | (refine Rens.cons ?_ ?_; (· ((refine Ren.pureR ?_ rfl; (rfl)))))))); (· rfl)) | (((((apply runk0 rfl rfl (opok_sslice _ _ rfl ?_ rfl ?_ ?_ ?_ ?_) ?_; rotate_left 3; (· ((conv => (lhs; whnf)); try exact rfl)); (· first | exact .inl ⟨rfl, rfl⟩ | exact .inr ⟨_, _, rfl, rfl⟩); (· first | exact .inl ⟨rfl, rfl⟩ | exact .inr ⟨_, _, rfl, rfl⟩); (· omega); (· omega)))))) | (((apply runk0 rfl rfl (opok_convL rfl ?_ rfl rfl rfl) ?_; rotate_left 1; (· ((conv => (lhs; whnf)); try exact rfl))))) | ((refine runk_ung rfl rfl rfl rfl ?_)) | (apply runk0 rfl rfl (opok_move rfl ?_) ?_; rotate_left 1; (· (conv => (lhs; whnf)))) | (apply runk0 rfl rfl (opok_assign rfl ?_) ?_; rotate_left 1; (· (conv => (lhs; whnf)))) | (apply runk0 rfl rfl (opok_bin rfl ?_ ?_ ?_) ?_; rotate_left 3; (· (conv => (lhs; whnf))); (· (conv => (lhs; whnf))); (· (intro w; go_simp; rfl))) | (apply runk0 rfl rfl (opok_un rfl ?_ ?_) ?_; rotate_left 2; (· (conv => (lhs; whnf))); (· (intro w; go_simp; rfl))) | (((apply runk0 rfl rfl (opok_len rfl ?_ ?_ ?_) ?_; rotate_left 3; (· (conv => (lhs; whnf))); (· (conv => (lhs; whnf; arg 1; whnf))); (· (exact length_ints _ _))))) | (apply runk0 rfl rfl (opok_pick rfl ?_ ?_) ?_; rotate_left 2; (· (conv => (lhs; whnf))); (· (exact pick_or))) | (apply runk0 rfl rfl (opok_extract rfl ?_ ?_) ?_; rotate_left 2; (· (conv => (lhs; whnf))); (· (conv => (lhs; whnf; arg 1; whnf)))) | (apply runk_alloc rfl rfl rfl ?_ ?_ ?_; rotate_left 2; (· (conv => (lhs; whnf; arg 1; whnf))); (· (conv => (lhs; whnf)))) | (apply runk_store rfl rfl rfl ?_ ?_ ?_ ?_ ?_ ?_ ?_ ?_ ?_ ?_ ?_; rotate_left 9; (· (conv => (lhs; whnf))); (· (conv => (lhs; whnf))); (· (conv => (lhs; whnf; arg 1; whnf; arg 2; whnf))); (· rfl); (· (conv => (lhs; whnf))); (· rfl); (· (unfold sizeIs; conv => (lhs; whnf; arg 1; whnf))); (· rfl); (· rfl); (· (conv => (lhs; repeat (whnf; arg 2))))) | refine runk_end (by kernel_rfl) ?_))
      generalize bints ((l.drop j).take (l.length - j)) = B at *
      clear hB
      rename_i k0 k1 k2 k4 k5 k7
      refine awp_loop (fun m st => ∃ i n : Nat, i + m = T.length ∧ n = min 1000 (numOf 0 (T.take i)) ∧ st.leB ⟨[(2, .ptr 2 k0 0), (5, .ptr 5 k4 0), (7, .val (.int .i64 (n : Int))), (39, .ro (ints .u8 B)), (40, .val (.int .i64 (T.length : Int))), (41, .val (.int .i64 (i : Int)))], [(2, some (k0, .box 26 [.val (.bool false), .val (.int .u64 0), .val (.int .u64 0), .val (.int .i64 0)])), (5, some (k4, .box 24 [.val (.bool v), .val (.int .u64 hi), .val (.int .u64 lo)]))]⟩) T.length ⟨0, 0, by omega, rfl, by (refine leB_of ?_ ?_; (· (repeat (first | exact EnvIs.nil | (refine EnvIs.cons ?_ ?_; (· first | rfl | ((conv => (lhs; whnf)); ((simp [hB2]; done)))))))); (· (repeat (first | exact ObjsAre.nil | (refine ObjsAre.cons ?_ ?_; (· rfl))))))⟩ ?_
      rintro m st ⟨i, n, him, hn, hle⟩
      refine awp_less hle ?_
      clear hle st
      have wi : IntKind.i64.wrap ((i : Int) + 1) = ((i + 1 : Nat) : Int) := by rw [IntKind.wrap_i64]; omega
      obtain ⟨j, hj⟩ : ∃ j, i + 1 = j := ⟨_, rfl⟩
      rw [hj] at wi
      (repeat (first | refine awp_reg_seq rfl fun k => ?_ | refine awp_seq ?_ | (apply runk0 rfl rfl (opok_bin rfl ?_ ?_ ?_) ?_; rotate_left 3; (· (conv => (lhs; whnf))); (· (conv => (lhs; whnf))); (· (intro w; go_simp; first | done | rfl))) | refine runk_end (by kernel_rfl) ?_))
      refine awp_if rfl (fun hc => ?_) (fun hc => ?_)
      · have hil : i < T.length := by simp at hc; omega
        clear hc
        obtain ⟨x, hx⟩ : ∃ x, T[i]? = some x := ⟨_, List.getElem?_eq_getElem hil⟩
        have hX := hG2 i x hx
        have x256 : x.toNat < 256 := x.toNat_lt
        have hd := hdig x (List.mem_of_getElem? hx)
        simp only [isDig, Bool.and_eq_true, decide_eq_true_eq] at hd
        have hsn := take_snoc hx
        rw [hj] at hsn
        have hnum : numOf 0 (T.take j) = numOf 0 (T.take i) * 10 + (x.toNat - 48) := by rw [hsn, numOf_snoc]
        obtain ⟨D, hD⟩ : ∃ D, x.toNat - 48 = D := ⟨_, rfl⟩
        rw [hD] at hnum
        have wd : IntKind.u8.wrap ((x.toNat : Int) - 48) = (D : Int) := by rw [IntKind.wrap_u8']; omega
        have wd2 : IntKind.i64.wrap (D : Int) = (D : Int) := by rw [IntKind.wrap_i64]; omega
        have wm : IntKind.i64.wrap (10 * (n : Int)) = 10 * (n : Int) := by rw [IntKind.wrap_i64]; omega
        obtain ⟨n2, hn2⟩ : ∃ n2, 10 * n + D = n2 := ⟨_, rfl⟩
        have ws : IntKind.i64.wrap (10 * (n : Int) + (D : Int)) = (n2 : Int) := by rw [IntKind.wrap_i64]; omega
        obtain ⟨n3, hn3⟩ : ∃ n3, min 1000 n2 = n3 := ⟨_, rfl⟩
        have wn : min (1000 : Int) (n2 : Int) = (n3 : Int) := by omega
        have hnew : n3 = min 1000 (numOf 0 (T.take j)) := by rw [hnum]; omega
        clear hn hnum hsn hG2 hdig hD hn2 hn3
        generalize (x.toNat : Int) = X at *
        (repeat (first | refine awp_reg_seq rfl fun k => ?_ | refine awp_reg rfl fun k => ?_ | refine awp_seq ?_ | refine awp_skip (?_ : Awp _ _ _ _ _ _) | refine awp_block ?_ | (apply runk0 rfl rfl (opok_move rfl ?_) ?_; rotate_left 1; (· (conv => (lhs; whnf)))) | (apply runk0 rfl rfl (opok_assign rfl ?_) ?_; rotate_left 1; (· (conv => (lhs; whnf)))) | (((apply runk0 rfl rfl (opok_loadR rfl ?_ ?_ ?_) ?_; rotate_left 2; (· (conv => (lhs; whnf))); (· rfl); (· (conv => (lhs; whnf; arg 1; whnf)))))) | (apply runk0 rfl rfl (opok_bin rfl ?_ ?_ ?_) ?_; rotate_left 3; (· (conv => (lhs; whnf))); (· (conv => (lhs; whnf))); (· (intro w; go_simp; rfl))) | (apply runk0 rfl rfl (opok_conv rfl ?_ ?_) ?_; rotate_left 2; (· (conv => (lhs; whnf))); (· (intro w; go_simp; rfl))) | (apply runk0 rfl rfl (opok_min rfl ?_ ?_) ?_; rotate_left 2; (· (conv => (lhs; whnf))); (· (conv => (lhs; whnf)))) | refine runk_end (by kernel_rfl) ?_ | (apply runk0 rfl rfl (opok_index_ro rfl ?_ ?_ ?_ ?_ ?_ ?_ ?_) ?_; rotate_left 6; (· (conv => (lhs; whnf))); (· (conv => (lhs; whnf))); (· (conv => (lhs; whnf; arg 1; whnf))); (· (unfold sizeIs; conv => (lhs; whnf; arg 1; whnf))); (· (exact widths_ints _ _)); (· omega); (· assumption))))
        exact ⟨T.length - j, by omega, j, n3, by omega, hnew, by (refine leB_of ?_ ?_; (· (repeat (first | exact EnvIs.nil | (refine EnvIs.cons ?_ ?_; (· first | rfl | ((conv => (lhs; whnf)); ((simp []; omega)))))))); (· (repeat (first | exact ObjsAre.nil | (refine ObjsAre.cons ?_ ?_; (· rfl))))))⟩
      · have hil : i = T.length := by simp at hc; omega
        subst hil
        rw [List.take_length] at hn
        clear hc hG2 hdig hB2
        generalize numOf 0 T = N at *
        by_cases c2 : N ≤ wiN v
        · rw [if_pos c2]
          have hnN : n = N := by omega
          subst hnN
          have mk := rmake_ok n ao c2
          by_cases c3 : fstH v hi n = hi ∧ fstL v lo n = lo
          · rw [if_pos c3]
            rw [c3.1, c3.2] at mk
            have ne := neQ_self v hi lo
            clear c3 c2 ao hn
            (repeat (first | refine awp_reg_seq rfl fun k => ?_ | refine awp_seq ?_ | refine awp_false rfl ?_ | refine awp_skip (?_ : Awp _ _ _ _ _ _) | refine awp_block ?_ | refine awp_exit (?_ : Awp _ _ _ _ _ _) | (refine awp_ret ?_; (apply ends_pure ?_ ?_ ?_ ?_ ?_ (.inl rfl); rotate_left 1; (· (exact res_cell2 rfl rfl rfl rfl rfl rfl)); (· rfl); (· rfl); (· rfl); (· rfl))) | (apply runk_pure rfl rfl rfl ?_ ?_ ?_ ?_ ?_ ?_ ?_ ?_; rotate_left 6; (· (conv => (lhs; whnf))); (· exact Tryz.func16); (· rfl); (· rfl); (· exact (mk)); (· (repeat (first | exact Rens.nil | (refine Rens.cons ?_ ?_; (· ((refine Ren.pureR ?_ rfl; (rfl)))))))); (· rfl)) | (((((apply runk0 rfl rfl (opok_neQh rfl ?_ ?_ ?_) ?_; rotate_left 7; (· ((conv => (lhs; whnf)); try exact rfl)); (· ((conv => (lhs; whnf)); try exact rfl)); (· assumption)))))) | (apply runk0 rfl rfl (opok_move rfl ?_) ?_; rotate_left 1; (· (conv => (lhs; whnf)))) | (apply runk0 rfl rfl (opok_assign rfl ?_) ?_; rotate_left 1; (· (conv => (lhs; whnf)))) | (apply runk_fa rfl rfl rfl ?_ rfl rfl ?_ ?_ ?_ ?_; rotate_left 5; (· (conv => (lhs; whnf))); (· (unfold sizeIs; conv => (lhs; whnf; arg 1; whnf))); (· rfl); (· (conv => (lhs; whnf)))) | (apply runk0 rfl rfl (opok_loadA rfl ?_ ?_ ?_ ?_ ?_ ?_) ?_; rotate_left 6; (· (conv => (lhs; whnf))); (· (conv => (lhs; whnf; arg 1; whnf; arg 2; whnf))); (· rfl); (· (unfold sizeIs; conv => (lhs; whnf; arg 1; whnf))); (· (conv => (lhs; repeat (whnf; arg 2)))); (· rfl)) | (apply runk0 rfl rfl (opok_bin rfl ?_ ?_ ?_) ?_; rotate_left 3; (· (conv => (lhs; whnf))); (· (conv => (lhs; whnf))); (· (intro w; go_simp; rfl))) | (apply runk0 rfl rfl (opok_extract rfl ?_ ?_) ?_; rotate_left 2; (· (conv => (lhs; whnf))); (· (conv => (lhs; whnf; arg 1; whnf)))) | (apply runk_alloc rfl rfl rfl ?_ ?_ ?_; rotate_left 2; (· (conv => (lhs; whnf; arg 1; whnf))); (· (conv => (lhs; whnf)))) | (apply runk_store rfl rfl rfl ?_ ?_ ?_ ?_ ?_ ?_ ?_ ?_ ?_ ?_ ?_; rotate_left 9; (· (conv => (lhs; whnf))); (· (conv => (lhs; whnf))); (· (conv => (lhs; whnf; arg 1; whnf; arg 2; whnf))); (· rfl); (· (conv => (lhs; whnf))); (· rfl); (· (unfold sizeIs; conv => (lhs; whnf; arg 1; whnf))); (· rfl); (· rfl); (· (conv => (lhs; repeat (whnf; arg 2))))) | refine runk_end (by kernel_rfl) ?_))
          · rw [if_neg c3]
            have ne := neQ_yes (v := v) c3
            unfold errP
            clear c3 c2 ao hn
            (repeat (first | refine awp_reg_seq rfl fun k => ?_ | refine awp_seq ?_ | refine awp_true rfl ?_ | refine awp_false rfl ?_ | refine awp_block ?_ | refine awp_exit (?_ : Awp _ _ _ _ _ _) | (refine awp_ret ?_; (apply ends_pure ?_ ?_ ?_ ?_ ?_ (.inl rfl); rotate_left 1; (· (exact res_cell2 rfl rfl rfl rfl rfl rfl)); (· rfl); (· rfl); (· rfl); (· rfl))) | (apply runk_pure rfl rfl rfl ?_ ?_ ?_ ?_ ?_ ?_ ?_ ?_; rotate_left 6; (· (conv => (lhs; whnf))); (· exact Tryz.func16); (· rfl); (· rfl); (· exact (mk)); (· (repeat (first | exact Rens.nil | (refine Rens.cons ?_ ?_; (· ((refine Ren.pureR ?_ rfl; (rfl)))))))); (· rfl)) | (((((apply runk0 rfl rfl (opok_neQh rfl ?_ ?_ ?_) ?_; rotate_left 7; (· ((conv => (lhs; whnf)); try exact rfl)); (· ((conv => (lhs; whnf)); try exact rfl)); (· assumption)))))) | (apply runk0 rfl rfl (opok_move rfl ?_) ?_; rotate_left 1; (· (conv => (lhs; whnf)))) | (apply runk0 rfl rfl (opok_assign rfl ?_) ?_; rotate_left 1; (· (conv => (lhs; whnf)))) | (apply runk_fa rfl rfl rfl ?_ rfl rfl ?_ ?_ ?_ ?_; rotate_left 5; (· (conv => (lhs; whnf))); (· (unfold sizeIs; conv => (lhs; whnf; arg 1; whnf))); (· rfl); (· (conv => (lhs; whnf)))) | (apply runk0 rfl rfl (opok_loadA rfl ?_ ?_ ?_ ?_ ?_ ?_) ?_; rotate_left 6; (· (conv => (lhs; whnf))); (· (conv => (lhs; whnf; arg 1; whnf; arg 2; whnf))); (· rfl); (· (unfold sizeIs; conv => (lhs; whnf; arg 1; whnf))); (· (conv => (lhs; repeat (whnf; arg 2)))); (· rfl)) | (apply runk0 rfl rfl (opok_bin rfl ?_ ?_ ?_) ?_; rotate_left 3; (· (conv => (lhs; whnf))); (· (conv => (lhs; whnf))); (· (intro w; go_simp; rfl))) | (apply runk0 rfl rfl (opok_extract rfl ?_ ?_) ?_; rotate_left 2; (· (conv => (lhs; whnf))); (· (conv => (lhs; whnf; arg 1; whnf)))) | (apply runk0 rfl rfl (opok_build rfl ?_ ?_ ?_ ?_ ?_) ?_; rotate_left 5; (· (conv => (lhs; whnf; arg 1; whnf))); (· (conv => (lhs; whnf; arg 1; repeat (whnf; arg 2)))); (· (conv => (lhs; whnf; arg 1; whnf))); (· (repeat ((exact PartsOf.nil)))); (· (conv => (lhs; whnf; arg 1; repeat (whnf; arg 2))))) | (apply runk_alloc rfl rfl rfl ?_ ?_ ?_; rotate_left 2; (· (conv => (lhs; whnf; arg 1; whnf))); (· (conv => (lhs; whnf)))) | (apply runk_store rfl rfl rfl ?_ ?_ ?_ ?_ ?_ ?_ ?_ ?_ ?_ ?_ ?_; rotate_left 9; (· (conv => (lhs; whnf))); (· (conv => (lhs; whnf))); (· (conv => (lhs; whnf; arg 1; whnf; arg 2; whnf))); (· rfl); (· (conv => (lhs; whnf))); (· rfl); (· (unfold sizeIs; conv => (lhs; whnf; arg 1; whnf))); (· rfl); (· rfl); (· (conv => (lhs; repeat (whnf; arg 2))))) | refine runk_end (by kernel_rfl) ?_))
        · rw [if_neg c2]
          have mk := (make_rng v hi lo (n : Int) (okA_of ao) (.inr (by omega))).2
          unfold errP
          clear c2 ao hn
          (repeat (first | refine awp_reg_seq rfl fun k => ?_ | refine awp_seq ?_ | refine awp_true rfl ?_ | refine awp_block ?_ | refine awp_exit (?_ : Awp _ _ _ _ _ _) | (refine awp_ret ?_; (apply ends_pure ?_ ?_ ?_ ?_ ?_ (.inl rfl); rotate_left 1; (· (exact res_cell2 rfl rfl rfl rfl rfl rfl)); (· rfl); (· rfl); (· rfl); (· rfl))) | (apply runk_pure rfl rfl rfl ?_ ?_ ?_ ?_ ?_ ?_ ?_ ?_; rotate_left 6; (· (conv => (lhs; whnf))); (· exact Tryz.func16); (· rfl); (· rfl); (· exact (mk)); (· (repeat (first | exact Rens.nil | (refine Rens.cons ?_ ?_; (· ((refine Ren.pureR ?_ rfl; (rfl)))))))); (· rfl)) | (apply runk0 rfl rfl (opok_move rfl ?_) ?_; rotate_left 1; (· (conv => (lhs; whnf)))) | (apply runk0 rfl rfl (opok_assign rfl ?_) ?_; rotate_left 1; (· (conv => (lhs; whnf)))) | (apply runk0 rfl rfl (opok_loadA rfl ?_ ?_ ?_ ?_ ?_ ?_) ?_; rotate_left 6; (· (conv => (lhs; whnf))); (· (conv => (lhs; whnf; arg 1; whnf; arg 2; whnf))); (· rfl); (· (unfold sizeIs; conv => (lhs; whnf; arg 1; whnf))); (· (conv => (lhs; repeat (whnf; arg 2)))); (· rfl)) | (apply runk0 rfl rfl (opok_bin rfl ?_ ?_ ?_) ?_; rotate_left 3; (· (conv => (lhs; whnf))); (· (conv => (lhs; whnf))); (· (intro w; go_simp; rfl))) | (apply runk0 rfl rfl (opok_extract rfl ?_ ?_) ?_; rotate_left 2; (· (conv => (lhs; whnf))); (· (conv => (lhs; whnf; arg 1; whnf)))) | (apply runk0 rfl rfl (opok_build rfl ?_ ?_ ?_ ?_ ?_) ?_; rotate_left 5; (· (conv => (lhs; whnf; arg 1; whnf))); (· (conv => (lhs; whnf; arg 1; repeat (whnf; arg 2)))); (· (conv => (lhs; whnf; arg 1; whnf))); (· (repeat ((exact PartsOf.nil)))); (· (conv => (lhs; whnf; arg 1; repeat (whnf; arg 2))))) | (apply runk_alloc rfl rfl rfl ?_ ?_ ?_; rotate_left 2; (· (conv => (lhs; whnf; arg 1; whnf))); (· (conv => (lhs; whnf)))) | (apply runk_store rfl rfl rfl ?_ ?_ ?_ ?_ ?_ ?_ ?_ ?_ ?_ ?_ ?_; rotate_left 9; (· (conv => (lhs; whnf))); (· (conv => (lhs; whnf))); (· (conv => (lhs; whnf; arg 1; whnf; arg 2; whnf))); (· rfl); (· (conv => (lhs; whnf))); (· rfl); (· (unfold sizeIs; conv => (lhs; whnf; arg 1; whnf))); (· rfl); (· rfl); (· (conv => (lhs; repeat (whnf; arg 2))))) | refine runk_end (by kernel_rfl) ?_))
theorem rpp_spec (l : List UInt8) (hl : l.length ≤ 100000) : Spec Tryz.prog 38 [.val (bstr l)] [] (pfA l) [] := by
  rcases last47 l with ⟨e, hn⟩ | ⟨H, T, rfl, e⟩
  · rw [pfA_no hn]
    exact rpp_none l hl e
  · rw [pfA_last]
    exact rpp_some _ H T hl rfl e
end Go.Proofs.YtboddbheljenhaaGreatDoor
