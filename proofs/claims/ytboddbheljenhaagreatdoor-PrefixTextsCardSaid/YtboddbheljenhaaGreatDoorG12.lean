/-
  addr.printGroups, by states.
-/
import Derived.Test.YtboddbheljenhaaGreatDoorFmt16
namespace Go.Proofs.YtboddbheljenhaaGreatDoor
open Go.RowKit
theorem join_nil (sep : List UInt8) : Spec Tryz.prog 89 [.val (.slice none 0 0), .val (bstr sep)] [] (.val (bstr [])) [] :=
  spec_belowV (timeless_val _) fun ψ prot w cargs hV hk hsz hargs => by
    obtain rfl := two_vals hsz hargs
    refine (Tryz.strings_Join_none none 0 ⟨sep.toArray⟩ w).mono ?_
    rintro e w' ⟨rfl, rfl⟩
    exact ⟨_, rfl, .val _, Below.refl _ _⟩
theorem join_own (ls : List (List UInt8)) (sep : List UInt8) (hN : ls.length ≤ 140737488355328) (hlen : (Lib.join ls sep).length ≤ 140737488355328) : Spec Tryz.prog 89 [.own 0 0 (strL ls).length, .val (bstr sep)] [(0, some (0, .row 9 1 (strL ls)))] (.val (bstr (Lib.join ls sep))) [(0, some (0, .row 9 1 (strL ls)))] :=
  spec_lendT (timeless_val _) (by rfl) (fun i y hi => by
    match i, hi with
    | 0, hi => cases hi; exact ⟨_, rfl, .one (.own _ rfl)⟩
    | 1, hi => cases hi; exact ⟨_, rfl, .one (.same _)⟩) (join_spec ls sep hN hlen)
def nats (xs : List Nat) : List Int := xs.map fun x : Nat => (x : Int)
set_option maxHeartbeats 8000000 in
set_option maxRecDepth 100000 in
theorem pgrp_spec (xs : List Nat) (hb : ∀ x ∈ xs, x < 65536) (hl : xs.length ≤ 8) (hj : (Lib.join (xs.map hexL) [58]).length ≤ 140737488355328) : Spec Tryz.prog 91 [.ro (ints .u16 (nats xs))] [] (.val (bstr (Lib.join (xs.map hexL) [58]))) [] := by
  have hlen : (nats xs).length = xs.length := by simp [nats]
  refine spec_of_awp Tryz.func91 rfl (Nat.le_of_ble_eq_true rfl) fun ini => ?_
  simp only [Tryz.ntmps91]
  (repeat (first | refine awp_reg_seq rfl fun k => ?_ | refine awp_seq ?_ | refine awp_block ?_ | (apply runk0 rfl rfl (opok_move rfl ?_) ?_; rotate_left 1; (· (conv => (lhs; whnf)))) | (apply runk0 rfl rfl (opok_assign rfl ?_) ?_; rotate_left 1; (· (conv => (lhs; whnf)))) | (((apply runk0 rfl rfl (opok_len rfl ?_ ?_ ?_) ?_; rotate_left 3; (· (conv => (lhs; whnf))); (· (conv => (lhs; whnf; arg 1; whnf))); (· (exact length_ints _ _))))) | refine runk_end (by kernel_rfl) ?_))
  refine awp_loop (fun m st => ∃ i : Nat, i + m = xs.length ∧ (i = 0 ∧ st.leB ⟨[(3, .val (.slice none 0 0)), (6, .ro (ints .u16 (nats xs))), (7, .val (.int .i64 (xs.length : Int))), (8, .val (.int .i64 0))], []⟩ ∨
    0 < i ∧ ∃ kk, st.leB ⟨[(3, .own 3 kk (strL ((xs.take i).map hexL)).length), (6, .ro (ints .u16 (nats xs))), (7, .val (.int .i64 (xs.length : Int))), (8, .val (.int .i64 (i : Int)))], [(3, some (kk, .row 9 1 (strL ((xs.take i).map hexL))))]⟩)) xs.length ⟨0, by rw [Nat.zero_add], .inl ⟨rfl, ?_⟩⟩ ?_
  · (refine leB_of ?_ ?_; (· (repeat (first | exact EnvIs.nil | (refine EnvIs.cons ?_ ?_; (· first | rfl | ((conv => (lhs; whnf)); ((simp [ints, hlen]; done)))))))); (· (repeat ((exact ObjsAre.nil)))))
  · rintro m st ⟨i, hi, ⟨h0, hle⟩ | ⟨h0, kk, hle⟩⟩
    · subst h0
      refine awp_less hle ?_
      clear hle st
      (repeat (first | refine awp_reg_seq rfl fun k => ?_ | refine awp_seq ?_ | (apply runk0 rfl rfl (opok_bin rfl ?_ ?_ ?_) ?_; rotate_left 3; (· (conv => (lhs; whnf))); (· (conv => (lhs; whnf))); (· (intro w; go_simp; first | done | rfl))) | refine runk_end (by kernel_rfl) ?_))
      refine awp_if rfl (fun hc => ?_) (fun hc => ?_)
      · have hlt : 0 < xs.length := by simpa using hc
        obtain ⟨x, hx⟩ : ∃ x, xs[0] = x := ⟨_, rfl⟩
        have hx2 : x < 65536 := hb x (hx ▸ List.getElem_mem _)
        have hxi : (ints .u16 (nats xs))[0]? = some (.val (.int .u16 (x : Int))) := by
          rw [ints_get]
          simp [nats, List.getElem?_eq_getElem hlt, hx]
        have wx : IntKind.u64.wrap (x : Int) = (x : Int) := by rw [IntKind.wrap_u64]; omega
        have w1 : IntKind.i64.wrap 1 = 1 := by decide
        have f := fmt16_spec x hx2
        (repeat (first | refine awp_reg_seq rfl fun k => ?_ | refine awp_reg rfl fun k => ?_ | refine awp_seq ?_ | refine awp_skip (?_ : Awp _ _ _ _ _ _) | refine awp_block ?_ | (apply runk_pure rfl rfl rfl ?_ ?_ ?_ ?_ ?_ ?_ ?_ ?_; rotate_left 6; (· (conv => (lhs; whnf))); (· exact Tryz.func56); (· rfl); (· rfl); (· exact (f)); (· (repeat (first | exact Rens.nil | (refine Rens.cons ?_ ?_; (· ((refine Ren.pureR ?_ rfl; (rfl)))))))); (· rfl)) | (apply runk0 rfl rfl (opok_move rfl ?_) ?_; rotate_left 1; (· (conv => (lhs; whnf)))) | (apply runk_assignOwn rfl rfl rfl ?_ ?_ ?_; rotate_left 4; (· (conv => (lhs; whnf))); (· (conv => (lhs; whnf; arg 1; whnf)))) | (apply runk0 rfl rfl (opok_assign rfl ?_) ?_; rotate_left 1; (· (conv => (lhs; whnf)))) | (((apply runk0 rfl rfl (opok_loadR rfl ?_ ?_ ?_) ?_; rotate_left 2; (· (conv => (lhs; whnf))); (· rfl); (· (conv => (lhs; whnf; arg 1; whnf)))))) | (apply runk0 rfl rfl (opok_bin rfl ?_ ?_ ?_) ?_; rotate_left 3; (· (conv => (lhs; whnf))); (· (conv => (lhs; whnf))); (· (intro w; go_simp; rfl))) | (apply runk0 rfl rfl (opok_conv rfl ?_ ?_) ?_; rotate_left 2; (· (conv => (lhs; whnf))); (· (intro w; go_simp; rfl))) | (apply runk_lit rfl rfl rfl ?_ ?_ ?_ ?_ ?_ ?_ ?_ ?_ ?_ ?_ ?_; rotate_left 4; (· (conv => (lhs; whnf; arg 1; whnf))); (· (unfold sizeIs; conv => (lhs; whnf; arg 1; whnf))); (· (conv => (lhs; whnf; arg 1; whnf))); (· rfl); (· rfl); (· rfl); (· rfl); (· (repeat (first | exact PartsAre.nil _ | (apply PartsAre.cons; (· (conv => (lhs; whnf))))))); (· rfl); (· rfl)) | refine runk_end (by kernel_rfl) ?_ | (apply runk0 rfl rfl (opok_index_ro rfl ?_ ?_ ?_ ?_ ?_ ?_ ?_) ?_; rotate_left 6; (· (conv => (lhs; whnf))); (· (conv => (lhs; whnf))); (· (conv => (lhs; whnf; arg 1; whnf))); (· (unfold sizeIs; conv => (lhs; whnf; arg 1; whnf))); (· (exact widths_ints _ _)); (· omega); (· assumption)) | (apply runk_app rfl rfl rfl ?_ ?_ ?_ ?_ ?_ ?_ ?_ ?_ ?_ ?_ ?_ ?_ ?_ ?_ ?_ ?_; rotate_left 11; (· (conv => (lhs; whnf))); (· (conv => (lhs; whnf))); (· (conv => (lhs; whnf; arg 1; whnf))); (· (unfold sizeIs; conv => (lhs; whnf; arg 1; whnf))); (· (conv => (lhs; whnf; arg 1; whnf))); (· (conv => (lhs; whnf; arg 1; whnf))); (· rfl); (· rfl); (· rfl); (· (exact .nil)); (· ((refine .own _ _ _ _ _ _ rfl ?_; rfl))); (· rfl); (· rfl); (· ((simp; done))); (· ((simp only [List.nil_append, ints_takeR, ints_dropR, ints_one, ints_consR, ints_append]; rfl))))))
        have ht : strL ((xs.take 1).map hexL) = [.val (bstr (hexL x))] := by
          rw [show 1 = 0 + 1 from rfl, List.take_add_one, List.getElem?_eq_getElem hlt, hx]
          rfl
        rename_i kz
        refine ⟨m - 1, by omega, 1, by omega, .inr ⟨by omega, kz, ?_⟩⟩
        rw [ht]
        (refine leB_of ?_ ?_; (· (repeat (first | exact EnvIs.nil | (refine EnvIs.cons ?_ ?_; (· rfl))))); (· (repeat (first | exact ObjsAre.nil | (refine ObjsAre.cons ?_ ?_; (· rfl))))))
      · have hie : xs = [] := by
          cases xs with
          | nil => rfl
          | cons a b => simp at hc
        subst hie
        have jn := join_nil [58]
        refine awp_exit (?_ : Awp _ _ _ _ _ _)
        (repeat (first | refine awp_reg_seq rfl fun k => ?_ | (refine awp_ret ?_; (apply ends_pure ?_ ?_ ?_ ?_ ?_ (.inl rfl); rotate_left 1; (· (exact res_one rfl rfl)); (· rfl); (· rfl); (· rfl); (· rfl))) | (apply runk_pure rfl rfl rfl ?_ ?_ ?_ ?_ ?_ ?_ ?_ ?_; rotate_left 6; (· (conv => (lhs; whnf))); (· exact Tryz.func89); (· rfl); (· rfl); (· exact (jn)); (· (repeat (first | exact Rens.nil | (refine Rens.cons ?_ ?_; (· ((refine Ren.pureR ?_ rfl; (rfl)))))))); (· rfl)) | (apply runk0 rfl rfl (opok_move rfl ?_) ?_; rotate_left 1; (· (conv => (lhs; whnf)))) | (apply runk0 rfl rfl (opok_assign rfl ?_) ?_; rotate_left 1; (· (conv => (lhs; whnf)))) | refine runk_end (by kernel_rfl) ?_))
    · refine awp_less hle ?_
      clear hle st
      (repeat (first | refine awp_reg_seq rfl fun k => ?_ | refine awp_seq ?_ | (apply runk0 rfl rfl (opok_bin rfl ?_ ?_ ?_) ?_; rotate_left 3; (· (conv => (lhs; whnf))); (· (conv => (lhs; whnf))); (· (intro w; go_simp; first | done | rfl))) | refine runk_end (by kernel_rfl) ?_))
      refine awp_if rfl (fun hc => ?_) (fun hc => ?_)
      · have hlt : i < xs.length := by simpa using hc
        obtain ⟨x, hx⟩ : ∃ x, xs[i] = x := ⟨_, rfl⟩
        have hx2 : x < 65536 := hb x (hx ▸ List.getElem_mem _)
        have hxi : (ints .u16 (nats xs))[i]? = some (.val (.int .u16 (x : Int))) := by
          rw [ints_get]
          simp [nats, List.getElem?_eq_getElem hlt, hx]
        have wx : IntKind.u64.wrap (x : Int) = (x : Int) := by rw [IntKind.wrap_u64]; omega
        have hwn : IntKind.i64.wrap ((i : Int) + 1) = ((i + 1 : Nat) : Int) := by rw [IntKind.wrap_i64]; omega
        have f := fmt16_spec x hx2
        have ht : strL ((xs.take (i + 1)).map hexL) = strL ((xs.take i).map hexL) ++ [.val (bstr (hexL x))] := by
          rw [List.take_add_one, List.getElem?_eq_getElem hlt, hx, List.map_append, strL_append]
          rfl
        have hls : (strL ((xs.take i).map hexL)).length ≤ 8 := by simp; omega
        generalize strL ((xs.take i).map hexL) = ss at *
        (repeat (first | refine awp_reg_seq rfl fun k => ?_ | refine awp_reg rfl fun k => ?_ | refine awp_seq ?_ | refine awp_skip (?_ : Awp _ _ _ _ _ _) | refine awp_block ?_ | (apply runk_pure rfl rfl rfl ?_ ?_ ?_ ?_ ?_ ?_ ?_ ?_; rotate_left 6; (· (conv => (lhs; whnf))); (· exact Tryz.func56); (· rfl); (· rfl); (· exact (f)); (· (repeat (first | exact Rens.nil | (refine Rens.cons ?_ ?_; (· ((refine Ren.pureR ?_ rfl; (rfl)))))))); (· rfl)) | (apply runk0 rfl rfl (opok_move rfl ?_) ?_; rotate_left 1; (· (conv => (lhs; whnf)))) | (apply runk_assignOwn rfl rfl rfl ?_ ?_ ?_; rotate_left 4; (· (conv => (lhs; whnf))); (· (conv => (lhs; whnf; arg 1; whnf)))) | (apply runk0 rfl rfl (opok_assign rfl ?_) ?_; rotate_left 1; (· (conv => (lhs; whnf)))) | (((apply runk0 rfl rfl (opok_loadR rfl ?_ ?_ ?_) ?_; rotate_left 2; (· (conv => (lhs; whnf))); (· rfl); (· (conv => (lhs; whnf; arg 1; whnf)))))) | (apply runk0 rfl rfl (opok_bin rfl ?_ ?_ ?_) ?_; rotate_left 3; (· (conv => (lhs; whnf))); (· (conv => (lhs; whnf))); (· (intro w; go_simp; rfl))) | (apply runk0 rfl rfl (opok_conv rfl ?_ ?_) ?_; rotate_left 2; (· (conv => (lhs; whnf))); (· (intro w; go_simp; rfl))) | (apply runk_lit rfl rfl rfl ?_ ?_ ?_ ?_ ?_ ?_ ?_ ?_ ?_ ?_ ?_; rotate_left 4; (· (conv => (lhs; whnf; arg 1; whnf))); (· (unfold sizeIs; conv => (lhs; whnf; arg 1; whnf))); (· (conv => (lhs; whnf; arg 1; whnf))); (· rfl); (· rfl); (· rfl); (· rfl); (· (repeat (first | exact PartsAre.nil _ | (apply PartsAre.cons; (· (conv => (lhs; whnf))))))); (· rfl); (· rfl)) | refine runk_end (by kernel_rfl) ?_ | (apply runk0 rfl rfl (opok_index_ro rfl ?_ ?_ ?_ ?_ ?_ ?_ ?_) ?_; rotate_left 6; (· (conv => (lhs; whnf))); (· (conv => (lhs; whnf))); (· (conv => (lhs; whnf; arg 1; whnf))); (· (unfold sizeIs; conv => (lhs; whnf; arg 1; whnf))); (· (exact widths_ints _ _)); (· omega); (· assumption)) | (apply runk_app rfl rfl rfl ?_ ?_ ?_ ?_ ?_ ?_ ?_ ?_ ?_ ?_ ?_ ?_ ?_ ?_ ?_ ?_; rotate_left 11; (· (conv => (lhs; whnf))); (· (conv => (lhs; whnf))); (· (conv => (lhs; whnf; arg 1; whnf))); (· (unfold sizeIs; conv => (lhs; whnf; arg 1; whnf))); (· (conv => (lhs; whnf; arg 1; whnf))); (· (conv => (lhs; whnf; arg 1; whnf))); (· rfl); (· rfl); (· rfl); (· ((refine .own _ _ _ _ rfl ?_; rfl))); (· ((refine .own _ _ _ _ _ _ rfl ?_; rfl))); (· rfl); (· rfl); (· ((simp; omega))); (· rfl))))
        rename_i kz
        refine ⟨m - 1, by omega, i + 1, by omega, .inr ⟨by omega, kz, ?_⟩⟩
        rw [ht]
        (refine leB_of ?_ ?_; (· (repeat (first | exact EnvIs.nil | (refine EnvIs.cons ?_ ?_; (· rfl))))); (· (repeat (first | exact ObjsAre.nil | (refine ObjsAre.cons ?_ ?_; (· rfl))))))
      · have hie : i = xs.length := by simp at hc; omega
        subst hie
        have jo := join_own (xs.map hexL) [58] (by simp; omega) hj
        rw [List.take_length]
        refine awp_exit (?_ : Awp _ _ _ _ _ _)
        (repeat (first | refine awp_reg_seq rfl fun k => ?_ | (refine awp_ret ?_; (apply ends_pure ?_ ?_ ?_ ?_ ?_ (.inl rfl); rotate_left 1; (· (exact res_one rfl rfl)); (· rfl); (· rfl); (· rfl); (· rfl))) | (apply runk_with rfl rfl rfl ?_ ?_ ?_ ?_ ?_ ?_ ?_ ?_ ?_ ?_ ?_; rotate_left 10; (· (conv => (lhs; whnf))); (· exact Tryz.func89); (· rfl); (· rfl); (· exact (jo)); (· (repeat (first | exact Rens.nil | (refine Rens.cons ?_ ?_; (· first | exact Ren.own _ _ _ _ _ _ rfl List.mem_cons_self | (refine Ren.pureR ?_ rfl; (rfl))))))); (· rfl); (· rfl); (· (simp [AVal.pure, AVal.pures, AObj.pure])); (· (simp [AVal.pure, AVal.pures, AObj.pure]))) | (apply runk0 rfl rfl (opok_move rfl ?_) ?_; rotate_left 1; (· (conv => (lhs; whnf)))) | (apply runk0 rfl rfl (opok_assign rfl ?_) ?_; rotate_left 1; (· (conv => (lhs; whnf)))) | refine runk_end (by kernel_rfl) ?_))
end Go.Proofs.YtboddbheljenhaaGreatDoor
namespace Go.Proofs.YtboddbheljenhaaGreatDoor
open Go.RowKit
theorem and255 (v : Nat) (h : v < 4294967296) : bits .and .u64 (v : Int) 255 = ((v % 256 : Nat) : Int) := by
  rw [show (255 : Int) = ((255 : Nat) : Int) from rfl, bits_and_u64_nat v 255 (by omega) (by omega)]
  have := Nat.and_two_pow_sub_one_eq_mod v 8
  have h2 : v &&& 255 = v % 256 := by simpa using this
  rw [h2]
def quad (n : Nat) : List UInt8 := Lib.join [Lib.itoa ((n / 16777216 % 256 : Nat) : Int), Lib.itoa ((n / 65536 % 256 : Nat) : Int), Lib.itoa ((n / 256 % 256 : Nat) : Int), Lib.itoa ((n % 256 : Nat) : Int)] [46]
set_option maxHeartbeats 8000000 in
set_option maxRecDepth 100000 in
theorem print4_spec (n : Nat) (h : n < 4294967296) : Spec Tryz.prog 69 [.val (.int .u64 (n : Int))] [] (.val (bstr (quad n))) [] := by
  have hj : (quad n).length ≤ 140737488355328 := by
    have la := Lib.itoa_length_le ((n / 16777216 % 256 : Nat) : Int) (by omega) (by omega)
    have lb := Lib.itoa_length_le ((n / 65536 % 256 : Nat) : Int) (by omega) (by omega)
    have lc := Lib.itoa_length_le ((n / 256 % 256 : Nat) : Int) (by omega) (by omega)
    have ld := Lib.itoa_length_le ((n % 256 : Nat) : Int) (by omega) (by omega)
    unfold quad
    generalize Lib.itoa ((n / 16777216 % 256 : Nat) : Int) = ta at *
    generalize Lib.itoa ((n / 65536 % 256 : Nat) : Int) = tb at *
    generalize Lib.itoa ((n / 256 % 256 : Nat) : Int) = tc at *
    generalize Lib.itoa ((n % 256 : Nat) : Int) = td at *
    rw [Lib.join_cons]
    simp [Lib.joinTail]
    omega
  have jo := join_own [Lib.itoa ((n / 16777216 % 256 : Nat) : Int), Lib.itoa ((n / 65536 % 256 : Nat) : Int), Lib.itoa ((n / 256 % 256 : Nat) : Int), Lib.itoa ((n % 256 : Nat) : Int)] [46] (by simp) hj
  rw [show Lib.join [Lib.itoa ((n / 16777216 % 256 : Nat) : Int), Lib.itoa ((n / 65536 % 256 : Nat) : Int), Lib.itoa ((n / 256 % 256 : Nat) : Int), Lib.itoa ((n % 256 : Nat) : Int)] [46] = quad n from rfl] at jo
  generalize quad n = q at *
  have a0 := and255 n h
  have a1 := and255 (n / 256) (by omega)
  have a2 := and255 (n / 65536) (by omega)
  have a3 := and255 (n / 16777216) (by omega)
  have c1 : (n : Int) / 256 = ((n / 256 : Nat) : Int) := by omega
  have c2 : (n : Int) / 65536 = ((n / 65536 : Nat) : Int) := by omega
  have c3 : (n : Int) / 16777216 = ((n / 16777216 : Nat) : Int) := by omega
  obtain ⟨x0, e0⟩ : ∃ x, n % 256 = x := ⟨_, rfl⟩
  obtain ⟨x1, e1⟩ : ∃ x, n / 256 % 256 = x := ⟨_, rfl⟩
  obtain ⟨x2, e2⟩ : ∃ x, n / 65536 % 256 = x := ⟨_, rfl⟩
  obtain ⟨x3, e3⟩ : ∃ x, n / 16777216 % 256 = x := ⟨_, rfl⟩
  rw [e0] at a0
  rw [e1] at a1
  rw [e2] at a2
  rw [e3] at a3
  rw [e0, e1, e2, e3] at jo
  have i0 := itoa_spec (x0 : Int) (by omega) (by omega)
  have i1 := itoa_spec (x1 : Int) (by omega) (by omega)
  have i2 := itoa_spec (x2 : Int) (by omega) (by omega)
  have i3 := itoa_spec (x3 : Int) (by omega) (by omega)
  have v0 : IntKind.i64.wrap (x0 : Int) = (x0 : Int) := by rw [IntKind.wrap_i64]; omega
  have v1 : IntKind.i64.wrap (x1 : Int) = (x1 : Int) := by rw [IntKind.wrap_i64]; omega
  have v2 : IntKind.i64.wrap (x2 : Int) = (x2 : Int) := by rw [IntKind.wrap_i64]; omega
  have v3 : IntKind.i64.wrap (x3 : Int) = (x3 : Int) := by rw [IntKind.wrap_i64]; omega
  clear e0 e1 e2 e3
  generalize ((n / 256 : Nat) : Int) = n1 at *
  generalize ((n / 65536 : Nat) : Int) = n2 at *
  generalize ((n / 16777216 : Nat) : Int) = n3 at *
  generalize Lib.itoa (x0 : Int) = t0 at *
  generalize Lib.itoa (x1 : Int) = t1 at *
  generalize Lib.itoa (x2 : Int) = t2 at *
  generalize Lib.itoa (x3 : Int) = t3 at *
  have w0 : IntKind.i64.wrap 24 = 24 := by decide
  have w1 : IntKind.i64.wrap 16 = 16 := by decide
  have w2 : IntKind.i64.wrap 8 = 8 := by decide
  have w3 : IntKind.i64.wrap 0 = 0 := by decide
  have w4 : IntKind.i64.wrap (-1) = -1 := by decide
  have w5 : IntKind.i64.wrap 2 = 2 := by decide
  have w6 : IntKind.i64.wrap 1 = 1 := by decide
  refine spec_of_awp Tryz.func69 rfl (Nat.le_of_ble_eq_true rfl) fun ini => ?_
  simp only [Tryz.ntmps69]
  (repeat (first | refine awp_reg_seq rfl fun k => ?_ | refine awp_seq ?_ | refine awp_block ?_ | (apply runk0 rfl rfl (opok_assign rfl ?_) ?_; rotate_left 1; (· (conv => (lhs; whnf)))) | refine runk_end (by kernel_rfl) ?_))
  refine awp_rounds 5 ?_
  (repeat (first | refine awp_reg_seq rfl fun k => ?_ | refine awp_reg rfl fun k => ?_ | refine awp_seq ?_ | refine awp_true rfl ?_ | refine awp_false rfl ?_ | refine awp_skip (?_ : Awp _ _ _ _ _ _) | refine awp_block ?_ | refine awp_exit (?_ : Awp _ _ _ _ _ _) | (refine awp_ret ?_; (apply ends_pure ?_ ?_ ?_ ?_ ?_ (.inl rfl); rotate_left 1; (· (exact res_one rfl rfl)); (· rfl); (· rfl); (· rfl); (· rfl))) | (apply runk_pure rfl rfl rfl ?_ ?_ ?_ ?_ ?_ ?_ ?_ ?_; rotate_left 6; (· (conv => (lhs; whnf))); (· exact Tryz.func53); (· rfl); (· rfl); (· exact (i0)); (· (repeat (first | exact Rens.nil | (refine Rens.cons ?_ ?_; (· ((refine Ren.pureR ?_ rfl; (rfl)))))))); (· rfl)) | (apply runk_pure rfl rfl rfl ?_ ?_ ?_ ?_ ?_ ?_ ?_ ?_; rotate_left 6; (· (conv => (lhs; whnf))); (· exact Tryz.func53); (· rfl); (· rfl); (· exact (i1)); (· (repeat (first | exact Rens.nil | (refine Rens.cons ?_ ?_; (· ((refine Ren.pureR ?_ rfl; (rfl)))))))); (· rfl)) | (apply runk_pure rfl rfl rfl ?_ ?_ ?_ ?_ ?_ ?_ ?_ ?_; rotate_left 6; (· (conv => (lhs; whnf))); (· exact Tryz.func53); (· rfl); (· rfl); (· exact (i2)); (· (repeat (first | exact Rens.nil | (refine Rens.cons ?_ ?_; (· ((refine Ren.pureR ?_ rfl; (rfl)))))))); (· rfl)) | (apply runk_pure rfl rfl rfl ?_ ?_ ?_ ?_ ?_ ?_ ?_ ?_; rotate_left 6; (· (conv => (lhs; whnf))); (· exact Tryz.func53); (· rfl); (· rfl); (· exact (i3)); (· (repeat (first | exact Rens.nil | (refine Rens.cons ?_ ?_; (· ((refine Ren.pureR ?_ rfl; (rfl)))))))); (· rfl)) | (apply runk_with rfl rfl rfl ?_ ?_ ?_ ?_ ?_ ?_ ?_ ?_ ?_ ?_ ?_; rotate_left 10; (· (conv => (lhs; whnf))); (· exact Tryz.func89); (· rfl); (· rfl); (· exact (jo)); (· (repeat (first | exact Rens.nil | (refine Rens.cons ?_ ?_; (· first | exact Ren.own _ _ _ _ _ _ rfl List.mem_cons_self | (refine Ren.pureR ?_ rfl; (rfl))))))); (· rfl); (· rfl); (· rfl); (· rfl)) | (apply runk0 rfl rfl (opok_move rfl ?_) ?_; rotate_left 1; (· (conv => (lhs; whnf)))) | (apply runk_assignOwn rfl rfl rfl ?_ ?_ ?_; rotate_left 4; (· (conv => (lhs; whnf))); (· (conv => (lhs; whnf; arg 1; whnf)))) | (apply runk0 rfl rfl (opok_assign rfl ?_) ?_; rotate_left 1; (· (conv => (lhs; whnf)))) | (apply runk0 rfl rfl (opok_bin rfl ?_ ?_ ?_) ?_; rotate_left 3; (· (conv => (lhs; whnf))); (· (conv => (lhs; whnf))); (· (intro w; go_simp; rfl))) | (apply runk0 rfl rfl (opok_conv rfl ?_ ?_) ?_; rotate_left 2; (· (conv => (lhs; whnf))); (· (intro w; go_simp; rfl))) | (apply runk_lit rfl rfl rfl ?_ ?_ ?_ ?_ ?_ ?_ ?_ ?_ ?_ ?_ ?_; rotate_left 4; (· (conv => (lhs; whnf; arg 1; whnf))); (· (unfold sizeIs; conv => (lhs; whnf; arg 1; whnf))); (· (conv => (lhs; whnf; arg 1; whnf))); (· rfl); (· rfl); (· rfl); (· rfl); (· (repeat (first | exact PartsAre.nil _ | (apply PartsAre.cons; (· (conv => (lhs; whnf))))))); (· rfl); (· rfl)) | refine runk_end (by kernel_rfl) ?_ | (apply runk_app rfl rfl rfl ?_ ?_ ?_ ?_ ?_ ?_ ?_ ?_ ?_ ?_ ?_ ?_ ?_ ?_ ?_ ?_; rotate_left 11; (· (conv => (lhs; whnf))); (· (conv => (lhs; whnf))); (· (conv => (lhs; whnf; arg 1; whnf))); (· (unfold sizeIs; conv => (lhs; whnf; arg 1; whnf))); (· (conv => (lhs; whnf; arg 1; whnf))); (· (conv => (lhs; whnf; arg 1; whnf))); (· rfl); (· rfl); (· rfl); (· first | exact .nil | (refine .own _ _ _ _ rfl ?_; rfl)); (· ((refine .own _ _ _ _ _ _ rfl ?_; rfl))); (· rfl); (· rfl); (· ((simp; done))); (· first | (simp only [List.nil_append, ints_takeR, ints_dropR, ints_one, ints_consR, ints_append]; rfl) | rfl))))
def grps (hi lo : Nat) : List Nat := [hi / 281474976710656 % 65536, hi / 4294967296 % 65536, hi / 65536 % 65536, hi % 65536, lo / 281474976710656 % 65536, lo / 4294967296 % 65536, lo / 65536 % 65536, lo % 65536]
theorem u16_nat (a : Nat) : IntKind.u16.wrap (a : Int) = ((a % 65536 : Nat) : Int) := by rw [IntKind.wrap_u16]; omega
set_option maxHeartbeats 8000000 in
set_option maxRecDepth 100000 in
theorem split_addr (v : Bool) (hi lo : Nat) : Spec Tryz.prog 71 [.agg [.val (.bool v), .val (.int .u64 (hi : Int)), .val (.int .u64 (lo : Int))]] [] (.agg (ints .u16 (nats (grps hi lo)))) [] := by
  unfold grps
  have c1 : (hi : Int) / 281474976710656 = ((hi / 281474976710656 : Nat) : Int) := by omega
  have c2 : (hi : Int) / 4294967296 = ((hi / 4294967296 : Nat) : Int) := by omega
  have c3 : (hi : Int) / 65536 = ((hi / 65536 : Nat) : Int) := by omega
  have d1 : (lo : Int) / 281474976710656 = ((lo / 281474976710656 : Nat) : Int) := by omega
  have d2 : (lo : Int) / 4294967296 = ((lo / 4294967296 : Nat) : Int) := by omega
  have d3 : (lo : Int) / 65536 = ((lo / 65536 : Nat) : Int) := by omega
  have f0 := u16_nat hi
  have f1 := u16_nat (hi / 281474976710656)
  have f2 := u16_nat (hi / 4294967296)
  have f3 := u16_nat (hi / 65536)
  have g0 := u16_nat lo
  have g1 := u16_nat (lo / 281474976710656)
  have g2 := u16_nat (lo / 4294967296)
  have g3 := u16_nat (lo / 65536)
  generalize hi / 281474976710656 % 65536 = x1 at *
  generalize hi / 4294967296 % 65536 = x2 at *
  generalize hi / 65536 % 65536 = x3 at *
  generalize hi % 65536 = x0 at *
  generalize lo / 281474976710656 % 65536 = y1 at *
  generalize lo / 4294967296 % 65536 = y2 at *
  generalize lo / 65536 % 65536 = y3 at *
  generalize lo % 65536 = y0 at *
  generalize ((hi / 281474976710656 : Nat) : Int) = h1 at *
  generalize ((hi / 4294967296 : Nat) : Int) = h2 at *
  generalize ((hi / 65536 : Nat) : Int) = h3 at *
  generalize ((lo / 281474976710656 : Nat) : Int) = l1 at *
  generalize ((lo / 4294967296 : Nat) : Int) = l2 at *
  generalize ((lo / 65536 : Nat) : Int) = l3 at *
  generalize (hi : Int) = hz at *
  generalize (lo : Int) = lz at *
  have w : ∀ x : Int, 0 ≤ x → x < 100 → IntKind.i64.wrap x = x := fun x _ _ => by rw [IntKind.wrap_i64]; omega
  have w0 := w 0 (by decide) (by decide)
  have w1 := w 1 (by decide) (by decide)
  have w2 := w 2 (by decide) (by decide)
  have w3 := w 3 (by decide) (by decide)
  have w4 := w 4 (by decide) (by decide)
  have w5 := w 5 (by decide) (by decide)
  have w6 := w 6 (by decide) (by decide)
  have w7 := w 7 (by decide) (by decide)
  have w16 := w 16 (by decide) (by decide)
  have w32 := w 32 (by decide) (by decide)
  have w48 := w 48 (by decide) (by decide)
  clear w
  refine spec_of_awp Tryz.func71 rfl (Nat.le_of_ble_eq_true rfl) fun ini => ?_
  simp only [Tryz.ntmps71]
  (repeat (first | refine awp_reg_seq rfl fun k => ?_ | refine awp_seq ?_ | refine awp_block ?_ | (apply runk0 rfl rfl (opok_move rfl ?_) ?_; rotate_left 1; (· (conv => (lhs; whnf)))) | (apply runk_box rfl rfl rfl ?_ ?_ ?_ ?_; rotate_left 2; (· (conv => (lhs; whnf))); (· rfl); (· (conv => (lhs; whnf)))) | (apply runk_alloc rfl rfl rfl ?_ ?_ ?_; rotate_left 2; (· (conv => (lhs; whnf; arg 1; whnf))); (· (conv => (lhs; whnf)))) | refine runk_end (by kernel_rfl) ?_))
  refine awp_rounds 5 ?_
  (repeat (first | refine awp_reg_seq rfl fun k => ?_ | refine awp_reg rfl fun k => ?_ | refine awp_seq ?_ | refine awp_true rfl ?_ | refine awp_false rfl ?_ | refine awp_skip (?_ : Awp _ _ _ _ _ _) | refine awp_block ?_ | refine awp_exit (?_ : Awp _ _ _ _ _ _) | (refine awp_ret ?_; (apply ends_pure ?_ ?_ ?_ ?_ ?_ (.inl rfl); rotate_left 1; (· (exact res_cell rfl rfl rfl rfl rfl)); (· rfl); (· rfl); (· rfl); (· rfl))) | (((apply runk0 rfl rfl (opok_indexP rfl ?_ ?_ rfl ?_ ?_ ?_) ?_; rotate_left 6; (· (conv => (lhs; whnf))); (· (conv => (lhs; whnf))); (· (unfold sizeIs; conv => (lhs; whnf; arg 1; whnf))); (· omega); (· omega)))) | (((apply runk_storeI rfl rfl rfl ?_ ?_ ?_ ?_ ?_ ?_ ?_ ?_ ?_; rotate_left 7; (· (conv => (lhs; whnf))); (· rfl); (· (conv => (lhs; whnf))); (· rfl); (· rfl); (· (unfold sizeIs; conv => (lhs; whnf; arg 1; whnf))); (· ((simp; done))); (· rfl)))) | (apply runk0 rfl rfl (opok_move rfl ?_) ?_; rotate_left 1; (· (conv => (lhs; whnf)))) | (apply runk0 rfl rfl (opok_assign rfl ?_) ?_; rotate_left 1; (· (conv => (lhs; whnf)))) | (apply runk_fa rfl rfl rfl ?_ rfl rfl ?_ ?_ ?_ ?_; rotate_left 5; (· (conv => (lhs; whnf))); (· (unfold sizeIs; conv => (lhs; whnf; arg 1; whnf))); (· rfl); (· (conv => (lhs; whnf)))) | (((apply runk0 rfl rfl (opok_load rfl ?_ ?_ ?_ ?_) ?_; rotate_left 5; (· (conv => (lhs; whnf))); (· (conv => (lhs; whnf; arg 1; whnf; arg 2; whnf))); (· rfl); (· (conv => (lhs; whnf; arg 1; whnf)))))) | (apply runk0 rfl rfl (opok_loadA rfl ?_ ?_ ?_ ?_ ?_ ?_) ?_; rotate_left 6; (· (conv => (lhs; whnf))); (· (conv => (lhs; whnf; arg 1; whnf; arg 2; whnf))); (· rfl); (· (unfold sizeIs; conv => (lhs; whnf; arg 1; whnf))); (· (conv => (lhs; repeat (whnf; arg 2)))); (· rfl)) | (apply runk0 rfl rfl (opok_bin rfl ?_ ?_ ?_) ?_; rotate_left 3; (· (conv => (lhs; whnf))); (· (conv => (lhs; whnf))); (· (intro w; go_simp; rfl))) | (apply runk0 rfl rfl (opok_conv rfl ?_ ?_) ?_; rotate_left 2; (· (conv => (lhs; whnf))); (· (intro w; go_simp; rfl))) | (apply runk_store rfl rfl rfl ?_ ?_ ?_ ?_ ?_ ?_ ?_ ?_ ?_ ?_ ?_; rotate_left 9; (· (conv => (lhs; whnf))); (· (conv => (lhs; whnf))); (· (conv => (lhs; whnf; arg 1; whnf; arg 2; whnf))); (· rfl); (· (conv => (lhs; whnf))); (· rfl); (· (unfold sizeIs; conv => (lhs; whnf; arg 1; whnf))); (· rfl); (· rfl); (· (conv => (lhs; repeat (whnf; arg 2))))) | refine runk_end (by kernel_rfl) ?_))
end Go.Proofs.YtboddbheljenhaaGreatDoor
