/-
  The reference's Parse of a text with two colons.
-/
import Derived.Test.YtboddbheljenhaaGreatDoorRps
import Derived.Test.YtboddbheljenhaaGreatDoorAbsLn
namespace Go.Proofs.YtboddbheljenhaaGreatDoor
open Go.RowKit
theorem rfrom_lend {xs : List Nat} (h : ∀ x ∈ xs, x < 256) {a : Bool × Int × Int} (hz : fromZ (nats xs) = a) (he : fromE (nats xs) = 0) (m : Nat) (hm : m = xs.length) : Spec Tryz.prog 47 [.own 0 0 m] [(0, some (0, .row 5 1 (ints .u8 (nats xs))))] (.tuple [.agg [.val (.bool a.1), .val (.int .u64 a.2.1), .val (.int .u64 a.2.2)], .val (.int .i64 0)]) [(0, some (0, .row 5 1 (ints .u8 (nats xs))))] := by
  have rf := rfrom_nats h hz he
  have e : m = (ints .u8 (nats xs)).length := by rw [length_ints, hm]; unfold nats; rw [List.length_map]
  subst e
  refine spec_lendT (args := [.ro (ints .u8 (nats xs))]) (timeless_tuple fun x hx => ?_) rfl (fun i y hi => ?_) rf
  · simp only [List.mem_cons, List.not_mem_nil, or_false] at hx
    rcases hx with rfl | rfl
    · exact timeless_agg fun y hy => by
        simp only [List.mem_cons, List.not_mem_nil, or_false] at hy
        rcases hy with rfl | rfl | rfl <;> exact timeless_val _
    · exact timeless_val _
  · match i, hi with
    | 0, hi => cases hi; exact ⟨_, rfl, .one (.own _ rfl)⟩
theorem nats_len (xs : List Nat) : (nats xs).length = xs.length := by unfold nats; rw [List.length_map]
theorem pad_ex (a b : List Nat) (h : a.length + b.length < 8) : ∃ R : Nat → List Nat, R (2 * a.length) = grB a ∧ (∀ y, 2 * a.length ≤ y → nats (R (y + 1)) = nats (R y) ++ [0]) ∧ (∀ y, 2 * a.length ≤ y → (nats (R y)).length = y) ∧ R (16 - 2 * b.length) ++ grB b = grB (a ++ List.replicate (8 - a.length - b.length) 0 ++ b) := by
  refine ⟨fun y => grB a ++ List.replicate (y - 2 * a.length) 0, by simp, fun y hy => ?_, fun y hy => ?_, ?_⟩
  · dsimp only
    rw [show y + 1 - 2 * a.length = y - 2 * a.length + 1 by omega, List.replicate_succ', ← List.append_assoc, nats_app]
    rfl
  · dsimp only
    rw [nats_len, List.length_append, grB_len, List.length_replicate]
    omega
  · dsimp only
    rw [grB_app, grB_app, grB_zero]
    congr 3
    omega
set_option maxHeartbeats 16000000 in
set_option maxRecDepth 100000 in
theorem rparse_ok (l : List UInt8) (hl : l.length ≤ 100000) (hb : hasB l 58 = true) (i j : Nat) (hi : Lib.index l [58, 58] = (i : Int)) (hj : i + 2 = j) (hjl : j ≤ l.length)
    {a b : List Nat} (ea : pgN true (l.take i) = some a) (eb : pgN true (l.drop j) = some b) (hd : hasB (l.take i) 46 = false) (h8 : a.length + b.length < 8) (hne : ¬ l.take i = []) {J : Bool × Int × Int} (hJ : jn8 (a ++ List.replicate (8 - a.length - b.length) 0 ++ b) = J) : Spec Tryz.prog 63 [.val (bstr l)] [] (.tuple [.agg [.val (.bool J.1), .val (.int .u64 J.2.1), .val (.int .u64 J.2.2)], .val (.int .i64 0)]) [] := by
  have ct := contains_spec l 58
  rw [hb] at ct
  have ix := index_sub l [58, 58] (by omega)
  rw [hi] at ix
  have d1 : decide ((i : Int) < 0) = false := decide_eq_false (by omega)
  have wj : IntKind.i64.wrap ((i : Int) + 2) = (j : Int) := by rw [IntKind.wrap_i64]; omega
  have eT : (l.drop j).take (l.length - j) = l.drop j := List.take_of_length_le (by simp)
  have gt := rgs_spec (l.drop j) (by rw [List.length_drop]; omega)
  have dt := contains_spec (l.take i) 46
  rw [hd] at dt
  unfold rgV at gt
  rw [rgN_pgN, eb, ← eT] at gt
  dsimp only [Option.map_some] at gt
  have hil : i ≤ l.length := by omega
  have hrg : rgF (splitC 58 (l.take i)) = some (grB a) := by
    have := rgN_pgN (l.take i)
    rw [ea] at this
    unfold rgN at this
    rw [if_neg hne] at this
    exact this
  have gh := rgs_ok (l.take i) (by rw [List.length_take]; omega) hne hrg
  rw [grB_len] at gh
  obtain ⟨R, hR0, hRs, hRl, hR16⟩ := pad_ex a b h8
  have hlt : ∀ x ∈ a ++ List.replicate (8 - a.length - b.length) 0 ++ b, x < 65536 := by
    intro x hx
    rcases List.mem_append.1 hx with hx | hx
    · rcases List.mem_append.1 hx with hx | hx
      · exact pgN_lt ea x hx
      · rw [(List.mem_replicate.1 hx).2]; omega
    · exact pgN_lt eb x hx
  obtain ⟨f1, f2⟩ := from_grB (xs := a ++ List.replicate (8 - a.length - b.length) 0 ++ b) (by simp; omega) hlt
  have hl16 := grB_len (a ++ List.replicate (8 - a.length - b.length) 0 ++ b)
  have h16 : (a ++ List.replicate (8 - a.length - b.length) 0 ++ b).length = 8 := by simp; omega
  rw [hJ] at f1
  have fb := fun (m : Nat) (hm : m = 16) => rfrom_lend (grB_lt hlt) f1 f2 m (by rw [hl16, h16, hm])
  rw [← hR16, nats_app] at fb
  rw [← hR0] at gh
  have na : (nats (R (2 * a.length))).length = 2 * a.length := hRl _ (Nat.le_refl _)
  have nb : (nats (grB b)).length = 2 * b.length := by rw [nats_len, grB_len]
  obtain ⟨N, hN⟩ : ∃ N, 2 * a.length + 2 * b.length = N := ⟨_, rfl⟩
  have ws : IntKind.i64.wrap (((2 * a.length : Nat) : Int) + ((2 * b.length : Nat) : Int)) = (N : Int) := by rw [IntKind.wrap_i64]; omega
  have dN : decide ((N : Int) > 14) = false := decide_eq_false (by omega)
  have dN2 : decide (14 < (N : Int)) = false := decide_eq_false (by omega)
  have dN3 : decide (14 < N) = false := decide_eq_false (by omega)
  have hr1 : 2 * a.length + 2 * b.length ≤ 14 := by omega
  generalize nats (grB b) = ys at *
  clear f1 f2 hlt hl16 h16 hJ hR16 ea eb hd hR0
  generalize 2 * b.length = n2 at *
  generalize hn1 : 2 * a.length = n1 at *
  refine spec_of_awp Tryz.func63 rfl (Nat.le_of_ble_eq_true rfl) fun ini => ?_
  simp only [Tryz.ntmps63]
  (repeat (first | refine awp_reg_seq rfl fun k => ?_ | refine awp_seq ?_ | refine awp_false rfl ?_ | refine awp_skip (?_ : Awp _ _ _ _ _ _) | refine awp_block ?_ | (apply runk_pure rfl rfl rfl ?_ ?_ ?_ ?_ ?_ ?_ ?_ ?_; rotate_left 6; (· (conv => (lhs; whnf))); (· exact Tryz.func75); (· rfl); (· rfl); (· exact (ct)); (· (repeat (first | exact Rens.nil | (refine Rens.cons ?_ ?_; (· ((refine Ren.pureR ?_ rfl; (rfl)))))))); (· rfl)) | (apply runk_pure rfl rfl rfl ?_ ?_ ?_ ?_ ?_ ?_ ?_ ?_; rotate_left 6; (· (conv => (lhs; whnf))); (· exact Tryz.func83); (· rfl); (· rfl); (· exact (ix)); (· (repeat (first | exact Rens.nil | (refine Rens.cons ?_ ?_; (· ((refine Ren.pureR ?_ rfl; (rfl)))))))); (· rfl)) | (apply runk_made rfl rfl rfl ?_ ?_ ?_ ?_ ?_ ?_ ?_ ?_ ?_; rotate_left 8; (· (conv => (lhs; whnf))); (· exact Tryz.func84); (· rfl); (· rfl); (· exact (gh)); (· (repeat (first | exact Rens.nil | (refine Rens.cons ?_ ?_; (· ((refine Ren.pureR ?_ rfl; (rfl)))))))); (· ((apply RenT.tuple; (repeat (first | exact Rens.nil | (apply Rens.cons; (· first | exact Ren.own _ _ _ _ _ _ rfl List.mem_cons_self | (refine Ren.pureR ?_ rfl; (rfl))))))))); (· (simp [AVal.pure, AVal.pures, AObj.pure]))) | (apply runk_pure rfl rfl rfl ?_ ?_ ?_ ?_ ?_ ?_ ?_ ?_; rotate_left 6; (· (conv => (lhs; whnf))); (· exact Tryz.func84); (· rfl); (· rfl); (· exact (gt)); (· (repeat (first | exact Rens.nil | (refine Rens.cons ?_ ?_; (· ((refine Ren.pureR ?_ rfl; (rfl)))))))); (· (simp [AVal.pure, AVal.pures, AObj.pure]))) | (apply runk_guard rfl rfl ?_ rfl ?_ ?_; rotate_left 3; (· (conv => (lhs; whnf))); (· (intro hb; (try rw [hb]); apply opok_pure rfl ?_ ?_ ?_ ?_ ?_ ?_ ?_; rotate_left 6; (· (conv => (lhs; whnf))); (· exact Tryz.func75); (· rfl); (· rfl); (· exact (dt)); (· (repeat (first | exact Rens.nil | (refine Rens.cons ?_ ?_; (· ((refine Ren.pureR ?_ rfl; (rfl)))))))); (· rfl)))) | (((((apply runk0 rfl rfl (opok_sslice _ _ rfl ?_ rfl ?_ ?_ ?_ ?_) ?_; rotate_left 3; (· ((conv => (lhs; whnf)); try exact rfl)); (· first | exact .inl ⟨rfl, rfl⟩ | exact .inr ⟨_, _, rfl, rfl⟩); (· first | exact .inl ⟨rfl, rfl⟩ | exact .inr ⟨_, _, rfl, rfl⟩); (· omega); (· omega)))))) | (((apply runk_guard rfl rfl ?_ rfl ?_ ?_; rotate_left 3; (· (conv => (lhs; whnf))); (· (intro hb; (try rw [hb]); apply opok_un rfl ?_ ?_; rotate_left 2; (· (conv => (lhs; whnf))); (· (intro w; go_simp; rfl))))))) | ((refine runk_ung rfl rfl rfl rfl ?_)) | (apply runk0 rfl rfl (opok_move rfl ?_) ?_; rotate_left 1; (· (conv => (lhs; whnf)))) | (apply runk_assignOwn rfl rfl rfl ?_ ?_ ?_; rotate_left 4; (· (conv => (lhs; whnf))); (· (conv => (lhs; whnf; arg 1; whnf)))) | (apply runk0 rfl rfl (opok_assign rfl ?_) ?_; rotate_left 1; (· (conv => (lhs; whnf)))) | (apply runk0 rfl rfl (opok_bin rfl ?_ ?_ ?_) ?_; rotate_left 3; (· (conv => (lhs; whnf))); (· (conv => (lhs; whnf))); (· (intro w; go_simp; rfl))) | (apply runk0 rfl rfl (opok_un rfl ?_ ?_) ?_; rotate_left 2; (· (conv => (lhs; whnf))); (· (intro w; go_simp; rfl))) | (first | (apply runk0 rfl rfl (opok_lenO rfl ?_ ?_ ?_) ?_; rotate_left 5; (· (conv => (lhs; whnf))); (· (conv => (lhs; whnf; arg 1; whnf))); (· rfl)) | (apply runk0 rfl rfl (opok_len rfl ?_ ?_ ?_) ?_; rotate_left 3; (· (conv => (lhs; whnf))); (· (conv => (lhs; whnf; arg 1; whnf))); (· (exact length_ints _ _)))) | (apply runk0 rfl rfl (opok_pick rfl ?_ ?_) ?_; rotate_left 2; (· (conv => (lhs; whnf))); (· (exact pick_or))) | (apply runk0 rfl rfl (opok_extract rfl ?_ ?_) ?_; rotate_left 2; (· (conv => (lhs; whnf))); (· (conv => (lhs; whnf; arg 1; whnf)))) | (apply runk_alloc rfl rfl rfl ?_ ?_ ?_; rotate_left 2; (· (conv => (lhs; whnf; arg 1; whnf))); (· (conv => (lhs; whnf)))) | refine runk_end (by kernel_rfl) ?_))
  rename_i k0 k1 k6 k7 k12 k13
  refine awp_loop (fun m st => ∃ (y kq : Nat), y + m + n2 = 16 ∧ n1 ≤ y ∧ st.leB ⟨[(2, .ptr 2 k0 0), (9, .own 9 kq (ints .u8 (nats (R y))).length), (11, .ro (ints .u8 ys))], [(2, some (k0, .box 24 [.val (.bool false), .val (.int .u64 0), .val (.int .u64 0)])), (9, some (kq, .row 5 1 (ints .u8 (nats (R y)))))]⟩) (16 - n1 - n2) ⟨n1, k12, by omega, Nat.le_refl _, by (refine leB_of ?_ ?_; (· (repeat (first | exact EnvIs.nil | (refine EnvIs.cons ?_ ?_; (· first | rfl | ((conv => (lhs; whnf)); ((simp [na]; done)))))))); (· (repeat (first | exact ObjsAre.nil | (refine ObjsAre.cons ?_ ?_; (· rfl))))))⟩ ?_
  rintro m st ⟨y, kq, hym, hny, hle⟩
  refine awp_less hle ?_
  clear hle st
  have hy1 := hRl y hny
  have hy2 := hRs y hny
  obtain ⟨M, hM⟩ : ∃ M, y + n2 = M := ⟨_, rfl⟩
  have wM : IntKind.i64.wrap ((y : Int) + (n2 : Int)) = (M : Int) := by rw [IntKind.wrap_i64]; omega
  have hM16 : M ≤ 16 := by omega
  (repeat (first | refine awp_reg_seq rfl fun k => ?_ | refine awp_seq ?_ | (apply runk0 rfl rfl (opok_move rfl ?_) ?_; rotate_left 1; (· (conv => (lhs; whnf)))) | (apply runk0 rfl rfl (opok_bin rfl ?_ ?_ ?_) ?_; rotate_left 3; (· (conv => (lhs; whnf))); (· (conv => (lhs; whnf))); (· (intro w; go_simp; rfl))) | (first | (apply runk0 rfl rfl (opok_lenO rfl ?_ ?_ ?_) ?_; rotate_left 5; (· (conv => (lhs; whnf))); (· (conv => (lhs; whnf; arg 1; whnf))); (· (exact length_ints _ _))) | (apply runk0 rfl rfl (opok_len rfl ?_ ?_ ?_) ?_; rotate_left 3; (· (conv => (lhs; whnf))); (· (conv => (lhs; whnf; arg 1; whnf))); (· (exact length_ints _ _)))) | refine runk_end (by kernel_rfl) ?_))
  refine awp_if rfl (fun hc => ?_) (fun hc => ?_)
  · have hi2 : M < 16 := by simp at hc; omega
    clear hc
    have hyl : (ints .u8 (nats (R y))).length = y := by rw [length_ints, hy1]
    have htk : (nats (R y)).take (nats (R y)).length = nats (R y) := List.take_length
    have htk2 : (nats (R y)).take (ints .u8 (nats (R y))).length = nats (R y) := by rw [length_ints]; exact List.take_length
    have htk3 : (nats (R y)).take y = nats (R y) := List.take_of_length_le (by omega)
    (repeat (first | refine awp_reg rfl fun k => ?_ | refine awp_skip (?_ : Awp _ _ _ _ _ _) | refine awp_block ?_ | (apply runk0 rfl rfl (opok_move rfl ?_) ?_; rotate_left 1; (· (conv => (lhs; whnf)))) | (apply runk_assignOwn rfl rfl rfl ?_ ?_ ?_; rotate_left 4; (· (conv => (lhs; whnf))); (· (conv => (lhs; whnf; arg 1; whnf)))) | (apply runk_lit rfl rfl rfl ?_ ?_ ?_ ?_ ?_ ?_ ?_ ?_ ?_ ?_ ?_; rotate_left 4; (· (conv => (lhs; whnf; arg 1; whnf))); (· (unfold sizeIs; conv => (lhs; whnf; arg 1; whnf))); (· (conv => (lhs; whnf; arg 1; whnf))); (· rfl); (· rfl); (· rfl); (· rfl); (· (repeat (first | exact PartsAre.nil _ | (apply PartsAre.cons; (· (conv => (lhs; whnf))))))); (· rfl); (· rfl)) | refine runk_end (by kernel_rfl) ?_ | (apply runk_app rfl rfl rfl ?_ ?_ ?_ ?_ ?_ ?_ ?_ ?_ ?_ ?_ ?_ ?_ ?_ ?_ ?_ ?_; rotate_left 11; (· (conv => (lhs; whnf))); (· (conv => (lhs; whnf))); (· (conv => (lhs; whnf; arg 1; whnf))); (· (unfold sizeIs; conv => (lhs; whnf; arg 1; whnf))); (· (conv => (lhs; whnf; arg 1; whnf))); (· (conv => (lhs; whnf; arg 1; whnf))); (· rfl); (· rfl); (· rfl); (· ((refine .own _ _ _ _ rfl ?_; rfl))); (· ((refine .own _ _ _ _ _ _ rfl ?_; rfl))); (· rfl); (· rfl); (· ((simp; omega))); (· ((simp only [List.nil_append, ints_takeR, ints_dropR, ints_one, ints_consR, ints_append]; rfl))))))
    exact ⟨16 - n2 - (y + 1), by omega, y + 1, _, by omega, by omega, by rw [hy2]; (refine leB_of ?_ ?_; (· (repeat (first | exact EnvIs.nil | (refine EnvIs.cons ?_ ?_; (· rfl))))); (· (repeat (first | exact ObjsAre.nil | (refine ObjsAre.cons ?_ ?_; (· rfl))))))⟩
  · have hi2 : M = 16 := by simp at hc; omega
    have hyn : y = 16 - n2 := by omega
    subst hyn
    clear hc
    have fb2 := fb (ints .u8 (nats (R (16 - n2)) ++ ys)).length (by rw [length_ints, List.length_append]; omega)
    (repeat (first | refine awp_reg_seq rfl fun k => ?_ | refine awp_exit (?_ : Awp _ _ _ _ _ _) | (refine awp_ret ?_; (apply ends_pure ?_ ?_ ?_ ?_ ?_ (.inl rfl); rotate_left 1; (· (exact res_cell2 rfl rfl rfl rfl rfl rfl)); (· rfl); (· rfl); (· rfl); (· rfl))) | (apply runk_with rfl rfl rfl ?_ ?_ ?_ ?_ ?_ ?_ ?_ ?_ ?_ ?_ ?_; rotate_left 10; (· (conv => (lhs; whnf))); (· exact Tryz.func47); (· rfl); (· rfl); (· exact (fb2)); (· (repeat (first | exact Rens.nil | (refine Rens.cons ?_ ?_; (· (exact Ren.own _ _ _ _ _ _ rfl List.mem_cons_self)))))); (· rfl); (· rfl); (· (simp [AVal.pure, AVal.pures, AObj.pure])); (· (simp [AVal.pure, AVal.pures, AObj.pure]))) | (apply runk0 rfl rfl (opok_move rfl ?_) ?_; rotate_left 1; (· (conv => (lhs; whnf)))) | (apply runk0 rfl rfl (opok_assign rfl ?_) ?_; rotate_left 1; (· (conv => (lhs; whnf)))) | (apply runk0 rfl rfl (opok_extract rfl ?_ ?_) ?_; rotate_left 2; (· (conv => (lhs; whnf))); (· (conv => (lhs; whnf; arg 1; whnf)))) | (apply runk_store rfl rfl rfl ?_ ?_ ?_ ?_ ?_ ?_ ?_ ?_ ?_ ?_ ?_; rotate_left 9; (· (conv => (lhs; whnf))); (· (conv => (lhs; whnf))); (· (conv => (lhs; whnf; arg 1; whnf; arg 2; whnf))); (· rfl); (· (conv => (lhs; whnf))); (· rfl); (· (unfold sizeIs; conv => (lhs; whnf; arg 1; whnf))); (· rfl); (· rfl); (· (conv => (lhs; repeat (whnf; arg 2))))) | refine runk_end (by kernel_rfl) ?_ | (apply runk_app rfl rfl rfl ?_ ?_ ?_ ?_ ?_ ?_ ?_ ?_ ?_ ?_ ?_ ?_ ?_ ?_ ?_ ?_; rotate_left 11; (· (conv => (lhs; whnf))); (· (conv => (lhs; whnf))); (· (conv => (lhs; whnf; arg 1; whnf))); (· (unfold sizeIs; conv => (lhs; whnf; arg 1; whnf))); (· (conv => (lhs; whnf; arg 1; whnf))); (· (conv => (lhs; whnf; arg 1; whnf))); (· rfl); (· rfl); (· rfl); (· ((refine .own _ _ _ _ rfl ?_; rfl))); (· (exact .ro _)); (· (exact widths_ints _ _)); (· (exact one_ints _ _)); (· ((simp; omega))); (· ((simp only [List.nil_append, ints_takeR, ints_dropR, ints_one, ints_consR, ints_append]; rfl))))))
set_option maxHeartbeats 16000000 in
set_option maxRecDepth 100000 in
theorem rparse_nil (l : List UInt8) (hl : l.length ≤ 100000) (hb : hasB l 58 = true) (i j : Nat) (hi : Lib.index l [58, 58] = (i : Int)) (hj : i + 2 = j) (hjl : j ≤ l.length)
    {a b : List Nat} (ea : pgN true (l.take i) = some a) (eb : pgN true (l.drop j) = some b) (hd : hasB (l.take i) 46 = false) (h8 : a.length + b.length < 8) (hne : l.take i = []) {J : Bool × Int × Int} (hJ : jn8 (a ++ List.replicate (8 - a.length - b.length) 0 ++ b) = J) : Spec Tryz.prog 63 [.val (bstr l)] [] (.tuple [.agg [.val (.bool J.1), .val (.int .u64 J.2.1), .val (.int .u64 J.2.2)], .val (.int .i64 0)]) [] := by
  have ct := contains_spec l 58
  rw [hb] at ct
  have ix := index_sub l [58, 58] (by omega)
  rw [hi] at ix
  have d1 : decide ((i : Int) < 0) = false := decide_eq_false (by omega)
  have wj : IntKind.i64.wrap ((i : Int) + 2) = (j : Int) := by rw [IntKind.wrap_i64]; omega
  have eT : (l.drop j).take (l.length - j) = l.drop j := List.take_of_length_le (by simp)
  have gt := rgs_spec (l.drop j) (by rw [List.length_drop]; omega)
  have dt := contains_spec (l.take i) 46
  rw [hd] at dt
  unfold rgV at gt
  rw [rgN_pgN, eb, ← eT] at gt
  dsimp only [Option.map_some] at gt
  have hil : i ≤ l.length := by omega
  have gh := rgs_nil
  rw [← hne] at gh
  have ha : a = [] := by
    rw [hne] at ea
    have : pgN true [] = some [] := by unfold pgN; rw [if_pos rfl]
    rw [this] at ea
    injection ea with ea
    exact ea.symm
  obtain ⟨R, hR0, hRs, hRl, hR16⟩ := pad_ex a b h8
  have hlt : ∀ x ∈ a ++ List.replicate (8 - a.length - b.length) 0 ++ b, x < 65536 := by
    intro x hx
    rcases List.mem_append.1 hx with hx | hx
    · rcases List.mem_append.1 hx with hx | hx
      · exact pgN_lt ea x hx
      · rw [(List.mem_replicate.1 hx).2]; omega
    · exact pgN_lt eb x hx
  obtain ⟨f1, f2⟩ := from_grB (xs := a ++ List.replicate (8 - a.length - b.length) 0 ++ b) (by simp; omega) hlt
  have hl16 := grB_len (a ++ List.replicate (8 - a.length - b.length) 0 ++ b)
  have h16 : (a ++ List.replicate (8 - a.length - b.length) 0 ++ b).length = 8 := by simp; omega
  rw [hJ] at f1
  have fb := fun (m : Nat) (hm : m = 16) => rfrom_lend (grB_lt hlt) f1 f2 m (by rw [hl16, h16, hm])
  rw [← hR16, nats_app] at fb
  have na : (nats (R (2 * a.length))).length = 2 * a.length := hRl _ (Nat.le_refl _)
  have nb : (nats (grB b)).length = 2 * b.length := by rw [nats_len, grB_len]
  obtain ⟨N, hN⟩ : ∃ N, 2 * a.length + 2 * b.length = N := ⟨_, rfl⟩
  have ws : IntKind.i64.wrap (((2 * a.length : Nat) : Int) + ((2 * b.length : Nat) : Int)) = (N : Int) := by rw [IntKind.wrap_i64]; omega
  have dN : decide ((N : Int) > 14) = false := decide_eq_false (by omega)
  have dN2 : decide (14 < (N : Int)) = false := decide_eq_false (by omega)
  have dN3 : decide (14 < N) = false := decide_eq_false (by omega)
  have hr1 : 2 * a.length + 2 * b.length ≤ 14 := by omega
  generalize nats (grB b) = ys at *
  clear f1 f2 hlt hl16 h16 hJ hR16 ea eb hd hR0
  generalize 2 * b.length = n2 at *
  generalize hn1 : 2 * a.length = n1 at *
  have hn0 : n1 = 0 := by rw [← hn1, ha]; rfl
  subst hn0
  have hR00 : nats (R 0) = [] := List.eq_nil_of_length_eq_zero na
  have wn2 : IntKind.i64.wrap (n2 : Int) = (n2 : Int) := by rw [IntKind.wrap_i64]; omega
  have dn1 : decide ((n2 : Int) > 14) = false := decide_eq_false (by omega)
  have dn2 : decide (14 < (n2 : Int)) = false := decide_eq_false (by omega)
  have dn3 : decide (14 < n2) = false := decide_eq_false (by omega)
  refine spec_of_awp Tryz.func63 rfl (Nat.le_of_ble_eq_true rfl) fun ini => ?_
  simp only [Tryz.ntmps63]
  (repeat (first | refine awp_reg_seq rfl fun k => ?_ | refine awp_seq ?_ | refine awp_false rfl ?_ | refine awp_skip (?_ : Awp _ _ _ _ _ _) | refine awp_block ?_ | (apply runk_pure rfl rfl rfl ?_ ?_ ?_ ?_ ?_ ?_ ?_ ?_; rotate_left 6; (· (conv => (lhs; whnf))); (· exact Tryz.func75); (· rfl); (· rfl); (· exact (ct)); (· (repeat (first | exact Rens.nil | (refine Rens.cons ?_ ?_; (· ((refine Ren.pureR ?_ rfl; (rfl)))))))); (· rfl)) | (apply runk_pure rfl rfl rfl ?_ ?_ ?_ ?_ ?_ ?_ ?_ ?_; rotate_left 6; (· (conv => (lhs; whnf))); (· exact Tryz.func83); (· rfl); (· rfl); (· exact (ix)); (· (repeat (first | exact Rens.nil | (refine Rens.cons ?_ ?_; (· ((refine Ren.pureR ?_ rfl; (rfl)))))))); (· rfl)) | (apply runk_pure rfl rfl rfl ?_ ?_ ?_ ?_ ?_ ?_ ?_ ?_; rotate_left 6; (· (conv => (lhs; whnf))); (· exact Tryz.func84); (· rfl); (· rfl); (· exact (gh)); (· (repeat (first | exact Rens.nil | (refine Rens.cons ?_ ?_; (· ((refine Ren.pureR ?_ rfl; (rfl)))))))); (· rfl)) | (apply runk_pure rfl rfl rfl ?_ ?_ ?_ ?_ ?_ ?_ ?_ ?_; rotate_left 6; (· (conv => (lhs; whnf))); (· exact Tryz.func84); (· rfl); (· rfl); (· exact (gt)); (· (repeat (first | exact Rens.nil | (refine Rens.cons ?_ ?_; (· ((refine Ren.pureR ?_ rfl; (rfl)))))))); (· (simp [AVal.pure, AVal.pures, AObj.pure]))) | (apply runk_guard rfl rfl ?_ rfl ?_ ?_; rotate_left 3; (· (conv => (lhs; whnf))); (· (intro hb; (try rw [hb]); apply opok_pure rfl ?_ ?_ ?_ ?_ ?_ ?_ ?_; rotate_left 6; (· (conv => (lhs; whnf))); (· exact Tryz.func75); (· rfl); (· rfl); (· exact (dt)); (· (repeat (first | exact Rens.nil | (refine Rens.cons ?_ ?_; (· ((refine Ren.pureR ?_ rfl; (rfl)))))))); (· rfl)))) | (((((apply runk0 rfl rfl (opok_sslice _ _ rfl ?_ rfl ?_ ?_ ?_ ?_) ?_; rotate_left 3; (· ((conv => (lhs; whnf)); try exact rfl)); (· first | exact .inl ⟨rfl, rfl⟩ | exact .inr ⟨_, _, rfl, rfl⟩); (· first | exact .inl ⟨rfl, rfl⟩ | exact .inr ⟨_, _, rfl, rfl⟩); (· omega); (· omega)))))) | (((apply runk_guard rfl rfl ?_ rfl ?_ ?_; rotate_left 3; (· (conv => (lhs; whnf))); (· (intro hb; (try rw [hb]); apply opok_lenN rfl ?_ ?_; rotate_left 1; (· (conv => (lhs; whnf))); (· (conv => (lhs; whnf; arg 1; whnf)))))))) | (((apply runk_guard rfl rfl ?_ rfl ?_ ?_; rotate_left 3; (· (conv => (lhs; whnf))); (· (intro hb; (try rw [hb]); apply opok_un rfl ?_ ?_; rotate_left 2; (· (conv => (lhs; whnf))); (· (intro w; go_simp; rfl))))))) | ((refine runk_ung rfl rfl rfl rfl ?_)) | (apply runk0 rfl rfl (opok_move rfl ?_) ?_; rotate_left 1; (· (conv => (lhs; whnf)))) | (apply runk0 rfl rfl (opok_assign rfl ?_) ?_; rotate_left 1; (· (conv => (lhs; whnf)))) | (apply runk0 rfl rfl (opok_bin rfl ?_ ?_ ?_) ?_; rotate_left 3; (· (conv => (lhs; whnf))); (· (conv => (lhs; whnf))); (· (intro w; go_simp; rfl))) | (apply runk0 rfl rfl (opok_un rfl ?_ ?_) ?_; rotate_left 2; (· (conv => (lhs; whnf))); (· (intro w; go_simp; rfl))) | (((apply runk0 rfl rfl (opok_len rfl ?_ ?_ ?_) ?_; rotate_left 3; (· (conv => (lhs; whnf))); (· (conv => (lhs; whnf; arg 1; whnf))); (· (exact length_ints _ _))))) | (apply runk0 rfl rfl (opok_pick rfl ?_ ?_) ?_; rotate_left 2; (· (conv => (lhs; whnf))); (· (exact pick_or))) | (apply runk0 rfl rfl (opok_extract rfl ?_ ?_) ?_; rotate_left 2; (· (conv => (lhs; whnf))); (· (conv => (lhs; whnf; arg 1; whnf)))) | (apply runk_alloc rfl rfl rfl ?_ ?_ ?_; rotate_left 2; (· (conv => (lhs; whnf; arg 1; whnf))); (· (conv => (lhs; whnf)))) | refine runk_end (by kernel_rfl) ?_))
  refine awp_adopt 9 9 5 1 rfl fun k9 => ?_
  rename_i k0 k1 k6 k7 k12 k13
  refine awp_loop (fun m st => ∃ (y kq : Nat), y + m + n2 = 16 ∧ 0 ≤ y ∧ st.leB ⟨[(2, .ptr 2 k0 0), (9, .own 9 kq (ints .u8 (nats (R y))).length), (11, .ro (ints .u8 ys))], [(2, some (k0, .box 24 [.val (.bool false), .val (.int .u64 0), .val (.int .u64 0)])), (9, some (kq, .row 5 1 (ints .u8 (nats (R y)))))]⟩) (16 - 0 - n2) ⟨0, k9, by omega, Nat.le_refl _, by (refine leB_of ?_ ?_; (· (repeat (first | exact EnvIs.nil | (refine EnvIs.cons ?_ ?_; (· first | rfl | ((conv => (lhs; whnf)); ((simp [hR00, ints]; done)))))))); (· (repeat (first | exact ObjsAre.nil | (refine ObjsAre.cons ?_ ?_; (· first | rfl | ((conv => (lhs; whnf)); ((simp [hR00, ints]; done)))))))))⟩ ?_
  rintro m st ⟨y, kq, hym, hny, hle⟩
  refine awp_less hle ?_
  clear hle st
  have hy1 := hRl y hny
  have hy2 := hRs y hny
  obtain ⟨M, hM⟩ : ∃ M, y + n2 = M := ⟨_, rfl⟩
  have wM : IntKind.i64.wrap ((y : Int) + (n2 : Int)) = (M : Int) := by rw [IntKind.wrap_i64]; omega
  have hM16 : M ≤ 16 := by omega
  (repeat (first | refine awp_reg_seq rfl fun k => ?_ | refine awp_seq ?_ | (apply runk0 rfl rfl (opok_move rfl ?_) ?_; rotate_left 1; (· (conv => (lhs; whnf)))) | (apply runk0 rfl rfl (opok_bin rfl ?_ ?_ ?_) ?_; rotate_left 3; (· (conv => (lhs; whnf))); (· (conv => (lhs; whnf))); (· (intro w; go_simp; rfl))) | (first | (apply runk0 rfl rfl (opok_lenO rfl ?_ ?_ ?_) ?_; rotate_left 5; (· (conv => (lhs; whnf))); (· (conv => (lhs; whnf; arg 1; whnf))); (· (exact length_ints _ _))) | (apply runk0 rfl rfl (opok_len rfl ?_ ?_ ?_) ?_; rotate_left 3; (· (conv => (lhs; whnf))); (· (conv => (lhs; whnf; arg 1; whnf))); (· (exact length_ints _ _)))) | refine runk_end (by kernel_rfl) ?_))
  refine awp_if rfl (fun hc => ?_) (fun hc => ?_)
  · have hi2 : M < 16 := by simp at hc; omega
    clear hc
    have hyl : (ints .u8 (nats (R y))).length = y := by rw [length_ints, hy1]
    have htk : (nats (R y)).take (nats (R y)).length = nats (R y) := List.take_length
    have htk2 : (nats (R y)).take (ints .u8 (nats (R y))).length = nats (R y) := by rw [length_ints]; exact List.take_length
    have htk3 : (nats (R y)).take y = nats (R y) := List.take_of_length_le (by omega)
    (repeat (first | refine awp_reg rfl fun k => ?_ | refine awp_skip (?_ : Awp _ _ _ _ _ _) | refine awp_block ?_ | (apply runk0 rfl rfl (opok_move rfl ?_) ?_; rotate_left 1; (· (conv => (lhs; whnf)))) | (apply runk_assignOwn rfl rfl rfl ?_ ?_ ?_; rotate_left 4; (· (conv => (lhs; whnf))); (· (conv => (lhs; whnf; arg 1; whnf)))) | (apply runk_lit rfl rfl rfl ?_ ?_ ?_ ?_ ?_ ?_ ?_ ?_ ?_ ?_ ?_; rotate_left 4; (· (conv => (lhs; whnf; arg 1; whnf))); (· (unfold sizeIs; conv => (lhs; whnf; arg 1; whnf))); (· (conv => (lhs; whnf; arg 1; whnf))); (· rfl); (· rfl); (· rfl); (· rfl); (· (repeat (first | exact PartsAre.nil _ | (apply PartsAre.cons; (· (conv => (lhs; whnf))))))); (· rfl); (· rfl)) | refine runk_end (by kernel_rfl) ?_ | (apply runk_app rfl rfl rfl ?_ ?_ ?_ ?_ ?_ ?_ ?_ ?_ ?_ ?_ ?_ ?_ ?_ ?_ ?_ ?_; rotate_left 11; (· (conv => (lhs; whnf))); (· (conv => (lhs; whnf))); (· (conv => (lhs; whnf; arg 1; whnf))); (· (unfold sizeIs; conv => (lhs; whnf; arg 1; whnf))); (· (conv => (lhs; whnf; arg 1; whnf))); (· (conv => (lhs; whnf; arg 1; whnf))); (· rfl); (· rfl); (· rfl); (· ((refine .own _ _ _ _ rfl ?_; rfl))); (· ((refine .own _ _ _ _ _ _ rfl ?_; rfl))); (· rfl); (· rfl); (· ((simp; omega))); (· ((simp only [List.nil_append, ints_takeR, ints_dropR, ints_one, ints_consR, ints_append]; rfl))))))
    exact ⟨16 - n2 - (y + 1), by omega, y + 1, _, by omega, by omega, by rw [hy2]; (refine leB_of ?_ ?_; (· (repeat (first | exact EnvIs.nil | (refine EnvIs.cons ?_ ?_; (· rfl))))); (· (repeat (first | exact ObjsAre.nil | (refine ObjsAre.cons ?_ ?_; (· rfl))))))⟩
  · have hi2 : M = 16 := by simp at hc; omega
    have hyn : y = 16 - n2 := by omega
    subst hyn
    clear hc
    have fb2 := fb (ints .u8 (nats (R (16 - n2)) ++ ys)).length (by rw [length_ints, List.length_append]; omega)
    (repeat (first | refine awp_reg_seq rfl fun k => ?_ | refine awp_exit (?_ : Awp _ _ _ _ _ _) | (refine awp_ret ?_; (apply ends_pure ?_ ?_ ?_ ?_ ?_ (.inl rfl); rotate_left 1; (· (exact res_cell2 rfl rfl rfl rfl rfl rfl)); (· rfl); (· rfl); (· rfl); (· rfl))) | (apply runk_with rfl rfl rfl ?_ ?_ ?_ ?_ ?_ ?_ ?_ ?_ ?_ ?_ ?_; rotate_left 10; (· (conv => (lhs; whnf))); (· exact Tryz.func47); (· rfl); (· rfl); (· exact (fb2)); (· (repeat (first | exact Rens.nil | (refine Rens.cons ?_ ?_; (· (exact Ren.own _ _ _ _ _ _ rfl List.mem_cons_self)))))); (· rfl); (· rfl); (· (simp [AVal.pure, AVal.pures, AObj.pure])); (· (simp [AVal.pure, AVal.pures, AObj.pure]))) | (apply runk0 rfl rfl (opok_move rfl ?_) ?_; rotate_left 1; (· (conv => (lhs; whnf)))) | (apply runk0 rfl rfl (opok_assign rfl ?_) ?_; rotate_left 1; (· (conv => (lhs; whnf)))) | (apply runk0 rfl rfl (opok_extract rfl ?_ ?_) ?_; rotate_left 2; (· (conv => (lhs; whnf))); (· (conv => (lhs; whnf; arg 1; whnf)))) | (apply runk_store rfl rfl rfl ?_ ?_ ?_ ?_ ?_ ?_ ?_ ?_ ?_ ?_ ?_; rotate_left 9; (· (conv => (lhs; whnf))); (· (conv => (lhs; whnf))); (· (conv => (lhs; whnf; arg 1; whnf; arg 2; whnf))); (· rfl); (· (conv => (lhs; whnf))); (· rfl); (· (unfold sizeIs; conv => (lhs; whnf; arg 1; whnf))); (· rfl); (· rfl); (· (conv => (lhs; repeat (whnf; arg 2))))) | refine runk_end (by kernel_rfl) ?_ | (apply runk_app rfl rfl rfl ?_ ?_ ?_ ?_ ?_ ?_ ?_ ?_ ?_ ?_ ?_ ?_ ?_ ?_ ?_ ?_; rotate_left 11; (· (conv => (lhs; whnf))); (· (conv => (lhs; whnf))); (· (conv => (lhs; whnf; arg 1; whnf))); (· (unfold sizeIs; conv => (lhs; whnf; arg 1; whnf))); (· (conv => (lhs; whnf; arg 1; whnf))); (· (conv => (lhs; whnf; arg 1; whnf))); (· rfl); (· rfl); (· rfl); (· ((refine .own _ _ _ _ rfl ?_; rfl))); (· (exact .ro _)); (· (exact widths_ints _ _)); (· (exact one_ints _ _)); (· ((simp; omega))); (· ((simp only [List.nil_append, ints_takeR, ints_dropR, ints_one, ints_consR, ints_append]; rfl))))))
theorem rparse_spec (l : List UInt8) (hl : l.length ≤ 100000) : Spec Tryz.prog 63 [.val (bstr l)] [] (prsV l) [] := by
  cases hb : hasB l 58 with
  | false => exact rparse_four l hl hb
  | true =>
    by_cases hi : 0 ≤ Lib.index l [58, 58]
    · obtain ⟨i, hi'⟩ := Int.eq_ofNat_of_zero_le hi
      have hr := Lib.index_room l [58, 58] hi
      rw [hi'] at hr
      simp only [List.length_cons, List.length_nil] at hr
      have hjl : i + 2 ≤ l.length := by omega
      have key : prsV l = match p6N l with
          | some xs => .tuple [.agg [.val (.bool (jn8 xs).1), .val (.int .u64 (jn8 xs).2.1), .val (.int .u64 (jn8 xs).2.2)], .val (.int .i64 0)]
          | none => .tuple [.agg [.val (.bool false), .val (.int .u64 0), .val (.int .u64 0)], .val (.int .i64 2)] := by
        unfold prsV
        rw [prsA_six hb]
        cases p6N l <;> rfl
      rw [key, p6N_two hi']
      cases hd : hasB (l.take i) 46 with
      | true =>
        rw [head_dot hd]
        exact rparse_bad l hl hb i (i + 2) hi' rfl hjl (.inr (.inr hd))
      | false =>
        rw [← head_same hd]
        cases ea : pgN true (l.take i) with
        | none => exact rparse_bad l hl hb i (i + 2) hi' rfl hjl (.inl ea)
        | some a =>
          cases eb : pgN true (l.drop (i + 2)) with
          | none => exact rparse_bad l hl hb i (i + 2) hi' rfl hjl (.inr (.inl eb))
          | some b =>
            by_cases h8 : a.length + b.length < 8
            · simp only [Option.bind_some, if_pos h8]
              by_cases hne : l.take i = []
              · exact rparse_nil l hl hb i (i + 2) hi' rfl hjl ea eb hd h8 hne rfl
              · exact rparse_ok l hl hb i (i + 2) hi' rfl hjl ea eb hd h8 hne rfl
            · simp only [Option.bind_some, if_neg h8]
              exact rparse_long l hl hb i (i + 2) hi' rfl hjl ea eb hd h8
    · exact rparse_one l hl hb hi
end Go.Proofs.YtboddbheljenhaaGreatDoor
