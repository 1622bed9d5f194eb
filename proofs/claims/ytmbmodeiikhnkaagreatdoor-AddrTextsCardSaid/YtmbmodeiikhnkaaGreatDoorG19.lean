/-
  Addresses compared by == and !=, also with the answer as a hypothesis .
-/
import Derived.Test.YtmbmodeiikhnkaaGreatDoorG10
import Derived.Test.YtmbmodeiikhnkaaGreatDoorG07
import Derived.Test.YtmbmodeiikhnkaaGreatDoorG15
import Derived.Test.YtmbmodeiikhnkaaGreatDoorRpo
import Derived.Test.YtmbmodeiikhnkaaGreatDoorAbt
import Derived.Test.YtmbmodeiikhnkaaGreatDoorG18
import Derived.Test.YtmbmodeiikhnkaaGreatDoorSpoilt
import Derived.Test.YtmbmodeiikhnkaaGreatDoorG08
namespace Go.Proofs.YtmbmodeiikhnkaaGreatDoor
open Go.RowKit
def eqQ (v : Bool) (hi lo : Int) (v' : Bool) (hi' lo' : Int) : Bool := v == v' && (hi == hi' && lo == lo')
section
variable {k : Nat} {st : St} {o : Oper}
theorem opok_eqQd {yt : TypeId} {x y : Operand} {v1 v2 : Bool} {h1 l1 h2 l2 : Int} (ho : o.op = .binOp .eql 24 x y yt) (hx : st.aop x = .agg [.val (.bool v1), .val (.int .u64 h1), .val (.int .u64 l1)]) (hy : st.aop y = .agg [.val (.bool v2), .val (.int .u64 h2), .val (.int .u64 l2)]) :
    OpOk Tryz.prog k st o ⟨.val (.bool (eqQ v1 h1 l1 v2 h2 l2)), [], [], []⟩ :=
  opok_binA ho hx (.cons (.cons (.cons .nil))) hy (.cons (.cons (.cons .nil))) fun w => by
    unfold eqQ
    go_simp
    by_cases c1 : v1 = v2 <;> by_cases c2 : h1 = h2 <;> by_cases c3 : l1 = l2 <;> simp_all
theorem opok_neQd {yt : TypeId} {x y : Operand} {v1 v2 : Bool} {h1 l1 h2 l2 : Int} (ho : o.op = .binOp .neq 24 x y yt) (hx : st.aop x = .agg [.val (.bool v1), .val (.int .u64 h1), .val (.int .u64 l1)]) (hy : st.aop y = .agg [.val (.bool v2), .val (.int .u64 h2), .val (.int .u64 l2)]) :
    OpOk Tryz.prog k st o ⟨.val (.bool (!eqQ v1 h1 l1 v2 h2 l2)), [], [], []⟩ :=
  opok_binA ho hx (.cons (.cons (.cons .nil))) hy (.cons (.cons (.cons .nil))) fun w => by
    unfold eqQ
    go_simp
    by_cases c1 : v1 = v2 <;> by_cases c2 : h1 = h2 <;> by_cases c3 : l1 = l2 <;> simp_all
theorem opok_eqQh {yt : TypeId} {x y : Operand} {v1 v2 : Bool} {h1 l1 h2 l2 : Int} {b : Bool} (ho : o.op = .binOp .eql 24 x y yt) (hx : st.aop x = .agg [.val (.bool v1), .val (.int .u64 h1), .val (.int .u64 l1)]) (hy : st.aop y = .agg [.val (.bool v2), .val (.int .u64 h2), .val (.int .u64 l2)]) (he : eqQ v1 h1 l1 v2 h2 l2 = b) :
    OpOk Tryz.prog k st o ⟨.val (.bool b), [], [], []⟩ := he ▸ opok_eqQd ho hx hy
theorem opok_neQh {yt : TypeId} {x y : Operand} {v1 v2 : Bool} {h1 l1 h2 l2 : Int} {b : Bool} (ho : o.op = .binOp .neq 24 x y yt) (hx : st.aop x = .agg [.val (.bool v1), .val (.int .u64 h1), .val (.int .u64 l1)]) (hy : st.aop y = .agg [.val (.bool v2), .val (.int .u64 h2), .val (.int .u64 l2)]) (he : (!eqQ v1 h1 l1 v2 h2 l2) = b) :
    OpOk Tryz.prog k st o ⟨.val (.bool b), [], [], []⟩ := he ▸ opok_neQd ho hx hy
end
theorem eqQ_self (v : Bool) (hi lo : Int) : eqQ v hi lo v hi lo = true := by with_unfolding_all simp [eqQ]
theorem neQ_self (v : Bool) (hi lo : Int) : (!eqQ v hi lo v hi lo) = false := by rw [eqQ_self]; rfl
end Go.Proofs.YtmbmodeiikhnkaaGreatDoor
namespace Go.Proofs.YtmbmodeiikhnkaaGreatDoor
open Go.RowKit
attribute [local irreducible] eqQ
theorem bints_bytes (l : List UInt8) : Bytes (bints l) := by
  intro z hz
  unfold bints at hz
  obtain ⟨x, -, rfl⟩ := List.mem_map.1 hz
  have := x.toNat_lt
  exact ⟨by omega, by omega⟩
theorem bints_length (l : List UInt8) : (bints l).length = l.length := by unfold bints; rw [List.length_map]
/-- The text of spoilt bytes. -/
def spL (l : List UInt8) (a b : Int) : List UInt8 := (spoilt (bints l) a b).map fun n => UInt8.ofNat n.toNat
theorem spL_len (l : List UInt8) (a b : Int) : (spL l a b).length ≤ l.length + 1 := by
  unfold spL
  rw [List.length_map]
  have := spoilt_length (bints l) a b
  rw [bints_length] at this
  exact this
set_option maxHeartbeats 16000000 in
set_option maxRecDepth 100000 in
theorem addrTexts_of (ps : ∀ l : List UInt8, Spec Tryz.prog 12 [.val (bstr l)] [] (prsV l) []) (aw : Spec Tryz.prog 4 [] [] (.val (.bool true)) []) (s : List UInt8) (v : Bool) (hi lo : Int) (h0 : 0 ≤ hi) (h1 : hi < 18446744073709551616) (g0 : 0 ≤ lo) (g1 : lo < 18446744073709551616) (zs : List Int) (hz : zs.length ≤ 9223372036854775807) (at1 by1 : Int) : Spec Tryz.prog 3 [.val (bstr s), .agg [.val (.bool v), .val (.int .u64 hi), .val (.int .u64 lo)], .ro (ints .i64 zs), .val (.int .i64 at1), .val (.int .i64 by1)] [] (.val (.bool true)) [] := by
  by_cases c : 600 < s.length
  · have d1 : decide ((s.length : Int) > 600) = true := decide_eq_true (by omega)
    have d2 : decide (600 < (s.length : Int)) = true := decide_eq_true (by omega)
    have d3 : decide (600 < s.length) = true := decide_eq_true (by omega)
    refine spec_of_awp Tryz.func3 rfl (Nat.le_of_ble_eq_true rfl) fun ini => ?_
    simp only [Tryz.ntmps3]
    (repeat (first | refine awp_reg_seq rfl fun k => ?_ | refine awp_seq ?_ | refine awp_true rfl ?_ | (refine awp_ret ?_; (apply ends_pure ?_ ?_ ?_ ?_ ?_ (.inl rfl); rotate_left 1; (· (exact res_one rfl rfl)); (· rfl); (· rfl); (· rfl); (· rfl))) | (apply runk_pure rfl rfl rfl ?_ ?_ ?_ ?_ ?_ ?_ ?_ ?_; rotate_left 6; (· (conv => (lhs; whnf))); (· exact Tryz.func4); (· rfl); (· rfl); (· exact (aw)); (· (repeat ((exact Rens.nil)))); (· rfl)) | (((((apply runk0 rfl rfl (opok_slen rfl ?_ rfl) ?_; rotate_left 1; (· ((conv => (lhs; whnf)); try exact rfl))))))) | (apply runk0 rfl rfl (opok_move rfl ?_) ?_; rotate_left 1; (· (conv => (lhs; whnf)))) | (apply runk0 rfl rfl (opok_assign rfl ?_) ?_; rotate_left 1; (· (conv => (lhs; whnf)))) | (apply runk0 rfl rfl (opok_bin rfl ?_ ?_ ?_) ?_; rotate_left 3; (· (conv => (lhs; whnf))); (· (conv => (lhs; whnf))); (· (intro w; go_simp; rfl))) | (apply runk_box rfl rfl rfl ?_ ?_ ?_ ?_; rotate_left 2; (· (conv => (lhs; whnf))); (· rfl); (· (conv => (lhs; whnf)))) | refine runk_end (by kernel_rfl) ?_))
  · have d1 : decide ((s.length : Int) > 600) = false := decide_eq_false (by omega)
    have d2 : decide (600 < (s.length : Int)) = false := decide_eq_false (by omega)
    have d3 : decide (600 < s.length) = false := decide_eq_false (by omega)
    obtain ⟨v', hi', lo', q1, ao, hq1, sx⟩ := addr_ex zs 0 hz (Nat.zero_le _)
    obtain ⟨t, q2, ht, hq2, tx⟩ := text_ex zs q1 hz hq1
    obtain ⟨R, r1, r2⟩ := print_raw v hi lo h0 h1 g0 g1
    have nw := new_spec zs
    have p1 := print_spec ao
    have p2 := rprint_spec ao
    have hl := prA_len ao
    have up := upper_spec (prA v' hi' lo') (by omega) (fun x hx => (lowC_prA v' hi' lo' x hx).1)
    have sp := spoilt_spec (bints (prA v' hi' lo')) (by rw [bints_length]; omega) at1 by1
    have hsl := spL_len (prA v' hi' lo') at1 by1
    have hul : (Lib.toUpperA (prA v' hi' lo')).length ≤ 45 := by unfold Lib.toUpperA; rw [List.length_map]; exact hl
    have hsp : Value.string (strOfNums (spoilt (bints (prA v' hi' lo')) at1 by1)) = bstr (spL (prA v' hi' lo') at1 by1) := rfl
    have hspb := spoilt_bytes (bints_bytes (prA v' hi' lo')) at1 by1
    have n1 : (R != R) = false := by simp
    have n2 : (prA v' hi' lo' != prA v' hi' lo') = false := by simp
    generalize Lib.toUpperA (prA v' hi' lo') = U at *
    generalize spL (prA v' hi' lo') at1 by1 = SPL at *
    generalize spoilt (bints (prA v' hi' lo')) at1 by1 = SP at *
    generalize prA v' hi' lo' = T at *
    clear ao
    refine spec_of_awp Tryz.func3 rfl (Nat.le_of_ble_eq_true rfl) fun ini => ?_
    simp only [Tryz.ntmps3]
    (repeat (first | refine awp_reg_seq rfl fun k => ?_ | refine awp_seq ?_ | refine awp_false rfl ?_ | refine awp_skip (?_ : Awp _ _ _ _ _ _) | (apply runk_made rfl rfl rfl ?_ ?_ ?_ ?_ ?_ ?_ ?_ ?_ ?_; rotate_left 8; (· (conv => (lhs; whnf))); (· exact Tryz.func5); (· rfl); (· rfl); (· exact (nw)); (· (repeat (first | exact Rens.nil | (refine Rens.cons ?_ ?_; (· ((refine Ren.pureR ?_ rfl; (((simp [AVal.pure, AVal.pures, AObj.pure]; done)))))))))); (· (exact .one (.ptr _ _ _ _ _ List.mem_cons_self))); (· ((simp; done)))) | (apply runk_with rfl rfl rfl ?_ ?_ ?_ ?_ ?_ ?_ ?_ ?_ ?_ ?_ ?_; rotate_left 10; (· (conv => (lhs; whnf))); (· exact Tryz.func6); (· rfl); (· rfl); (· exact (sx)); (· (repeat (first | exact Rens.nil | (refine Rens.cons ?_ ?_; (· (exact Ren.ptr _ _ _ _ _ List.mem_cons_self)))))); (· rfl); (· rfl); (· ((simp; done))); (· ((simp; done)))) | (apply runk_with rfl rfl rfl ?_ ?_ ?_ ?_ ?_ ?_ ?_ ?_ ?_ ?_ ?_; rotate_left 10; (· (conv => (lhs; whnf))); (· exact Tryz.func7); (· rfl); (· rfl); (· exact (tx)); (· (repeat (first | exact Rens.nil | (refine Rens.cons ?_ ?_; (· (exact Ren.ptr _ _ _ _ _ List.mem_cons_self)))))); (· rfl); (· rfl); (· ((simp; done))); (· ((simp; done)))) | (apply runk_pure rfl rfl rfl ?_ ?_ ?_ ?_ ?_ ?_ ?_ ?_; rotate_left 6; (· (conv => (lhs; whnf))); (· exact Tryz.func8); (· rfl); (· rfl); (· exact (r1)); (· (repeat (first | exact Rens.nil | (refine Rens.cons ?_ ?_; (· ((refine Ren.pureR ?_ rfl; (rfl)))))))); (· rfl)) | (apply runk_guard rfl rfl ?_ rfl ?_ ?_; rotate_left 3; (· (conv => (lhs; whnf))); (· (intro hb; (try rw [hb]); apply opok_pure rfl ?_ ?_ ?_ ?_ ?_ ?_ ?_; rotate_left 6; (· (conv => (lhs; whnf))); (· exact Tryz.func8); (· rfl); (· rfl); (· exact (p1)); (· (repeat (first | exact Rens.nil | (refine Rens.cons ?_ ?_; (· ((refine Ren.pureR ?_ rfl; (rfl)))))))); (· rfl)))) | (apply runk_pure rfl rfl rfl ?_ ?_ ?_ ?_ ?_ ?_ ?_ ?_; rotate_left 6; (· (conv => (lhs; whnf))); (· exact Tryz.func9); (· rfl); (· rfl); (· exact (r2)); (· (repeat (first | exact Rens.nil | (refine Rens.cons ?_ ?_; (· ((refine Ren.pureR ?_ rfl; (rfl)))))))); (· rfl)) | (apply runk_guard rfl rfl ?_ rfl ?_ ?_; rotate_left 3; (· (conv => (lhs; whnf))); (· (intro hb; (try rw [hb]); apply opok_pure rfl ?_ ?_ ?_ ?_ ?_ ?_ ?_; rotate_left 6; (· (conv => (lhs; whnf))); (· exact Tryz.func9); (· rfl); (· rfl); (· exact (p2)); (· (repeat (first | exact Rens.nil | (refine Rens.cons ?_ ?_; (· ((refine Ren.pureR ?_ rfl; (rfl)))))))); (· rfl)))) | (((first | (apply runk0 rfl rfl (opok_sneq rfl ?_ ?_) ?_; rotate_left 2; (· ((conv => (lhs; whnf)); try exact rfl)); (· ((conv => (lhs; whnf)); try exact rfl))) | (apply runk0 rfl rfl (opok_slen rfl ?_ rfl) ?_; rotate_left 1; (· ((conv => (lhs; whnf)); try exact rfl)))))) | (((((apply runk_guard rfl rfl ?_ rfl ?_ ?_; rotate_left 3; (· (conv => (lhs; whnf))); (· (intro hb; (try rw [hb]); apply opok_sneq rfl ?_ ?_; rotate_left 2; (· ((conv => (lhs; whnf)); try exact rfl)); (· ((conv => (lhs; whnf)); try exact rfl))))))))) | ((refine runk_ung rfl rfl rfl (by assumption) ?_)) | (apply runk0 rfl rfl (opok_move rfl ?_) ?_; rotate_left 1; (· (conv => (lhs; whnf)))) | (apply runk0 rfl rfl (opok_assign rfl ?_) ?_; rotate_left 1; (· (conv => (lhs; whnf)))) | (apply runk0 rfl rfl (opok_loadA rfl ?_ ?_ ?_ ?_ ?_ ?_) ?_; rotate_left 6; (· (conv => (lhs; whnf))); (· (conv => (lhs; whnf; arg 1; whnf; arg 2; whnf))); (· rfl); (· (unfold sizeIs; conv => (lhs; whnf; arg 1; whnf))); (· (conv => (lhs; repeat (whnf; arg 2)))); (· rfl)) | (apply runk0 rfl rfl (opok_bin rfl ?_ ?_ ?_) ?_; rotate_left 3; (· (conv => (lhs; whnf))); (· (conv => (lhs; whnf))); (· (intro w; go_simp; rfl))) | (apply runk0 rfl rfl (opok_pick rfl ?_ ?_) ?_; rotate_left 2; (· (conv => (lhs; whnf))); (· (exact pick_or))) | (apply runk_box rfl rfl rfl ?_ ?_ ?_ ?_; rotate_left 2; (· (conv => (lhs; whnf))); (· rfl); (· (conv => (lhs; whnf)))) | (apply runk_alloc rfl rfl rfl ?_ ?_ ?_; rotate_left 2; (· (conv => (lhs; whnf; arg 1; whnf))); (· (conv => (lhs; whnf)))) | (apply runk_store rfl rfl rfl ?_ ?_ ?_ ?_ ?_ ?_ ?_ ?_ ?_ ?_ ?_; rotate_left 9; (· (conv => (lhs; whnf))); (· (conv => (lhs; whnf))); (· (conv => (lhs; whnf; arg 1; whnf; arg 2; whnf))); (· rfl); (· (conv => (lhs; whnf))); (· rfl); (· (unfold sizeIs; conv => (lhs; whnf; arg 1; whnf))); (· rfl); (· rfl); (· (conv => (lhs; repeat (whnf; arg 2))))) | refine runk_end (by kernel_rfl) ?_))
    have nn : (!R == R || !T == T) = false := by simp
    rw [nn]
    (repeat (first | refine awp_reg_seq rfl fun k => ?_ | refine awp_seq ?_ | refine awp_false rfl ?_ | refine awp_skip (?_ : Awp _ _ _ _ _ _) | refine awp_block ?_ | (apply runk_pure rfl rfl rfl ?_ ?_ ?_ ?_ ?_ ?_ ?_ ?_; rotate_left 6; (· (conv => (lhs; whnf))); (· exact Tryz.func9); (· rfl); (· rfl); (· exact (p2)); (· (repeat (first | exact Rens.nil | (refine Rens.cons ?_ ?_; (· ((refine Ren.pureR ?_ rfl; (rfl)))))))); (· rfl)) | (apply runk_pure rfl rfl rfl ?_ ?_ ?_ ?_ ?_ ?_ ?_ ?_; rotate_left 6; (· (conv => (lhs; whnf))); (· exact Tryz.func10); (· rfl); (· rfl); (· exact (sp)); (· (repeat (first | exact Rens.nil | (refine Rens.cons ?_ ?_; (· ((refine Ren.pureR ?_ rfl; (first | rfl | (simp [AVal.pure, AVal.pures, AObj.pure]; done))))))))); (· (simp [AVal.pure, AVal.pures, AObj.pure]))) | (apply runk_pure rfl rfl rfl ?_ ?_ ?_ ?_ ?_ ?_ ?_ ?_; rotate_left 6; (· (conv => (lhs; whnf))); (· exact Tryz.func11); (· rfl); (· rfl); (· exact (up)); (· (repeat (first | exact Rens.nil | (refine Rens.cons ?_ ?_; (· ((refine Ren.pureR ?_ rfl; (rfl)))))))); (· rfl)) | (((apply runk0 rfl rfl (opok_convL rfl ?_ rfl rfl rfl) ?_; rotate_left 1; (· ((conv => (lhs; whnf)); try exact rfl))))) | (apply runk0 rfl rfl (opok_move rfl ?_) ?_; rotate_left 1; (· (conv => (lhs; whnf)))) | (apply runk0 rfl rfl (opok_loadA rfl ?_ ?_ ?_ ?_ ?_ ?_) ?_; rotate_left 6; (· (conv => (lhs; whnf))); (· (conv => (lhs; whnf; arg 1; whnf; arg 2; whnf))); (· rfl); (· (unfold sizeIs; conv => (lhs; whnf; arg 1; whnf))); (· (conv => (lhs; repeat (whnf; arg 2)))); (· rfl)) | (((apply runk0 rfl rfl (opok_lenO rfl ?_ ?_ ?_) ?_; rotate_left 5; (· (conv => (lhs; whnf))); (· (conv => (lhs; whnf; arg 1; whnf))); (· rfl)))) | (apply runk0 rfl rfl (opok_text rfl ?_ ?_ ?_ ?_ ?_) ?_; rotate_left 4; (· (conv => (lhs; whnf))); (· (conv => (lhs; whnf; arg 1; whnf))); (· (conv => (lhs; whnf; arg 1; whnf))); (· rfl); (· (exact .ro _))) | (apply runk_lit rfl rfl rfl ?_ ?_ ?_ ?_ ?_ ?_ ?_ ?_ ?_ ?_ ?_; rotate_left 4; (· (conv => (lhs; whnf; arg 1; whnf))); (· (unfold sizeIs; conv => (lhs; whnf; arg 1; whnf))); (· (conv => (lhs; whnf; arg 1; whnf))); (· rfl); (· rfl); (· rfl); (· rfl); (· (repeat (first | exact PartsAre.nil _ | (apply PartsAre.cons; (· (conv => (lhs; whnf))))))); (· rfl); (· rfl)) | refine runk_end (by kernel_rfl) ?_))
    rw [hsp]
    refine awp_less (st' := ⟨[(56, .own 56 k 5), (57, .val (.int .i64 5)), (58, .val (.int .i64 0))], [(56, some (k, .row 9 1 (strL [s, T, SPL, t, U])))]⟩) (by (refine leB_of ?_ ?_; (· (repeat (first | exact EnvIs.nil | (refine EnvIs.cons ?_ ?_; (· first | rfl | ((conv => (lhs; whnf)); first | (simp [strL]; done) | (simp [strL]; omega))))))); (· (repeat (first | exact ObjsAre.nil | (refine ObjsAre.cons ?_ ?_; (· first | rfl | ((conv => (lhs; whnf)); first | (simp [strL]; done) | (simp [strL]; omega))))))))) ?_
    (refine awp_frz 56 _ (strL [s, T, SPL, t, U]) ([(56, .ro (strL [s, T, SPL, t, U])), (57, .val (.int .i64 5)), (58, .val (.int .i64 0))]) ([]) rfl ?_ ?_ ?_; (· (repeat (first | exact EnvFrz.nil | (refine EnvFrz.cons rfl ?_ ?_; (· first | exact .one (.same _) | (refine .one (.own _ ?_); rfl)))))); (· (repeat ((exact ObjsFrz.nil)))))
    clear nw sx tx p1 p2 r1 r2 up sp hsp hspb n1 n2
    refine awp_loop (fun m st => ∃ i : Nat, i + m = 5 ∧ st.leB ⟨[(56, .ro (strL [s, T, SPL, t, U])), (57, .val (.int .i64 5)), (58, .val (.int .i64 (i : Int)))], []⟩) 5 ⟨0, by omega, by (refine leB_of ?_ ?_; (· (repeat (first | exact EnvIs.nil | (refine EnvIs.cons ?_ ?_; (· first | rfl | ((conv => (lhs; whnf)); first | (simp []; done) | (simp []; omega))))))); (· (repeat (first | exact ObjsAre.nil | (refine ObjsAre.cons ?_ ?_; (· first | rfl | ((conv => (lhs; whnf)); first | (simp []; done) | (simp []; omega))))))))⟩ ?_
    rintro m st ⟨i, him, hle⟩
    refine awp_less hle ?_
    clear hle st
    have wi : IntKind.i64.wrap ((i : Int) + 1) = ((i + 1 : Nat) : Int) := by rw [IntKind.wrap_i64]; omega
    obtain ⟨j, hj⟩ : ∃ j, i + 1 = j := ⟨_, rfl⟩
    rw [hj] at wi
    (repeat (first | refine awp_reg_seq rfl fun k => ?_ | refine awp_seq ?_ | (apply runk0 rfl rfl (opok_bin rfl ?_ ?_ ?_) ?_; rotate_left 3; (· (conv => (lhs; whnf))); (· (conv => (lhs; whnf))); (· (intro w; go_simp; first | done | rfl))) | refine runk_end (by kernel_rfl) ?_))
    refine awp_if rfl (fun hc => ?_) (fun hc => ?_)
    · have hi2 : i < 5 := by simp at hc; omega
      clear hc
      obtain ⟨w, hw, hwl⟩ : ∃ w, (strL [s, T, SPL, t, U])[i]? = some (.val (bstr w)) ∧ w.length ≤ 100000 := by
        have : i = 0 ∨ i = 1 ∨ i = 2 ∨ i = 3 ∨ i = 4 := by omega
        rcases this with rfl | rfl | rfl | rfl | rfl
        · exact ⟨s, rfl, by omega⟩
        · exact ⟨T, rfl, by omega⟩
        · exact ⟨SPL, rfl, by omega⟩
        · exact ⟨t, rfl, by omega⟩
        · exact ⟨U, rfl, by omega⟩
      have pw := ps w
      have rw' := rparse_spec w hwl
      obtain ⟨v1, a1, b1, e1, he⟩ : ∃ (v1 : Bool) (a1 b1 e1 : Int), prsV w = .tuple [.agg [.val (.bool v1), .val (.int .u64 a1), .val (.int .u64 b1)], .val (.int .i64 e1)] := by
        unfold prsV
        cases prsA w with
        | none => exact ⟨_, _, _, _, rfl⟩
        | some c => exact ⟨_, _, _, _, rfl⟩
      rw [he] at pw rw'
      have n1 := neQ_self v1 a1 b1
      have n2 : (e1 != e1) = false := by simp
      clear he
      (repeat (first | refine awp_reg_seq rfl fun k => ?_ | refine awp_reg rfl fun k => ?_ | refine awp_seq ?_ | refine awp_false rfl ?_ | refine awp_skip (?_ : Awp _ _ _ _ _ _) | refine awp_block ?_ | (apply runk_pure rfl rfl rfl ?_ ?_ ?_ ?_ ?_ ?_ ?_ ?_; rotate_left 6; (· (conv => (lhs; whnf))); (· exact Tryz.func12); (· rfl); (· rfl); (· exact (pw)); (· (repeat (first | exact Rens.nil | (refine Rens.cons ?_ ?_; (· ((refine Ren.pureR ?_ rfl; (rfl)))))))); (· rfl)) | (apply runk_pure rfl rfl rfl ?_ ?_ ?_ ?_ ?_ ?_ ?_ ?_; rotate_left 6; (· (conv => (lhs; whnf))); (· exact Tryz.func13); (· rfl); (· rfl); (· exact (rw')); (· (repeat (first | exact Rens.nil | (refine Rens.cons ?_ ?_; (· ((refine Ren.pureR ?_ rfl; (rfl)))))))); (· rfl)) | (((apply runk0 rfl rfl (opok_index_ro rfl ?_ ?_ ?_ ?_ ?_ ?_ ?_) ?_; rotate_left 6; (· (conv => (lhs; whnf))); (· (conv => (lhs; whnf))); (· (conv => (lhs; whnf; arg 1; whnf))); (· (unfold sizeIs; conv => (lhs; whnf; arg 1; whnf))); (· simp); (· omega); (· simp only [Int.toNat_natCast]; exact hw)))) | (((((apply runk0 rfl rfl (opok_neQh rfl ?_ ?_ ?_) ?_; rotate_left 7; (· ((conv => (lhs; whnf)); try exact rfl)); (· ((conv => (lhs; whnf)); try exact rfl)); (· assumption)))))) | ((refine runk_ung rfl rfl rfl rfl ?_)) | (apply runk0 rfl rfl (opok_move rfl ?_) ?_; rotate_left 1; (· (conv => (lhs; whnf)))) | (apply runk0 rfl rfl (opok_assign rfl ?_) ?_; rotate_left 1; (· (conv => (lhs; whnf)))) | (((apply runk0 rfl rfl (opok_loadR rfl ?_ ?_ ?_) ?_; rotate_left 2; (· (conv => (lhs; whnf))); (· rfl); (· (conv => (lhs; whnf; arg 1; whnf)))))) | (apply runk0 rfl rfl (opok_loadA rfl ?_ ?_ ?_ ?_ ?_ ?_) ?_; rotate_left 6; (· (conv => (lhs; whnf))); (· (conv => (lhs; whnf; arg 1; whnf; arg 2; whnf))); (· rfl); (· (unfold sizeIs; conv => (lhs; whnf; arg 1; whnf))); (· (conv => (lhs; repeat (whnf; arg 2)))); (· rfl)) | (apply runk0 rfl rfl (opok_bin rfl ?_ ?_ ?_) ?_; rotate_left 3; (· (conv => (lhs; whnf))); (· (conv => (lhs; whnf))); (· (intro w; go_simp; rfl))) | (apply runk0 rfl rfl (opok_pick rfl ?_ ?_) ?_; rotate_left 2; (· (conv => (lhs; whnf))); (· (exact pick_or))) | (apply runk0 rfl rfl (opok_extract rfl ?_ ?_) ?_; rotate_left 2; (· (conv => (lhs; whnf))); (· (conv => (lhs; whnf; arg 1; whnf)))) | (apply runk_alloc rfl rfl rfl ?_ ?_ ?_; rotate_left 2; (· (conv => (lhs; whnf; arg 1; whnf))); (· (conv => (lhs; whnf)))) | (apply runk_store rfl rfl rfl ?_ ?_ ?_ ?_ ?_ ?_ ?_ ?_ ?_ ?_ ?_; rotate_left 9; (· (conv => (lhs; whnf))); (· (conv => (lhs; whnf))); (· (conv => (lhs; whnf; arg 1; whnf; arg 2; whnf))); (· rfl); (· (conv => (lhs; whnf))); (· rfl); (· (unfold sizeIs; conv => (lhs; whnf; arg 1; whnf))); (· rfl); (· rfl); (· (conv => (lhs; repeat (whnf; arg 2))))) | refine runk_end (by kernel_rfl) ?_))
      exact ⟨5 - j, by omega, j, by omega, by (refine leB_of ?_ ?_; (· (repeat (first | exact EnvIs.nil | (refine EnvIs.cons ?_ ?_; (· first | rfl | ((conv => (lhs; whnf)); first | (simp []; done) | (simp []; omega))))))); (· (repeat (first | exact ObjsAre.nil | (refine ObjsAre.cons ?_ ?_; (· first | rfl | ((conv => (lhs; whnf)); first | (simp []; done) | (simp []; omega))))))))⟩
    · have hi2 : i = 5 := by simp at hc; omega
      subst hi2
      clear hc
      (repeat (first | refine awp_reg_seq rfl fun k => ?_ | refine awp_exit (?_ : Awp _ _ _ _ _ _) | (refine awp_ret ?_; (apply ends_pure ?_ ?_ ?_ ?_ ?_ (.inl rfl); rotate_left 1; (· (exact res_one rfl rfl)); (· rfl); (· rfl); (· rfl); (· rfl))) | (apply runk_pure rfl rfl rfl ?_ ?_ ?_ ?_ ?_ ?_ ?_ ?_; rotate_left 6; (· (conv => (lhs; whnf))); (· exact Tryz.func4); (· rfl); (· rfl); (· exact (aw)); (· (repeat ((exact Rens.nil)))); (· rfl)) | (apply runk0 rfl rfl (opok_assign rfl ?_) ?_; rotate_left 1; (· (conv => (lhs; whnf)))) | refine runk_end (by kernel_rfl) ?_))
theorem addrTexts_all (s : List UInt8) (v : Bool) (hi lo : Int) (h0 : 0 ≤ hi) (h1 : hi < 18446744073709551616) (g0 : 0 ≤ lo) (g1 : lo < 18446744073709551616) (zs : List Int) (hz : zs.length ≤ 9223372036854775807) (at1 by1 : Int) : Spec Tryz.prog 3 [.val (bstr s), .agg [.val (.bool v), .val (.int .u64 hi), .val (.int .u64 lo)], .ro (ints .i64 zs), .val (.int .i64 at1), .val (.int .i64 by1)] [] (.val (.bool true)) [] :=
  addrTexts_of parse_spec awake01 s v hi lo h0 h1 g0 g1 zs hz at1 by1
end Go.Proofs.YtmbmodeiikhnkaaGreatDoor
