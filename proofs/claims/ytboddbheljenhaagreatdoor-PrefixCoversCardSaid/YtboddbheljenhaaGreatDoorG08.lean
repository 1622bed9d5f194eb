/-
  What the deck of exchangepointmake makes: addresses, by states.
-/
import Derived.Test.YtboddbheljenhaaGreatDoorMkValB
import Derived.Test.YtboddbheljenhaaGreatDoorG07
namespace Go.Proofs.YtboddbheljenhaaGreatDoor
open Go.RowKit
set_option maxHeartbeats 4000000 in
set_option maxRecDepth 100000 in
theorem addr_5 (zs : List Int) (p : Nat) (hz : zs.length ≤ 9223372036854775807) (hp : p ≤ zs.length) (hc : nextV zs p 6 = 5) : ∃ (v : Bool) (hi lo : Int) (q : Nat), AOk v hi lo ∧ q ≤ zs.length ∧
    Spec Tryz.prog 11 [.ptr 0 0 0] [(0, some (0, deckO zs p))] (.agg [.val (.bool v), .val (.int .u64 hi), .val (.int .u64 lo)]) [(0, some (0, deckO zs q))] := by
  have hp1 := nextPs_le zs 1 p hp
  have hp2 := nextPs_le zs 2 p hp
  refine ⟨false, 0, IntKind.u64.wrap (nextV zs (nextPs zs 1 p) 1073741824), nextPs zs 2 p, ?_, hp2, ?_⟩
  · have := nextV_range zs (nextPs zs 1 p) 1073741824 (by decide)
    exact aok4 (by simp only [IntKind.wrap_u64, IntKind.wrap_i64]; omega) (by simp only [IntKind.wrap_u64, IntKind.wrap_i64]; omega)
  · refine spec_of_awp Tryz.func11 rfl (Nat.le_of_ble_eq_true rfl) fun ini => ?_
    simp only [Tryz.ntmps11]
    refine awp_reg_seq rfl fun k1 => ?_
    (repeat (first | (apply runk_alloc rfl rfl rfl ?_ ?_ ?_; rotate_left 2; (· (conv => (lhs; whnf; arg 1; whnf))); (· (conv => (lhs; whnf)))) | refine runk_end (by kernel_rfl) ?_))
    refine awp_seq ?_
    refine awp_reg_seq rfl fun k2 => ?_
    (repeat (first | (apply runk0 rfl rfl (opok_move rfl ?_) ?_; rotate_left 1; (· (conv => (lhs; whnf))))))
    (apply runk_with rfl rfl rfl ?_ ?_ ?_ ?_ ?_ ?_ ?_ ?_ ?_ ?_ ?_; rotate_left 10; (· (conv => (lhs; whnf))); (· exact Tryz.func22); (· rfl); (· rfl); (· exact (next_spec zs p 6 (by decide) (by decide) hz hp)); (· (repeat (first | exact Rens.nil | (refine Rens.cons ?_ ?_; (· first | exact Ren.own _ _ _ _ _ _ rfl List.mem_cons_self | exact Ren.own _ _ _ _ _ _ rfl (List.mem_cons_of_mem _ List.mem_cons_self) | (refine (Ren.own _ _ _ _ _ _ ?_ List.mem_cons_self); first | rfl | (simp; done)) | (refine (Ren.own _ _ _ _ _ _ ?_ (List.mem_cons_of_mem _ List.mem_cons_self)); first | rfl | (simp; done)) | exact Ren.ptr _ _ _ _ _ List.mem_cons_self | (refine Ren.pureR ?_ rfl; (first | rfl | (simp; done) | (simp [AVal.pure, AVal.pures, AObj.pure]; done)))))))); (· rfl); (· first | rfl | (simp; done) | simp [AVal.pure, AVal.pures, AObj.pure]); (· first | rfl | (simp; done) | simp [AVal.pure, AVal.pures, AObj.pure]); (· first | rfl | (simp; done) | simp [AVal.pure, AVal.pures, AObj.pure]))
    rw [hc]
    (repeat (first | refine runk_end (by kernel_rfl) ?_))
    refine awp_block ?_
    refine awp_reg_seq rfl fun c0 => ?_
    (repeat (first | (apply runk0 rfl rfl (opok_assign rfl ?_) ?_; rotate_left 1; (· (conv => (lhs; whnf)))) | (apply runk0 rfl rfl (opok_bin rfl ?_ ?_ ?_) ?_; rotate_left 3; (· (conv => (lhs; whnf))); (· (conv => (lhs; whnf))); (· (intro w; go_simp; first | done | rfl))) | refine runk_end (by kernel_rfl) ?_))
    refine awp_false rfl ?_
    refine awp_reg_seq rfl fun c1 => ?_
    (repeat (first | (apply runk0 rfl rfl (opok_assign rfl ?_) ?_; rotate_left 1; (· (conv => (lhs; whnf)))) | (apply runk0 rfl rfl (opok_bin rfl ?_ ?_ ?_) ?_; rotate_left 3; (· (conv => (lhs; whnf))); (· (conv => (lhs; whnf))); (· (intro w; go_simp; first | done | rfl))) | refine runk_end (by kernel_rfl) ?_))
    refine awp_false rfl ?_
    refine awp_reg_seq rfl fun c2 => ?_
    (repeat (first | (apply runk0 rfl rfl (opok_assign rfl ?_) ?_; rotate_left 1; (· (conv => (lhs; whnf)))) | (apply runk0 rfl rfl (opok_bin rfl ?_ ?_ ?_) ?_; rotate_left 3; (· (conv => (lhs; whnf))); (· (conv => (lhs; whnf))); (· (intro w; go_simp; first | done | rfl))) | refine runk_end (by kernel_rfl) ?_))
    refine awp_false rfl ?_
    refine awp_reg_seq rfl fun c3 => ?_
    (repeat (first | (apply runk0 rfl rfl (opok_assign rfl ?_) ?_; rotate_left 1; (· (conv => (lhs; whnf)))) | (apply runk0 rfl rfl (opok_bin rfl ?_ ?_ ?_) ?_; rotate_left 3; (· (conv => (lhs; whnf))); (· (conv => (lhs; whnf))); (· (intro w; go_simp; first | done | rfl))) | refine runk_end (by kernel_rfl) ?_))
    refine awp_false rfl ?_
    refine awp_reg_seq rfl fun c4 => ?_
    (repeat (first | (apply runk0 rfl rfl (opok_assign rfl ?_) ?_; rotate_left 1; (· (conv => (lhs; whnf)))) | (apply runk0 rfl rfl (opok_bin rfl ?_ ?_ ?_) ?_; rotate_left 3; (· (conv => (lhs; whnf))); (· (conv => (lhs; whnf))); (· (intro w; go_simp; first | done | rfl))) | refine runk_end (by kernel_rfl) ?_))
    refine awp_false rfl ?_
    refine awp_skip (?_ : Awp _ _ _ _ _ _)
    refine awp_reg_seq rfl fun k4 => ?_
    (repeat (first | (apply runk0 rfl rfl (opok_move rfl ?_) ?_; rotate_left 1; (· (conv => (lhs; whnf))))))
    (apply runk_with rfl rfl rfl ?_ ?_ ?_ ?_ ?_ ?_ ?_ ?_ ?_ ?_ ?_; rotate_left 10; (· (conv => (lhs; whnf))); (· exact Tryz.func22); (· rfl); (· rfl); (· exact (next_spec zs (nextPs zs 1 p) 1073741824 (by decide) (by decide) hz hp1)); (· (repeat (first | exact Rens.nil | (refine Rens.cons ?_ ?_; (· first | exact Ren.own _ _ _ _ _ _ rfl List.mem_cons_self | exact Ren.own _ _ _ _ _ _ rfl (List.mem_cons_of_mem _ List.mem_cons_self) | (refine (Ren.own _ _ _ _ _ _ ?_ List.mem_cons_self); first | rfl | (simp; done)) | (refine (Ren.own _ _ _ _ _ _ ?_ (List.mem_cons_of_mem _ List.mem_cons_self)); first | rfl | (simp; done)) | exact Ren.ptr _ _ _ _ _ List.mem_cons_self | (refine Ren.pureR ?_ rfl; (first | rfl | (simp; done) | (simp [AVal.pure, AVal.pures, AObj.pure]; done)))))))); (· rfl); (· first | rfl | (simp; done) | simp [AVal.pure, AVal.pures, AObj.pure]); (· first | rfl | (simp; done) | simp [AVal.pure, AVal.pures, AObj.pure]); (· first | rfl | (simp; done) | simp [AVal.pure, AVal.pures, AObj.pure]))
    (repeat (first | (apply runk0 rfl rfl (opok_conv rfl ?_ ?_) ?_; rotate_left 2; (· (conv => (lhs; whnf))); (· (intro w; go_simp; first | done | rfl))) | (apply runk0 rfl rfl (opok_build rfl ?_ ?_ ?_ ?_ ?_) ?_; rotate_left 5; (· (conv => (lhs; whnf; arg 1; whnf))); (· (conv => (lhs; whnf; arg 1; repeat (whnf; arg 2)))); (· (conv => (lhs; whnf; arg 1; whnf))); (· (repeat (first | exact PartsOf.nil | (apply PartsOf.cons; (· (conv => (lhs; whnf))))))); (· (conv => (lhs; whnf; arg 1; repeat (whnf; arg 2))))) | (apply runk_store rfl rfl rfl ?_ ?_ ?_ ?_ ?_ ?_ ?_ ?_ ?_ ?_ ?_; rotate_left 9; (· (conv => (lhs; whnf))); (· (conv => (lhs; whnf))); (· (conv => (lhs; whnf; arg 1; whnf; arg 2; whnf))); (· rfl); (· (conv => (lhs; whnf))); (· rfl); (· (unfold sizeIs; conv => (lhs; whnf; arg 1; whnf))); (· rfl); (· rfl); (· (conv => (lhs; repeat (whnf; arg 2))))) | refine runk_end (by kernel_rfl) ?_))
    refine awp_ret ?_
    (apply ends_with ?_ ?_ ?_ ?_ ?_ ?_ ?_ ?_ (.inl rfl); rotate_left 3; (· first | exact res_one rfl rfl | exact res_two rfl rfl rfl | exact res_none rfl | exact res_three rfl rfl rfl rfl | exact res_cell rfl rfl rfl rfl rfl | exact res_cell2 rfl rfl rfl rfl rfl rfl | exact res3 rfl (rv_cell rfl rfl rfl rfl) (rv_tmp rfl) (rv_tmp rfl) | exact res3 rfl (rv_cell rfl rfl rfl rfl) (rv_cell rfl rfl rfl rfl) (rv_cell rfl rfl rfl rfl)); (· first | rfl | ((conv => (lhs; whnf)); first | rfl | (simp; done) | (rfl))); (· first | rfl | (simp; done) | (simp [AVal.pure, AVal.pures, AObj.pure]; done)); (· (conv => (lhs; whnf; arg 1; whnf))); (· rfl); (· first | rfl | (simp; done) | (rfl)); (· first | rfl | (simp; done) | (simp [AVal.pure, AVal.pures, AObj.pure]; done)); (· rfl))
theorem addr_ex (zs : List Int) (p : Nat) (hz : zs.length ≤ 9223372036854775807) (hp : p ≤ zs.length) : ∃ (v : Bool) (hi lo : Int) (q : Nat), AOk v hi lo ∧ q ≤ zs.length ∧
    Spec Tryz.prog 11 [.ptr 0 0 0] [(0, some (0, deckO zs p))] (.agg [.val (.bool v), .val (.int .u64 hi), .val (.int .u64 lo)]) [(0, some (0, deckO zs q))] := by
  obtain ⟨r0, r1⟩ := nextV_range zs p 6 (by decide)
  have hc : nextV zs p 6 = 0 ∨ nextV zs p 6 = 1 ∨ nextV zs p 6 = 2 ∨ nextV zs p 6 = 3 ∨ nextV zs p 6 = 4 ∨ nextV zs p 6 = 5 := by omega
  rcases hc with hc | hc | hc | hc | hc | hc
  · exact addr_0 zs p hz hp hc
  · exact addr_1 zs p hz hp hc
  · exact addr_2 zs p hz hp hc
  · exact addr_3 zs p hz hp hc
  · exact addr_4 zs p hz hp hc
  · exact addr_5 zs p hz hp hc
end Go.Proofs.YtboddbheljenhaaGreatDoor
namespace Go.Proofs.YtboddbheljenhaaGreatDoor
open Go.RowKit
def cmpZ (x y : Int) : Int := bif decide (x < y) then -1 else bif decide (y < x) then 1 else 0
set_option maxHeartbeats 4000000 in
set_option maxRecDepth 100000 in
theorem nan64_spec (x : Int) : Spec Tryz.prog 85 [.val (.int .u64 x)] [] (.val (.bool false)) [] := by
  have h : (x != x) = false := by simp
  refine spec_of_awp Tryz.func85 rfl (Nat.le_of_ble_eq_true rfl) fun ini => ?_
  simp only [Tryz.ntmps85]
  (repeat (first | refine awp_reg_seq rfl fun k => ?_ | (refine awp_ret ?_; (apply ends_pure ?_ ?_ ?_ ?_ ?_ (.inl rfl); rotate_left 1; (· first | exact res_one rfl rfl | exact res_two rfl rfl rfl | exact res_none rfl | exact res_three rfl rfl rfl rfl | exact res_cell rfl rfl rfl rfl rfl | exact res_cell2 rfl rfl rfl rfl rfl rfl | exact res3 rfl (rv_cell rfl rfl rfl rfl) (rv_tmp rfl) (rv_tmp rfl) | exact res3 rfl (rv_cell rfl rfl rfl rfl) (rv_cell rfl rfl rfl rfl) (rv_cell rfl rfl rfl rfl)); (· first | rfl | ((conv => (lhs; whnf)); first | rfl | (simp; done))); (· first | rfl | (simp; done) | (simp [AVal.pure, AVal.pures, AObj.pure]; done)); (· rfl); (· rfl))) | (apply runk0 rfl rfl (opok_move rfl ?_) ?_; rotate_left 1; (· (conv => (lhs; whnf)))) | (apply runk0 rfl rfl (opok_assign rfl ?_) ?_; rotate_left 1; (· (conv => (lhs; whnf)))) | (apply runk0 rfl rfl (opok_bin rfl ?_ ?_ ?_) ?_; rotate_left 3; (· (conv => (lhs; whnf))); (· (conv => (lhs; whnf))); (· (intro w; go_simp; first | done | rfl))) | refine runk_end (by kernel_rfl) ?_))
/-- The first of two numbers that is not 0. -/
def orZ (x y : Int) : Int := bif (x != 0) then x else y
def cmpA (v : Bool) (hi lo : Int) (v' : Bool) (hi' lo' : Int) : Int := bif (v != v') then bif v' then -1 else 1 else orZ (cmpZ hi hi') (cmpZ lo lo')
/-- The address that follows, and whether there is one. -/
def nextA (v : Bool) (hi lo : Int) : Bool × Int × Int × Bool :=
  bif v then bif (IntKind.u64.wrap (lo + 1) == 0) then bif (IntKind.u64.wrap (hi + 1) == 0) then (false, 0, 0, false) else (true, IntKind.u64.wrap (hi + 1), 0, true) else (true, hi, IntKind.u64.wrap (lo + 1), true)
  else bif decide (lo ≥ 4294967295) then (false, 0, 0, false) else (false, 0, lo + 1, true)
def ltA (v : Bool) (hi lo : Int) (v' : Bool) (hi' lo' : Int) : Prop := v = false ∧ v' = true ∨ v = v' ∧ (hi < hi' ∨ hi = hi' ∧ lo < lo')
/-- One number that says where an address stands. -/
def keyA (v : Bool) (hi lo : Int) : Int := (if v = true then 340282366920938463463374607431768211456 else 0) + hi * 18446744073709551616 + lo
theorem cmpZ_cases (x y : Int) : cmpZ x y = -1 ∧ x < y ∨ cmpZ x y = 0 ∧ x = y ∨ cmpZ x y = 1 ∧ y < x := by
  unfold cmpZ
  by_cases h1 : x < y
  · exact .inl ⟨by simp [h1], h1⟩
  · by_cases h2 : y < x
    · exact .inr (.inr ⟨by simp [h1, h2], h2⟩)
    · exact .inr (.inl ⟨by simp [h1, h2], by omega⟩)
theorem cmpA_cases (v : Bool) (hi lo : Int) (v' : Bool) (hi' lo' : Int) :
    cmpA v hi lo v' hi' lo' = -1 ∧ ltA v hi lo v' hi' lo' ∨ cmpA v hi lo v' hi' lo' = 0 ∧ v = v' ∧ hi = hi' ∧ lo = lo' ∨ cmpA v hi lo v' hi' lo' = 1 ∧ ltA v' hi' lo' v hi lo := by
  unfold cmpA ltA orZ
  rcases cmpZ_cases hi hi' with ⟨e, h⟩ | ⟨e, h⟩ | ⟨e, h⟩ <;> rcases cmpZ_cases lo lo' with ⟨e', h'⟩ | ⟨e', h'⟩ | ⟨e', h'⟩ <;> rw [e, e'] <;> cases v <;> cases v' <;> simp <;> omega
/-- The next address is there and greater by one, or there is none. -/
theorem nextA_cases {v : Bool} {hi lo : Int} (h : AOk v hi lo) :
    nextA v hi lo = (false, 0, 0, false) ∧ (v = true ∧ hi = 18446744073709551615 ∧ lo = 18446744073709551615 ∨ v = false ∧ lo = 4294967295) ∨
    ∃ hi' lo', nextA v hi lo = (v, hi', lo', true) ∧ AOk v hi' lo' ∧ hi' * 18446744073709551616 + lo' = hi * 18446744073709551616 + lo + 1 := by
  obtain ⟨h0, h1, h2, h3, h4⟩ := h
  unfold nextA
  cases v with
  | true =>
    by_cases c1 : lo = 18446744073709551615
    · have e1 : IntKind.u64.wrap (lo + 1) = 0 := by rw [IntKind.wrap_u64]; omega
      by_cases c2 : hi = 18446744073709551615
      · have e2 : IntKind.u64.wrap (hi + 1) = 0 := by rw [IntKind.wrap_u64]; omega
        exact .inl ⟨by rw [e1, e2]; rfl, .inl ⟨rfl, c2, c1⟩⟩
      · have e2 : IntKind.u64.wrap (hi + 1) = hi + 1 := by rw [IntKind.wrap_u64]; omega
        have e3 : (hi + 1 == 0) = false := by simp; omega
        exact .inr ⟨hi + 1, 0, by rw [e1, e2, e3]; rfl, ⟨by omega, by omega, by omega, by omega, fun h => by cases h⟩, by omega⟩
    · have e1 : IntKind.u64.wrap (lo + 1) = lo + 1 := by rw [IntKind.wrap_u64]; omega
      have e3 : (lo + 1 == 0) = false := by simp; omega
      exact .inr ⟨hi, lo + 1, by rw [e1, e3]; rfl, ⟨by omega, by omega, by omega, by omega, fun h => by cases h⟩, by omega⟩
  | false =>
    obtain ⟨h5, h6⟩ := h4 rfl
    by_cases c1 : lo ≥ 4294967295
    · exact .inl ⟨by simp [c1], .inr ⟨rfl, by omega⟩⟩
    · refine .inr ⟨0, lo + 1, by simp [c1], ⟨by omega, by omega, by omega, by omega, fun _ => ⟨rfl, by omega⟩⟩, by omega⟩
theorem ltA_key {v : Bool} {hi lo : Int} {v' : Bool} {hi' lo' : Int} (h : AOk v hi lo) (h' : AOk v' hi' lo') : ltA v hi lo v' hi' lo' ↔ keyA v hi lo < keyA v' hi' lo' := by
  obtain ⟨h0, h1, h2, h3, h4⟩ := h
  obtain ⟨g0, g1, g2, g3, g4⟩ := h'
  unfold ltA keyA
  cases v <;> cases v' <;> simp <;> omega
theorem eqA_key {v : Bool} {hi lo : Int} {v' : Bool} {hi' lo' : Int} (h : AOk v hi lo) (h' : AOk v' hi' lo') : (v = v' ∧ hi = hi' ∧ lo = lo') ↔ keyA v hi lo = keyA v' hi' lo' := by
  obtain ⟨h0, h1, h2, h3, h4⟩ := h
  obtain ⟨g0, g1, g2, g3, g4⟩ := h'
  unfold keyA
  cases v <;> cases v' <;> simp <;> omega
/-- The comparison by that number. -/
theorem cmpA_key {v : Bool} {hi lo : Int} {v' : Bool} {hi' lo' : Int} (h : AOk v hi lo) (h' : AOk v' hi' lo') :
    cmpA v hi lo v' hi' lo' = -1 ∧ keyA v hi lo < keyA v' hi' lo' ∨ cmpA v hi lo v' hi' lo' = 0 ∧ keyA v hi lo = keyA v' hi' lo' ∨ cmpA v hi lo v' hi' lo' = 1 ∧ keyA v' hi' lo' < keyA v hi lo := by
  rcases cmpA_cases v hi lo v' hi' lo' with ⟨e, g⟩ | ⟨e, g⟩ | ⟨e, g⟩
  · exact .inl ⟨e, (ltA_key h h').1 g⟩
  · exact .inr (.inl ⟨e, (eqA_key h h').1 g⟩)
  · exact .inr (.inr ⟨e, (ltA_key h' h).1 g⟩)
theorem keyA_four {hi lo : Int} (h : AOk false hi lo) : 0 ≤ keyA false hi lo ∧ keyA false hi lo ≤ 4294967295 := by
  obtain ⟨h0, h1, h2, h3, h4⟩ := h
  have := h4 rfl
  unfold keyA
  simp
  omega
theorem keyA_six {hi lo : Int} (h : AOk true hi lo) : 340282366920938463463374607431768211456 ≤ keyA true hi lo ∧ keyA true hi lo ≤ 680564733841876926926749214863536422911 := by
  obtain ⟨h0, h1, h2, h3, h4⟩ := h
  unfold keyA
  simp
  omega

end Go.Proofs.YtboddbheljenhaaGreatDoor
