/-
  Layer 1: what is printed is read back. No walk.
-/
import Derived.Test.YtboddbheljenhaaDoorG11
import Derived.Test.YtboddbheljenhaaDoorSh9
import Derived.Test.YtboddbheljenhaaDoorG08
import Derived.Test.YtboddbheljenhaaDoorG06
namespace Go.Proofs.YtboddbheljenhaaDoor
open Go.RowKit Go.Lib
theorem hasB_no : ∀ {l : List UInt8} {c : UInt8}, c ∉ l → hasB l c = false := fun {l c} h => by
  unfold hasB
  rw [decide_eq_false]
  intro h0
  obtain ⟨o, ho⟩ := Int.eq_ofNat_of_zero_le h0
  exact h (List.mem_of_getElem? (Lib.indexByte_some ho).1)
theorem hasB_yes {l : List UInt8} {c : UInt8} (h : c ∈ l) : hasB l c = true := by
  unfold hasB
  rw [decide_eq_true_iff]
  rcases Int.lt_or_le (Lib.indexByte l c) 0 with h0 | h0
  · exfalso
    have h1 := Lib.indexByte_ge l c
    obtain ⟨k, hk⟩ := List.mem_iff_getElem?.1 h
    exact Lib.indexByte_none (by omega) k hk
  · exact h0
theorem octN_dig {n : Nat} (h : n < 256) : octN (Lib.decDigits n) = some n := octN_some.2 ⟨h, rfl⟩
theorem dig_no (n : Nat) (c : UInt8) (h2 : isDig c = false) : c ∉ Lib.decDigits n := fun h => by
  have := decDigits_dig n c h
  rw [h2] at this
  cases this
/-- A text of four numbers. -/
theorem quad_join (n : Nat) : quad n = joinC 46 [Lib.decDigits (n / 16777216 % 256), Lib.decDigits (n / 65536 % 256), Lib.decDigits (n / 256 % 256), Lib.decDigits (n % 256)] := by
  unfold quad
  rw [join_one, itoa_nonneg, itoa_nonneg, itoa_nonneg, itoa_nonneg]
theorem split_quad (n : Nat) : splitC 46 (quad n) = [Lib.decDigits (n / 16777216 % 256), Lib.decDigits (n / 65536 % 256), Lib.decDigits (n / 256 % 256), Lib.decDigits (n % 256)] := by
  rw [quad_join]
  refine splitC_join 46 (by simp) fun w hw => ?_
  simp only [List.mem_cons, List.not_mem_nil, or_false] at hw
  rcases hw with rfl | rfl | rfl | rfl <;> exact dig_no _ 46 (by decide)
theorem p4N_quad {n : Nat} (h : n < 4294967296) : p4N (quad n) = some n := by
  unfold p4N
  rw [split_quad]
  simp only [List.length_cons, List.length_nil, if_true, octF]
  rw [octN_dig (by omega), octN_dig (by omega), octN_dig (by omega), octN_dig (by omega)]
  simp only [Option.bind_some]
  congr 1
  omega
theorem quad_no (n : Nat) (c : UInt8) (h1 : c ≠ 46) (h2 : isDig c = false) : c ∉ quad n := by
  rw [quad_join]
  simp only [joinC]
  intro h
  simp only [List.mem_append, List.mem_cons, List.mem_append] at h
  have d := fun k => dig_no k c h2
  rcases h with h | h | h | h | h | h | h
  · exact d _ h
  · exact h1 h
  · exact d _ h
  · exact h1 h
  · exact d _ h
  · exact h1 h
  · exact d _ h
theorem hexDig_ne46 (d : Nat) (h : d < 16) (c : UInt8) (hc : c = 46 ∨ c = 47) : hexDig d ≠ c := by
  have : d = 0 ∨ d = 1 ∨ d = 2 ∨ d = 3 ∨ d = 4 ∨ d = 5 ∨ d = 6 ∨ d = 7 ∨ d = 8 ∨ d = 9 ∨ d = 10 ∨ d = 11 ∨ d = 12 ∨ d = 13 ∨ d = 14 ∨ d = 15 := by omega
  rcases hc with rfl | rfl <;> rcases this with rfl | rfl | rfl | rfl | rfl | rfl | rfl | rfl | rfl | rfl | rfl | rfl | rfl | rfl | rfl | rfl <;> decide
theorem hexL_no46 (u : Nat) (c : UInt8) (hc : c = 46 ∨ c = 47) : c ∉ hexL u := fun h => by
  obtain ⟨d, hd, e⟩ := hexL_bytes u c h
  exact hexDig_ne46 d hd c hc e.symm
theorem grpN_hex {x : Nat} (h : x < 65536) : grpN (hexL x) = some x := by
  unfold grpN hexP
  rw [if_pos (hexL_len 3 x h), if_neg (hexL_ne x), hexN_hexL]
theorem pgF_hex (e : Bool) : ∀ xs : List Nat, (∀ x ∈ xs, x < 65536) → pgF e (xs.map hexL) = some xs
  | [], _ => rfl
  | x :: r, h => by
    rw [List.map_cons]
    unfold pgF
    rw [hasB_no (hexL_no46 x 46 (.inl rfl)), Bool.and_false, if_neg (by decide), grpN_hex (h x List.mem_cons_self), Option.bind_some, pgF_hex e r fun y hy => h y (List.mem_cons_of_mem _ hy)]
    rfl
theorem pgN_hex (e : Bool) (xs : List Nat) (h : ∀ x ∈ xs, x < 65536) : pgN e (hexJ xs) = some xs := by
  unfold pgN
  cases xs with
  | nil => rfl
  | cons x r =>
    rw [if_neg (hexJ_ne x r), hexJ_joinC, splitC_join 58 (by simp) (fun w hw => by obtain ⟨u, _, rfl⟩ := List.mem_map.1 hw; exact hexL_no u)]
    exact pgF_hex e _ h
theorem zr_take : ∀ xs : List Nat, xs.take (zr xs) = List.replicate (zr xs) 0
  | [] => rfl
  | x :: xs => by
    unfold zr
    by_cases c : x = 0
    · rw [if_pos c, List.take_succ_cons, zr_take xs, c]; rfl
    · rw [if_neg c]; rfl
theorem lrs_take (xs : List Nat) : ∀ i, (xs.drop (lrs xs i).1).take (lrs xs i).2 = List.replicate (lrs xs i).2 0
  | 0 => rfl
  | i + 1 => by
    unfold lrs
    by_cases c : zr (xs.drop i) > (lrs xs i).2
    · rw [if_pos c]; exact zr_take _
    · rw [if_neg c]; exact lrs_take xs i
theorem p6N_p6 {xs : List Nat} (h8 : xs.length = 8) (hb : ∀ x ∈ xs, x < 65536) : p6N (p6 xs) = some xs := by
  have bd := lrs_bd xs h8 8 (Nat.le_refl _)
  unfold p6N p6
  by_cases h : (lrs xs 8).2 < 2
  · rw [if_pos h]
    have hc : Lib.cut (hexJ xs) [58, 58] = (hexJ xs, [], false) := by
      unfold Lib.cut
      rw [idx_none (nj_hex xs).no]
      rfl
    rw [hc]
    simp only [Bool.false_eq_true, if_false]
    rw [pgN_hex true xs hb, Option.bind_some, if_pos h8]
  · rw [if_neg h]
    have na := nj_hex (xs.take (lrs xs 8).1)
    have nb := nj_hex (xs.drop ((lrs xs 8).1 + (lrs xs 8).2))
    have hta : (xs.take (lrs xs 8).1).length = (lrs xs 8).1 := by rw [List.length_take]; omega
    have htb : (xs.drop ((lrs xs 8).1 + (lrs xs 8).2)).length = 8 - ((lrs xs 8).1 + (lrs xs 8).2) := by rw [List.length_drop, h8]
    have hba : ∀ x ∈ xs.take (lrs xs 8).1, x < 65536 := fun x hx => hb x (List.mem_of_mem_take hx)
    have hbb : ∀ x ∈ xs.drop ((lrs xs 8).1 + (lrs xs 8).2), x < 65536 := fun x hx => hb x (List.mem_of_mem_drop hx)
    have hrun := lrs_take xs 8
    have hsp : xs = xs.take (lrs xs 8).1 ++ ((xs.drop (lrs xs 8).1).take (lrs xs 8).2 ++ xs.drop ((lrs xs 8).1 + (lrs xs 8).2)) := by
      rw [← List.drop_drop, List.take_append_drop, List.take_append_drop]
    rw [hrun] at hsp
    have hc : Lib.cut (hexJ (xs.take (lrs xs 8).1) ++ [58, 58] ++ hexJ (xs.drop ((lrs xs 8).1 + (lrs xs 8).2))) [58, 58] = (hexJ (xs.take (lrs xs 8).1), hexJ (xs.drop ((lrs xs 8).1 + (lrs xs 8).2)), true) := by
      rw [List.append_assoc]
      have hi := idx_mid na nb
      unfold Lib.cut
      rw [show ([58, 58] ++ hexJ (xs.drop ((lrs xs 8).1 + (lrs xs 8).2)) : List UInt8) = 58 :: 58 :: hexJ (xs.drop ((lrs xs 8).1 + (lrs xs 8).2)) from rfl, hi, if_pos (by omega), Int.toNat_natCast]
      simp
    rw [hc]
    simp only [if_true]
    rw [pgN_hex false _ hba, Option.bind_some, pgN_hex true _ hbb, Option.bind_some, if_pos (by omega), hta, htb]
    rw [show 8 - (lrs xs 8).1 - (8 - ((lrs xs 8).1 + (lrs xs 8).2)) = (lrs xs 8).2 by omega, List.append_assoc, ← hsp]
theorem hexJ_no (c : UInt8) (hc : c = 46 ∨ c = 47) : ∀ xs : List Nat, c ∉ hexJ xs
  | [] => by rw [hexJ_joinC]; simp [joinC]
  | [x] => by rw [hexJ_joinC]; exact hexL_no46 x c hc
  | x :: y :: r => by
    have ih := hexJ_no c hc (y :: r)
    rw [hexJ_joinC] at ih ⊢
    rw [List.map_cons, joinC_cons 58 (hexL x) (by simp)]
    intro h
    rcases List.mem_append.1 h with h | h
    · exact hexL_no46 x c hc h
    · rcases List.mem_cons.1 h with h | h
      · rcases hc with rfl | rfl <;> exact absurd h (by decide)
      · exact ih h
theorem p6_no47 (xs : List Nat) : (47 : UInt8) ∉ p6 xs := by
  unfold p6
  by_cases h : (lrs xs 8).2 < 2
  · rw [if_pos h]; exact hexJ_no 47 (.inr rfl) xs
  · rw [if_neg h]
    intro hm
    rcases List.mem_append.1 hm with hm | hm
    · rcases List.mem_append.1 hm with hm | hm
      · exact hexJ_no 47 (.inr rfl) _ hm
      · simp at hm
    · exact hexJ_no 47 (.inr rfl) _ hm
theorem p6_colon {xs : List Nat} (h8 : xs.length = 8) : (58 : UInt8) ∈ p6 xs := by
  unfold p6
  by_cases h : (lrs xs 8).2 < 2
  · rw [if_pos h]
    match xs, h8 with
    | x :: y :: r, _ =>
      rw [hexJ_joinC, List.map_cons, joinC_cons 58 (hexL x) (by simp)]
      simp
  · rw [if_neg h]
    simp
theorem p6_len45 {xs : List Nat} (h8 : xs.length = 8) (hb : ∀ x ∈ xs, x < 65536) : (p6 xs).length ≤ 45 := by
  have bd := lrs_bd xs h8 8 (Nat.le_refl _)
  unfold p6
  by_cases h : (lrs xs 8).2 < 2
  · rw [if_pos h]
    have := hexJ_len xs hb
    omega
  · rw [if_neg h]
    have h1 := hexJ_len (xs.take (lrs xs 8).1) fun x hx => hb x (List.mem_of_mem_take hx)
    have h2 := hexJ_len (xs.drop ((lrs xs 8).1 + (lrs xs 8).2)) fun x hx => hb x (List.mem_of_mem_drop hx)
    rw [List.length_take] at h1
    rw [List.length_drop] at h2
    simp only [List.length_append, List.length_cons, List.length_nil]
    omega
theorem quad_len {n : Nat} : (quad n).length ≤ 15 := by
  have d : ∀ k : Nat, k < 256 → (Lib.decDigits k).length ≤ 3 := by
    have : ∀ k : Fin 256, (Lib.decDigits k.val).length ≤ 3 := by decide +kernel
    exact fun k hk => this ⟨k, hk⟩
  have d1 := d (n / 16777216 % 256) (by omega)
  have d2 := d (n / 65536 % 256) (by omega)
  have d3 := d (n / 256 % 256) (by omega)
  have d4 := d (n % 256) (by omega)
  rw [quad_join]
  simp only [joinC, List.length_append, List.length_cons]
  omega
end Go.Proofs.YtboddbheljenhaaDoor
namespace Go.Proofs.YtboddbheljenhaaDoor
open Go.RowKit
def eqQ (v : Bool) (hi lo : Int) (v' : Bool) (hi' lo' : Int) : Bool := v == v' && (hi == hi' && lo == lo')
def eqP (v : Bool) (hi lo n : Int) (v' : Bool) (hi' lo' n' : Int) : Bool := eqQ v hi lo v' hi' lo' && n == n'
section
variable {k : Nat} {st : St} {o : Oper}
theorem opok_eqQd {yt : TypeId} {x y : Operand} {v1 v2 : Bool} {h1 l1 h2 l2 : Int} (ho : o.op = .binOp .eql 27 x y yt) (hx : st.aop x = .agg [.val (.bool v1), .val (.int .u64 h1), .val (.int .u64 l1)]) (hy : st.aop y = .agg [.val (.bool v2), .val (.int .u64 h2), .val (.int .u64 l2)]) :
    OpOk Tryd.prog k st o ⟨.val (.bool (eqQ v1 h1 l1 v2 h2 l2)), [], [], []⟩ :=
  opok_binA ho hx (.cons (.cons (.cons .nil))) hy (.cons (.cons (.cons .nil))) fun w => by
    unfold eqQ
    go_simp
    by_cases c1 : v1 = v2 <;> by_cases c2 : h1 = h2 <;> by_cases c3 : l1 = l2 <;> simp_all
theorem opok_neQd {yt : TypeId} {x y : Operand} {v1 v2 : Bool} {h1 l1 h2 l2 : Int} (ho : o.op = .binOp .neq 27 x y yt) (hx : st.aop x = .agg [.val (.bool v1), .val (.int .u64 h1), .val (.int .u64 l1)]) (hy : st.aop y = .agg [.val (.bool v2), .val (.int .u64 h2), .val (.int .u64 l2)]) :
    OpOk Tryd.prog k st o ⟨.val (.bool (!eqQ v1 h1 l1 v2 h2 l2)), [], [], []⟩ :=
  opok_binA ho hx (.cons (.cons (.cons .nil))) hy (.cons (.cons (.cons .nil))) fun w => by
    unfold eqQ
    go_simp
    by_cases c1 : v1 = v2 <;> by_cases c2 : h1 = h2 <;> by_cases c3 : l1 = l2 <;> simp_all
theorem opok_eqPd {yt : TypeId} {x y : Operand} {v1 v2 : Bool} {h1 l1 h2 l2 n1 n2 : Int} (ho : o.op = .binOp .eql 29 x y yt) (hx : st.aop x = .agg [.val (.bool v1), .val (.int .u64 h1), .val (.int .u64 l1), .val (.int .i64 n1)]) (hy : st.aop y = .agg [.val (.bool v2), .val (.int .u64 h2), .val (.int .u64 l2), .val (.int .i64 n2)]) :
    OpOk Tryd.prog k st o ⟨.val (.bool (eqP v1 h1 l1 n1 v2 h2 l2 n2)), [], [], []⟩ :=
  opok_binA ho hx (.cons (.cons (.cons (.cons .nil)))) hy (.cons (.cons (.cons (.cons .nil)))) fun w => by
    unfold eqP eqQ
    go_simp
    by_cases c1 : v1 = v2 <;> by_cases c2 : h1 = h2 <;> by_cases c3 : l1 = l2 <;> by_cases c4 : n1 = n2 <;> simp_all
theorem opok_nePd {yt : TypeId} {x y : Operand} {v1 v2 : Bool} {h1 l1 h2 l2 n1 n2 : Int} (ho : o.op = .binOp .neq 29 x y yt) (hx : st.aop x = .agg [.val (.bool v1), .val (.int .u64 h1), .val (.int .u64 l1), .val (.int .i64 n1)]) (hy : st.aop y = .agg [.val (.bool v2), .val (.int .u64 h2), .val (.int .u64 l2), .val (.int .i64 n2)]) :
    OpOk Tryd.prog k st o ⟨.val (.bool (!eqP v1 h1 l1 n1 v2 h2 l2 n2)), [], [], []⟩ :=
  opok_binA ho hx (.cons (.cons (.cons (.cons .nil)))) hy (.cons (.cons (.cons (.cons .nil)))) fun w => by
    unfold eqP eqQ
    go_simp
    by_cases c1 : v1 = v2 <;> by_cases c2 : h1 = h2 <;> by_cases c3 : l1 = l2 <;> by_cases c4 : n1 = n2 <;> simp_all
end
end Go.Proofs.YtboddbheljenhaaDoor
namespace Go.Proofs.YtboddbheljenhaaDoor
open Go.RowKit
def okA' (v : Bool) (hi lo : Int) : Bool := v || (decide (hi = 0) && decide (lo ≤ 4294967295))
set_option maxHeartbeats 1000000 in
theorem avalid4_any (hi lo : Int) (w : World) : Calls Tryd.prog 28 #[.agg #[.bool false, .int .u64 hi, .int .u64 lo]] w fun e w' => e = .returned (.bool (decide (hi = 0) && decide (lo ≤ 4294967295))) ∧ Below w.heap.size w w' := by
  have e3 : decide (lo < 4294967296) = decide (lo ≤ 4294967295) := by rw [decide_eq_decide]; omega
  by_cases h1 : hi = 0
  · have e1 : decide (hi = 0) = true := by simpa using h1
    have e2 : (hi == 0) = true := by simpa using h1
    rw [e1]
    go_enter Tryd.func28, Tryd.ntmps28
    go_wp2
    go_ret
    refine ⟨?_, (by repeat (with_reducible first | exact Below.refl _ _ | assumption | refine Below.drew ?_ | refine below_drewN ?_ _ | refine Below.alloc ?_ (by simp) _ | refine Below.setCell ?_ (by first | (simp; done) | omega | (simp; omega)) _ | refine Below.alloc ?_ (by simp; omega) _))⟩
    first | rfl | (rw [← e3]; rfl)
  · have e1 : decide (hi = 0) = false := by simpa using h1
    have e2 : (hi == 0) = false := by simpa using h1
    rw [e1]
    go_enter Tryd.func28, Tryd.ntmps28
    go_wp2
    go_ret
    refine ⟨?_, (by repeat (with_reducible first | exact Below.refl _ _ | assumption | refine Below.drew ?_ | refine below_drewN ?_ _ | refine Below.alloc ?_ (by simp) _ | refine Below.setCell ?_ (by first | (simp; done) | omega | (simp; omega)) _ | refine Below.alloc ?_ (by simp; omega) _))⟩
    first | rfl | (rw [← e3]; rfl)
theorem avalid_v4 (hi lo : Int) : Spec Tryd.prog 28 [.agg [.val (.bool false), .val (.int .u64 hi), .val (.int .u64 lo)]] [] (.val (.bool (decide (hi = 0) && decide (lo ≤ 4294967295)))) [] :=
  (spec_of_calls (vs := #[.agg #[.bool false, .int .u64 hi, .int .u64 lo]]) fun w => avalid4_any hi lo w).of (.agg (vs := [.bool false, .int .u64 hi, .int .u64 lo]) .nil)
set_option maxHeartbeats 1000000 in
theorem avalid6_any (hi lo : Int) (w : World) : Calls Tryd.prog 28 #[.agg #[.bool true, .int .u64 hi, .int .u64 lo]] w fun e w' => e = .returned (.bool true) ∧ Below w.heap.size w w' := by
  go_enter Tryd.func28, Tryd.ntmps28
  go_wp2
  go_ret
  exact ⟨rfl, (by repeat (with_reducible first | exact Below.refl _ _ | assumption | refine Below.drew ?_ | refine below_drewN ?_ _ | refine Below.alloc ?_ (by simp) _ | refine Below.setCell ?_ (by first | (simp; done) | omega | (simp; omega)) _ | refine Below.alloc ?_ (by simp; omega) _))⟩
theorem avalid_v6 (hi lo : Int) : Spec Tryd.prog 28 [.agg [.val (.bool true), .val (.int .u64 hi), .val (.int .u64 lo)]] [] (.val (.bool true)) [] :=
  (spec_of_calls (vs := #[.agg #[.bool true, .int .u64 hi, .int .u64 lo]]) fun w => avalid6_any hi lo w).of (.agg (vs := [.bool true, .int .u64 hi, .int .u64 lo]) .nil)
theorem avalid_spec (v : Bool) (hi lo : Int) : Spec Tryd.prog 28 [.agg [.val (.bool v), .val (.int .u64 hi), .val (.int .u64 lo)]] [] (.val (.bool (okA' v hi lo))) [] := by
  cases v with
  | true => exact avalid_v6 hi lo
  | false => exact avalid_v4 hi lo
end Go.Proofs.YtboddbheljenhaaDoor
