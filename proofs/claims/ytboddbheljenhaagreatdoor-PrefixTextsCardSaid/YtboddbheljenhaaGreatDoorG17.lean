/-
  Layer 2: what prefix.Parse reads. No walk.
-/
import Derived.Test.YtboddbheljenhaaGreatDoorG15
import Derived.Test.YtboddbheljenhaaGreatDoorG16
import Derived.Test.YtboddbheljenhaaGreatDoorPf1
import Derived.Test.YtboddbheljenhaaGreatDoorG07
import Derived.Test.YtboddbheljenhaaGreatDoorG13
import Derived.Test.YtboddbheljenhaaGreatDoorG11
import Derived.Test.YtboddbheljenhaaGreatDoorG05
import Derived.Test.YtboddbheljenhaaGreatDoorG04
namespace Go.Proofs.YtboddbheljenhaaGreatDoor
open Go.RowKit
def canD (l : List UInt8) : Bool := match l with
  | [] => false
  | x :: r => (r.isEmpty || x != 48) && (x :: r).all isDig
theorem canD_dig {l : List UInt8} (h : canD l = true) : ∀ x ∈ l, isDig x = true := by
  match l, h with
  | x :: r, h =>
    unfold canD at h
    simp only [Bool.and_eq_true, List.all_eq_true] at h
    exact h.2
theorem canD_ne {l : List UInt8} (h : canD l = true) : l ≠ [] := by
  rintro rfl
  cases h
theorem canD_47 {l : List UInt8} (h : (47 : UInt8) ∈ l) : canD l = false := by
  cases hc : canD l with
  | false => rfl
  | true =>
    have := canD_dig hc 47 h
    revert this
    decide
theorem parse_over : ∀ (l : List UInt8) (acc : Nat), (∀ x ∈ l, isDig x = true) → acc < 18446744073709551616 → 18446744073709551616 ≤ numOf acc l → Lib.parseUint10 acc l = .range
  | [], acc, _, h1, h2 => by
    have : numOf acc [] = acc := rfl
    omega
  | x :: l, acc, hd, h1, h2 => by
    have hx := hd x List.mem_cons_self
    simp only [isDig, Bool.and_eq_true, decide_eq_true_eq] at hx
    rw [numOf_cons] at h2
    unfold Lib.parseUint10
    rw [if_pos ⟨hx.1, hx.2⟩]
    by_cases c1 : 1844674407370955162 ≤ acc
    · rw [if_pos c1]
    · rw [if_neg c1]
      by_cases c2 : 18446744073709551616 ≤ acc * 10 + (x.toNat - 48)
      · rw [if_pos c2]
      · rw [if_neg c2]
        exact parse_over l _ (fun y hy => hd y (List.mem_cons_of_mem _ hy)) (by omega) h2
theorem atoi_can {l : List UInt8} (h : canD l = true) : Lib.atoiAll l = if 9223372036854775808 ≤ numOf 0 l then .range else .ok (numOf 0 l : Int) := by
  have hd := canD_dig h
  match l, canD_ne h, hd with
  | x :: r, _, hd =>
    have hx := hd x List.mem_cons_self
    simp only [isDig, Bool.and_eq_true, decide_eq_true_eq] at hx
    rw [Lib.atoiAll_plain x r (by omega) (by omega)]
    have hp : Lib.parseMag (x :: r) = Lib.parseUint10 0 (x :: r) := by unfold Lib.parseMag; rw [if_neg (by simp)]
    rw [hp]
    by_cases c : numOf 0 (x :: r) < 18446744073709551616
    · rw [parse_digits _ _ hd c]
      rfl
    · rw [parse_over _ _ hd (by omega) (by omega), if_pos (by omega)]
      rfl
theorem octN_47 {p : List UInt8} {n : Nat} (h : octN p = some n) : (47 : UInt8) ∉ p := fun hm => by
  have e := (octN_some.1 h).2
  rw [← e] at hm
  have := decDigits_dig n 47 hm
  revert this
  decide
theorem octF_47 : ∀ (ps : List (List UInt8)) (n m : Nat), octF ps n = some m → ∀ p ∈ ps, (47 : UInt8) ∉ p
  | [], _, _, _ => by simp
  | q :: r, n, m, h => by
    unfold octF at h
    cases e : octN q with
    | none => rw [e] at h; cases h
    | some x =>
      rw [e, Option.bind_some] at h
      intro p hp
      rcases List.mem_cons.1 hp with rfl | hp
      · exact octN_47 e
      · exact octF_47 r _ m h p hp
theorem p4N_47 {l : List UInt8} {n : Nat} (h : p4N l = some n) : (47 : UInt8) ∉ l := fun hm => by
  unfold p4N at h
  by_cases c : (splitC 46 l).length = 4
  · rw [if_pos c] at h
    rw [← joinC_split 46 l] at hm
    obtain ⟨w, hw, hx⟩ := mem_joinC (by decide) hm
    exact octF_47 _ _ _ h w hw hx
  · rw [if_neg c] at h; cases h
theorem grpN_47 {p : List UInt8} {n : Nat} (h : grpN p = some n) : (47 : UInt8) ∉ p := fun hm => by
  unfold grpN hexP at h
  by_cases c : p.length ≤ 4
  · rw [if_pos c] at h
    by_cases c2 : p = []
    · rw [if_pos c2] at h; cases h
    · rw [if_neg c2] at h
      have := hexN_mem p 0 n h 47 hm
      revert this
      decide
  · rw [if_neg c] at h; cases h
theorem pgF_47 : ∀ (e : Bool) (ps : List (List UInt8)) (xs : List Nat), pgF e ps = some xs → ∀ p ∈ ps, (47 : UInt8) ∉ p
  | _, [], _, _ => by simp
  | e, q :: r, xs, h => by
    unfold pgF at h
    intro p hp
    by_cases c : (e && r.isEmpty && hasB q 46) = true
    · rw [if_pos c] at h
      have hr : r = [] := by
        simp only [Bool.and_eq_true, List.isEmpty_iff] at c
        exact c.1.2
      subst hr
      cases e4 : p4N q with
      | none => rw [e4] at h; cases h
      | some n =>
        rw [List.mem_singleton.1 hp]
        exact p4N_47 e4
    · rw [if_neg c] at h
      cases e4 : grpN q with
      | none => rw [e4] at h; cases h
      | some n =>
        rw [e4, Option.bind_some] at h
        cases e5 : pgF e r with
        | none => rw [e5] at h; cases h
        | some ys =>
          rcases List.mem_cons.1 hp with rfl | hp
          · exact grpN_47 e4
          · exact pgF_47 e r ys e5 p hp
theorem pgN_47 {e : Bool} {l : List UInt8} {xs : List Nat} (h : pgN e l = some xs) : (47 : UInt8) ∉ l := fun hm => by
  unfold pgN at h
  by_cases c : l = []
  · subst c; cases hm
  · rw [if_neg c] at h
    rw [← joinC_split 58 l] at hm
    obtain ⟨w, hw, hx⟩ := mem_joinC (by decide) hm
    exact pgF_47 _ _ _ h w hw hx
theorem cut_mem {l : List UInt8} {x : UInt8} (hx : x ≠ 58) (hm : x ∈ l) (hc : (Lib.cut l [58, 58]).2.2 = true) : x ∈ (Lib.cut l [58, 58]).1 ∨ x ∈ (Lib.cut l [58, 58]).2.1 := by
  unfold Lib.cut at hc ⊢
  by_cases h : 0 ≤ Lib.index l [58, 58]
  · rw [if_pos h] at hc ⊢
    dsimp only
    rcases Lib.index_spec l [58, 58] with ⟨e, -⟩ | ⟨i, e, hi, ho, -⟩
    · omega
    · rw [e, Int.toNat_natCast]
      have h0 := Lib.occAt_head rfl ho
      have h1 := Lib.occAt_second rfl ho
      have hl : i + 1 < l.length := by
        rcases Nat.lt_or_ge (i + 1) l.length with h | h
        · exact h
        · rw [List.getElem?_eq_none h] at h1; cases h1
      have e2 : l = l.take i ++ 58 :: 58 :: l.drop (i + 2) := by
        conv => lhs; rw [← List.take_append_drop i l]
        rw [List.drop_eq_getElem_cons (by omega), List.drop_eq_getElem_cons (by omega)]
        rw [List.getElem?_eq_getElem (by omega)] at h0 h1
        rw [Option.some.inj h0, Option.some.inj h1]
      rw [e2] at hm
      rcases List.mem_append.1 hm with hm | hm
      · exact .inl hm
      · rcases List.mem_cons.1 hm with hm | hm
        · exact absurd hm hx
        · rcases List.mem_cons.1 hm with hm | hm
          · exact absurd hm hx
          · exact .inr hm
  · rw [if_neg h] at hc; cases hc
theorem p6N_47 {l : List UInt8} {xs : List Nat} (h : p6N l = some xs) : (47 : UInt8) ∉ l := fun hm => by
  unfold p6N at h
  by_cases c : (Lib.cut l [58, 58]).2.2 = true
  · rw [if_pos c] at h
    cases ea : pgN false (Lib.cut l [58, 58]).1 with
    | none => rw [ea] at h; cases h
    | some a =>
      rw [ea, Option.bind_some] at h
      cases eb : pgN true (Lib.cut l [58, 58]).2.1 with
      | none => rw [eb] at h; cases h
      | some b =>
        rcases cut_mem (by decide) hm c with hm | hm
        · exact pgN_47 ea hm
        · exact pgN_47 eb hm
  · rw [if_neg c] at h
    cases ea : pgN true l with
    | none => rw [ea] at h; cases h
    | some a => exact pgN_47 ea hm
theorem prsA_47 {l : List UInt8} (hm : (47 : UInt8) ∈ l) : prsA l = none := by
  unfold prsA
  by_cases c : 45 < l.length
  · rw [if_pos c]
  · rw [if_neg c]
    by_cases c2 : hasB l 58 = true
    · rw [if_pos c2]
      cases e : p6N l with
      | none => rfl
      | some xs => exact absurd hm (p6N_47 e)
    · rw [if_neg c2]
      cases e : p4N l with
      | none => rfl
      | some n => exact absurd hm (p4N_47 e)
def errP (e : Int) : AVal := .tuple [.agg [.val (.bool false), .val (.int .u64 0), .val (.int .u64 0), .val (.int .i64 0)], .val (.int .i64 e)]
def pfV (h t : List UInt8) : AVal := match prsA h with
  | none => errP 2
  | some (v, hi, lo) => if canD t = true then (if numOf 0 t ≤ wiN v then (if fstH v hi (numOf 0 t : Nat) = hi ∧ fstL v lo (numOf 0 t : Nat) = lo then .tuple [.agg [.val (.bool v), .val (.int .u64 hi), .val (.int .u64 lo), .val (.int .i64 (numOf 0 t : Nat))], .val (.int .i64 0)] else errP 5) else errP 9) else errP 2
def pfA (l : List UInt8) : AVal := pfV (Lib.cut l [47]).1 (Lib.cut l [47]).2.1
theorem cut_none {l : List UInt8} {c : UInt8} (h : c ∉ l) : Lib.cut l [c] = (l, [], false) := by
  unfold Lib.cut
  rcases Lib.index_spec l [c] with ⟨e, -⟩ | ⟨i, e, hi, ho, -⟩
  · rw [e, if_neg (by decide)]
  · exact absurd (List.mem_of_getElem? (Lib.occAt_head rfl ho)) h
theorem cut_1 {a b : List UInt8} {c : UInt8} (h : c ∉ a) : Lib.cut (a ++ c :: b) [c] = (a, b, true) := by
  have hi : Lib.index (a ++ c :: b) [c] = (a.length : Int) := by
    refine Lib.index_first (by simp) ?_ fun j hj => ?_
    · unfold Lib.occAt
      rw [List.drop_left]
      simp [List.isPrefixOf]
    · cases ho : Lib.occAt (a ++ c :: b) [c] j with
      | false => rfl
      | true =>
        exfalso
        unfold Lib.occAt at ho
        rw [List.drop_append_of_le_length (Nat.le_of_lt hj), List.drop_eq_getElem_cons hj] at ho
        simp only [List.cons_append, List.isPrefixOf, Bool.and_eq_true, beq_iff_eq] at ho
        exact h (ho.1 ▸ List.getElem_mem hj)
  unfold Lib.cut
  rw [hi, if_pos (by omega), Int.toNat_natCast]
  simp
theorem pfV_bad {h t : List UInt8} (hc : canD t = false) : pfV h t = errP 2 := by
  unfold pfV
  rw [hc]
  cases prsA h with
  | none => rfl
  | some a => rfl
theorem pfV_none {h t : List UInt8} (hc : prsA h = none) : pfV h t = errP 2 := by
  unfold pfV
  rw [hc]
theorem pfA_no {l : List UInt8} (h : (47 : UInt8) ∉ l) : pfA l = errP 2 := by
  unfold pfA
  rw [cut_none h]
  exact pfV_bad rfl
theorem pfA_last (H T : List UInt8) : pfA (H ++ 47 :: T) = pfV H T := by
  unfold pfA
  by_cases h : (47 : UInt8) ∈ H
  · rw [pfV_none (prsA_47 h)]
    obtain ⟨a, b, rfl, hn⟩ : ∃ a b, H = a ++ 47 :: b ∧ (47 : UInt8) ∉ a := List.eq_append_cons_of_mem h
    rw [List.append_assoc, List.cons_append, cut_1 hn]
    exact pfV_bad (canD_47 (by simp))
  · rw [cut_1 h]
end Go.Proofs.YtboddbheljenhaaGreatDoor
namespace Go.Proofs.YtboddbheljenhaaGreatDoor
open Go.RowKit
def bitA (v : Bool) (hi lo : Int) (i : Nat) : Int := if v = true then (if i < 64 then bitZ hi (63 - i) else bitZ lo (127 - i)) else bitZ lo (31 - i)
theorem bitZ_rng (x : Int) (b : Nat) : 0 ≤ bitZ x b ∧ bitZ x b < 2 := by unfold bitZ; omega
set_option maxHeartbeats 4000000 in
set_option maxRecDepth 100000 in
theorem pvalid_in (v : Bool) (hi lo n : Int) (hv : okA' v hi lo = true) (h0 : 0 ≤ hi) (h1 : hi < 18446744073709551616) (g0 : 0 ≤ lo) (g1 : lo < 18446744073709551616) (n0 : 0 ≤ n) (n1 : n ≤ (wiN v : Int)) : Spec Tryz.prog 13 [.agg [.val (.bool v), .val (.int .u64 hi), .val (.int .u64 lo), .val (.int .i64 n)]] [] (.val (.bool (eqQ v hi lo v (fstH v hi n) (fstL v lo n)))) [] := by
  have va := avalid_spec v hi lo
  rw [hv] at va
  have w := width_spec v hi lo
  have f := first_spec v hi lo n h0 h1 g0 g1
  have d1 : decide (n ≥ 0) = true := decide_eq_true n0
  have d2 : decide (n ≤ (wiN v : Int)) = true := decide_eq_true n1
  generalize fstH v hi n = FH at *
  generalize fstL v lo n = FL at *
  generalize (wiN v : Int) = W at *
  refine spec_of_awp Tryz.func13 rfl (Nat.le_of_ble_eq_true rfl) fun ini => ?_
  simp only [Tryz.ntmps13]
  (repeat (first | refine awp_reg_seq rfl fun k => ?_ | (refine awp_ret ?_; (apply ends_pure ?_ ?_ ?_ ?_ ?_ (.inl rfl); rotate_left 1; (· (exact res_one rfl rfl)); (· rfl); (· rfl); (· rfl); (· rfl))) | (apply runk_pure rfl rfl rfl ?_ ?_ ?_ ?_ ?_ ?_ ?_ ?_; rotate_left 6; (· (conv => (lhs; whnf))); (· exact Tryz.func41); (· rfl); (· rfl); (· exact (va)); (· (repeat (first | exact Rens.nil | (refine Rens.cons ?_ ?_; (· ((refine Ren.pureR ?_ rfl; (rfl)))))))); (· rfl)) | (apply runk_guard rfl rfl ?_ rfl ?_ ?_; rotate_left 3; (· (conv => (lhs; whnf))); (· (intro hb; (try rw [hb]); apply opok_pure rfl ?_ ?_ ?_ ?_ ?_ ?_ ?_; rotate_left 6; (· (conv => (lhs; whnf))); (· exact Tryz.func42); (· rfl); (· rfl); (· exact (w)); (· (repeat (first | exact Rens.nil | (refine Rens.cons ?_ ?_; (· ((refine Ren.pureR ?_ rfl; (rfl)))))))); (· rfl)))) | (apply runk_guard rfl rfl ?_ rfl ?_ ?_; rotate_left 3; (· (conv => (lhs; whnf))); (· (intro hb; (try rw [hb]); apply opok_pure rfl ?_ ?_ ?_ ?_ ?_ ?_ ?_; rotate_left 6; (· (conv => (lhs; whnf))); (· exact Tryz.func43); (· rfl); (· rfl); (· exact (f)); (· (repeat (first | exact Rens.nil | (refine Rens.cons ?_ ?_; (· ((refine Ren.pureR ?_ rfl; (rfl)))))))); (· rfl)))) | (((((apply runk_guard rfl rfl ?_ rfl ?_ ?_; rotate_left 3; (· (conv => (lhs; whnf))); (· (intro hb; (try rw [hb]); apply opok_eqQd rfl ?_ ?_; rotate_left 6; (· ((conv => (lhs; whnf)); try exact rfl)); (· ((conv => (lhs; whnf)); try exact rfl))))))))) | ((refine runk_ung rfl rfl rfl rfl ?_)) | (apply runk0 rfl rfl (opok_move rfl ?_) ?_; rotate_left 1; (· (conv => (lhs; whnf)))) | (apply runk0 rfl rfl (opok_assign rfl ?_) ?_; rotate_left 1; (· (conv => (lhs; whnf)))) | (apply runk_fa rfl rfl rfl ?_ rfl rfl ?_ ?_ ?_ ?_; rotate_left 5; (· (conv => (lhs; whnf))); (· (unfold sizeIs; conv => (lhs; whnf; arg 1; whnf))); (· rfl); (· (conv => (lhs; whnf)))) | (((apply runk0 rfl rfl (opok_load rfl ?_ ?_ ?_ ?_) ?_; rotate_left 5; (· (conv => (lhs; whnf))); (· (conv => (lhs; whnf; arg 1; whnf; arg 2; whnf))); (· rfl); (· (conv => (lhs; whnf; arg 1; whnf)))))) | (apply runk0 rfl rfl (opok_loadA rfl ?_ ?_ ?_ ?_ ?_ ?_) ?_; rotate_left 6; (· (conv => (lhs; whnf))); (· (conv => (lhs; whnf; arg 1; whnf; arg 2; whnf))); (· rfl); (· (unfold sizeIs; conv => (lhs; whnf; arg 1; whnf))); (· (conv => (lhs; repeat (whnf; arg 2)))); (· rfl)) | (apply runk0 rfl rfl (opok_bin rfl ?_ ?_ ?_) ?_; rotate_left 3; (· (conv => (lhs; whnf))); (· (conv => (lhs; whnf))); (· (intro w; go_simp; rfl))) | (apply runk0 rfl rfl (opok_pick rfl ?_ ?_) ?_; rotate_left 2; (· (conv => (lhs; whnf))); (· (exact pick_and))) | (apply runk_box rfl rfl rfl ?_ ?_ ?_ ?_; rotate_left 2; (· (conv => (lhs; whnf))); (· rfl); (· (conv => (lhs; whnf)))) | refine runk_end (by kernel_rfl) ?_))
theorem pvalid_ok (v : Bool) (hi lo n : Int) (hv : okA' v hi lo = true) (h0 : 0 ≤ hi) (h1 : hi < 18446744073709551616) (g0 : 0 ≤ lo) (g1 : lo < 18446744073709551616) (n0 : 0 ≤ n) (n1 : n ≤ (wiN v : Int)) (eh : fstH v hi n = hi) (el : fstL v lo n = lo) : Spec Tryz.prog 13 [.agg [.val (.bool v), .val (.int .u64 hi), .val (.int .u64 lo), .val (.int .i64 n)]] [] (.val (.bool true)) [] := by
  have s := pvalid_in v hi lo n hv h0 h1 g0 g1 n0 n1
  rw [eh, el, show eqQ v hi lo v hi lo = true by simp [eqQ]] at s
  exact s
end Go.Proofs.YtboddbheljenhaaGreatDoor
namespace Go.Proofs.YtboddbheljenhaaGreatDoor
open Go.RowKit
theorem fstH_idem (v : Bool) (hi n : Int) : fstH v (fstH v hi n) n = fstH v hi n := cutZ_idem _ _
theorem fstL_idem (v : Bool) (lo n : Int) : fstL v (fstL v lo n) n = fstL v lo n := cutZ_idem _ _
theorem cl_of {v : Bool} {N : Nat} (h : N ≤ wiN v) : clN v (N : Int) = N := by have := clN_in v (N : Int) (by omega) (by omega); omega
theorem okA_of {v : Bool} {hi lo : Int} (h : AOk v hi lo) : okA' v hi lo = true := by
  obtain ⟨h0, h1, h2, h3, h4⟩ := h
  unfold okA'
  cases v with
  | true => rfl
  | false =>
    obtain ⟨rfl, h5⟩ := h4 rfl
    simp; omega
theorem aok_first {v : Bool} {hi lo : Int} (n : Int) (h : AOk v hi lo) : AOk v (fstH v hi n) (fstL v lo n) := by
  obtain ⟨h0, h1, h2, h3, h4⟩ := h
  have a := cutZ_bd (khN v (clN v n)) h0
  have b := cutZ_bd (klN v (clN v n)) h2
  refine ⟨a.1, by unfold fstH; omega, b.1, by unfold fstL; omega, fun hv => ?_⟩
  obtain ⟨rfl, h5⟩ := h4 hv
  unfold fstH fstL
  omega
end Go.Proofs.YtboddbheljenhaaGreatDoor
namespace Go.Proofs.YtboddbheljenhaaGreatDoor
open Go.RowKit
def cmpZ (x y : Int) : Int := bif decide (x < y) then -1 else bif decide (y < x) then 1 else 0
def orZ (x y : Int) : Int := bif (x != 0) then x else y
def cmpA (v : Bool) (hi lo : Int) (v' : Bool) (hi' lo' : Int) : Int := bif (v != v') then bif v' then -1 else 1 else orZ (cmpZ hi hi') (cmpZ lo lo')
def nextA (v : Bool) (hi lo : Int) : Bool × Int × Int × Bool :=
  bif v then bif (IntKind.u64.wrap (lo + 1) == 0) then bif (IntKind.u64.wrap (hi + 1) == 0) then (false, 0, 0, false) else (true, IntKind.u64.wrap (hi + 1), 0, true) else (true, hi, IntKind.u64.wrap (lo + 1), true)
  else bif decide (lo ≥ 4294967295) then (false, 0, 0, false) else (false, 0, lo + 1, true)
def ltA (v : Bool) (hi lo : Int) (v' : Bool) (hi' lo' : Int) : Prop := v = false ∧ v' = true ∨ v = v' ∧ (hi < hi' ∨ hi = hi' ∧ lo < lo')
def keyA (v : Bool) (hi lo : Int) : Int := (if v = true then 340282366920938463463374607431768211456 else 0) + hi * 18446744073709551616 + lo
end Go.Proofs.YtboddbheljenhaaGreatDoor
namespace Go.Proofs.YtboddbheljenhaaGreatDoor
open Go.RowKit
end Go.Proofs.YtboddbheljenhaaGreatDoor
namespace Go.Proofs.YtboddbheljenhaaGreatDoor
open Go.RowKit
section
variable {P : Program} {st : St}
def resEval (tmps : Array Value) : ResultVar → Sem Value
  | .tmp t => pure (tmps.getD t undef)
  | .cell a t => do loadVar t (← asAddr (tmps.getD a undef))
def RV (P : Program) (st : St) (rv : ResultVar) (x : AVal) : Prop :=
  ∀ (ψ : Ghost) (prot : Nat → Prop) (w : World) (tmps : Array Value), RH ψ prot st.obj w → (∀ t, VRel ψ prot w (st.get t) (tmps.getD t undef)) → ∃ cv, (resEval tmps rv).run P w = .ok cv w ∧ VRel ψ prot w x cv
theorem rv_tmp {a : Nat} {x : AVal} (ha : st.get a = x) : RV P st (.tmp a) x := fun ψ prot w tmps _ h => ⟨tmps.getD a undef, rfl, ha ▸ h a⟩
theorem rv_cell {a : Nat} {t : TypeId} {n kk : Nat} {bt : TypeId} {cs : List AVal} (ha : st.get a = .ptr n kk 0) (hn : st.obj n = some (kk, .box bt cs)) (ht : aggType P t = true) (hs : sizeIs P t cs.length) : RV P st (.cell a t) (.agg cs) := fun ψ prot w tmps r h => by
  have h1 := h a
  rw [ha] at h1
  obtain ⟨b, cap, hv, h2⟩ := h1.ptr_inv
  obtain ⟨loc, h3, h4⟩ := r.live n kk _ hn
  rw [h2] at h3; injection h3 with h3; subst h3
  obtain ⟨b', vs, h0, hh, h5⟩ := h4
  injection h0 with h0; subst h0
  have hsz : (P.info? t).map (·.size) = some vs.toArray.size := by have := hs; unfold sizeIs at this; rw [this]; simp [h5.1]
  refine ⟨.agg vs.toArray, ?_, VRels.agg (by simpa using h5)⟩
  have q : (loadVar t ⟨b, 0, none⟩).run P w = .ok (.agg vs.toArray) w := by
    rcases aggType_spec ht with ⟨fs, hu⟩ | ⟨m, e, hu⟩
    · exact run_loadVar_row w b bt t vs.toArray (0, 0) _ hh hu rfl hsz
    · exact run_loadVar_row w b bt t vs.toArray (0, 0) _ hh hu rfl hsz
  simp only [resEval, hv, asAddr, Sem.run_bind, Sem.run_pure, Result.andThen_ok, q]
theorem res3 {fn : Func} {r1 r2 r3 : ResultVar} {x y z : AVal} (hr : fn.results = #[r1, r2, r3]) (h1 : RV P st r1 x) (h2 : RV P st r2 y) (h3 : RV P st r3 z) : ResOk P fn st (.tuple [x, y, z]) := fun ψ prot w tmps r h => by
  obtain ⟨c1, e1, g1⟩ := h1 ψ prot w tmps r h
  obtain ⟨c2, e2, g2⟩ := h2 ψ prot w tmps r h
  obtain ⟨c3, e3, g3⟩ := h3 ψ prot w tmps r h
  have e : results fn tmps = (do let vs ← #[r1, r2, r3].mapM (resEval tmps); pure (if h : vs.size = 1 then vs[0] else .tuple vs)) := by
    unfold results
    rw [hr]
    rfl
  refine ⟨.tuple #[c1, c2, c3], ?_, .tuple _ _ rfl fun i x v h1 h2 => ?_⟩
  · rw [e]
    simp [Sem.run_bind, e1, e2, e3, go_sem]
  · match i with
    | 0 => simp at h1 h2; subst h1; subst h2; exact g1
    | 1 => simp at h1 h2; subst h1; subst h2; exact g2
    | 2 => simp at h1 h2; subst h1; subst h2; exact g3
    | i + 3 => simp at h1
end
end Go.Proofs.YtboddbheljenhaaGreatDoor
namespace Go.Proofs.YtboddbheljenhaaGreatDoor
open Go.RowKit
end Go.Proofs.YtboddbheljenhaaGreatDoor
namespace Go.Proofs.YtboddbheljenhaaGreatDoor
open Go.RowKit
attribute [local irreducible] eqP
theorem opok_eqPh {k : Nat} {st : St} {o : Oper} {yt : TypeId} {x y : Operand} {v1 v2 : Bool} {h1 l1 h2 l2 n1 n2 : Int} {b : Bool} (ho : o.op = .binOp .eql 26 x y yt) (hx : st.aop x = .agg [.val (.bool v1), .val (.int .u64 h1), .val (.int .u64 l1), .val (.int .i64 n1)]) (hy : st.aop y = .agg [.val (.bool v2), .val (.int .u64 h2), .val (.int .u64 l2), .val (.int .i64 n2)]) (he : eqP v1 h1 l1 n1 v2 h2 l2 n2 = b) :
    OpOk Tryz.prog k st o ⟨.val (.bool b), [], [], []⟩ := he ▸ opok_eqPd ho hx hy
end Go.Proofs.YtboddbheljenhaaGreatDoor
