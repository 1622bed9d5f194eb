/-
  Layer 2: what prefix.Parse reads. No walk.
-/
import Derived.Test.YtboddbheljenhaaGreatDoorG14
import Derived.Test.YtboddbheljenhaaGreatDoorG15
import Derived.Test.YtboddbheljenhaaGreatDoorPf1
import Derived.Test.YtboddbheljenhaaGreatDoorAbsB
import Derived.Test.YtboddbheljenhaaGreatDoorG07
namespace Go.Proofs.YtboddbheljenhaaGreatDoor
open Go.RowKit
def canD (l : List UInt8) : Bool := match l with
  | [] => false
  | x :: r => (r.isEmpty || x != 48) && (x :: r).all isDig
theorem canD_dig {l : List UInt8} (h : canD l = true) : ∀ x ∈ l, isDig x = true := by
  match l, h with
  | x :: r, h =>
    unfold canD at h
    simp only [Bool.and_eq_true, List.all_eq_true] at h
    exact h.2
theorem canD_ne {l : List UInt8} (h : canD l = true) : l ≠ [] := by
  rintro rfl
  cases h
theorem canD_47 {l : List UInt8} (h : (47 : UInt8) ∈ l) : canD l = false := by
  cases hc : canD l with
  | false => rfl
  | true =>
    have := canD_dig hc 47 h
    revert this
    decide
theorem parse_over : ∀ (l : List UInt8) (acc : Nat), (∀ x ∈ l, isDig x = true) → acc < 18446744073709551616 → 18446744073709551616 ≤ numOf acc l → Lib.parseUint10 acc l = .range
  | [], acc, _, h1, h2 => by
    have : numOf acc [] = acc := rfl
    omega
  | x :: l, acc, hd, h1, h2 => by
    have hx := hd x List.mem_cons_self
    simp only [isDig, Bool.and_eq_true, decide_eq_true_eq] at hx
    rw [numOf_cons] at h2
    unfold Lib.parseUint10
    rw [if_pos ⟨hx.1, hx.2⟩]
    by_cases c1 : 1844674407370955162 ≤ acc
    · rw [if_pos c1]
    · rw [if_neg c1]
      by_cases c2 : 18446744073709551616 ≤ acc * 10 + (x.toNat - 48)
      · rw [if_pos c2]
      · rw [if_neg c2]
        exact parse_over l _ (fun y hy => hd y (List.mem_cons_of_mem _ hy)) (by omega) h2
theorem atoi_can {l : List UInt8} (h : canD l = true) : Lib.atoiAll l = if 9223372036854775808 ≤ numOf 0 l then .range else .ok (numOf 0 l : Int) := by
  have hd := canD_dig h
  match l, canD_ne h, hd with
  | x :: r, _, hd =>
    have hx := hd x List.mem_cons_self
    simp only [isDig, Bool.and_eq_true, decide_eq_true_eq] at hx
    rw [Lib.atoiAll_plain x r (by omega) (by omega)]
    have hp : Lib.parseMag (x :: r) = Lib.parseUint10 0 (x :: r) := by unfold Lib.parseMag; rw [if_neg (by simp)]
    rw [hp]
    by_cases c : numOf 0 (x :: r) < 18446744073709551616
    · rw [parse_digits _ _ hd c]
      rfl
    · rw [parse_over _ _ hd (by omega) (by omega), if_pos (by omega)]
      rfl
theorem octN_47 {p : List UInt8} {n : Nat} (h : octN p = some n) : (47 : UInt8) ∉ p := fun hm => by
  have e := (octN_some.1 h).2
  rw [← e] at hm
  have := decDigits_dig n 47 hm
  revert this
  decide
theorem octF_47 : ∀ (ps : List (List UInt8)) (n m : Nat), octF ps n = some m → ∀ p ∈ ps, (47 : UInt8) ∉ p
  | [], _, _, _ => by simp
  | q :: r, n, m, h => by
    unfold octF at h
    cases e : octN q with
    | none => rw [e] at h; cases h
    | some x =>
      rw [e, Option.bind_some] at h
      intro p hp
      rcases List.mem_cons.1 hp with rfl | hp
      · exact octN_47 e
      · exact octF_47 r _ m h p hp
theorem p4N_47 {l : List UInt8} {n : Nat} (h : p4N l = some n) : (47 : UInt8) ∉ l := fun hm => by
  unfold p4N at h
  by_cases c : (splitC 46 l).length = 4
  · rw [if_pos c] at h
    rw [← joinC_split 46 l] at hm
    obtain ⟨w, hw, hx⟩ := mem_joinC (by decide) hm
    exact octF_47 _ _ _ h w hw hx
  · rw [if_neg c] at h; cases h
theorem grpN_47 {p : List UInt8} {n : Nat} (h : grpN p = some n) : (47 : UInt8) ∉ p := fun hm => by
  unfold grpN hexP at h
  by_cases c : p.length ≤ 4
  · rw [if_pos c] at h
    by_cases c2 : p = []
    · rw [if_pos c2] at h; cases h
    · rw [if_neg c2] at h
      have := hexN_mem p 0 n h 47 hm
      revert this
      decide
  · rw [if_neg c] at h; cases h
theorem pgF_47 : ∀ (e : Bool) (ps : List (List UInt8)) (xs : List Nat), pgF e ps = some xs → ∀ p ∈ ps, (47 : UInt8) ∉ p
  | _, [], _, _ => by simp
  | e, q :: r, xs, h => by
    unfold pgF at h
    intro p hp
    by_cases c : (e && r.isEmpty && hasB q 46) = true
    · rw [if_pos c] at h
      have hr : r = [] := by
        simp only [Bool.and_eq_true, List.isEmpty_iff] at c
        exact c.1.2
      subst hr
      cases e4 : p4N q with
      | none => rw [e4] at h; cases h
      | some n =>
        rw [List.mem_singleton.1 hp]
        exact p4N_47 e4
    · rw [if_neg c] at h
      cases e4 : grpN q with
      | none => rw [e4] at h; cases h
      | some n =>
        rw [e4, Option.bind_some] at h
        cases e5 : pgF e r with
        | none => rw [e5] at h; cases h
        | some ys =>
          rcases List.mem_cons.1 hp with rfl | hp
          · exact grpN_47 e4
          · exact pgF_47 e r ys e5 p hp
theorem pgN_47 {e : Bool} {l : List UInt8} {xs : List Nat} (h : pgN e l = some xs) : (47 : UInt8) ∉ l := fun hm => by
  unfold pgN at h
  by_cases c : l = []
  · subst c; cases hm
  · rw [if_neg c] at h
    rw [← joinC_split 58 l] at hm
    obtain ⟨w, hw, hx⟩ := mem_joinC (by decide) hm
    exact pgF_47 _ _ _ h w hw hx
theorem cut_mem {l : List UInt8} {x : UInt8} (hx : x ≠ 58) (hm : x ∈ l) (hc : (Lib.cut l [58, 58]).2.2 = true) : x ∈ (Lib.cut l [58, 58]).1 ∨ x ∈ (Lib.cut l [58, 58]).2.1 := by
  unfold Lib.cut at hc ⊢
  by_cases h : 0 ≤ Lib.index l [58, 58]
  · rw [if_pos h] at hc ⊢
    dsimp only
    rcases Lib.index_spec l [58, 58] with ⟨e, -⟩ | ⟨i, e, hi, ho, -⟩
    · omega
    · rw [e, Int.toNat_natCast]
      have h0 := Lib.occAt_head rfl ho
      have h1 := Lib.occAt_second rfl ho
      have hl : i + 1 < l.length := by
        rcases Nat.lt_or_ge (i + 1) l.length with h | h
        · exact h
        · rw [List.getElem?_eq_none h] at h1; cases h1
      have e2 : l = l.take i ++ 58 :: 58 :: l.drop (i + 2) := by
        conv => lhs; rw [← List.take_append_drop i l]
        rw [List.drop_eq_getElem_cons (by omega), List.drop_eq_getElem_cons (by omega)]
        rw [List.getElem?_eq_getElem (by omega)] at h0 h1
        rw [Option.some.inj h0, Option.some.inj h1]
      rw [e2] at hm
      rcases List.mem_append.1 hm with hm | hm
      · exact .inl hm
      · rcases List.mem_cons.1 hm with hm | hm
        · exact absurd hm hx
        · rcases List.mem_cons.1 hm with hm | hm
          · exact absurd hm hx
          · exact .inr hm
  · rw [if_neg h] at hc; cases hc
theorem p6N_47 {l : List UInt8} {xs : List Nat} (h : p6N l = some xs) : (47 : UInt8) ∉ l := fun hm => by
  unfold p6N at h
  by_cases c : (Lib.cut l [58, 58]).2.2 = true
  · rw [if_pos c] at h
    cases ea : pgN false (Lib.cut l [58, 58]).1 with
    | none => rw [ea] at h; cases h
    | some a =>
      rw [ea, Option.bind_some] at h
      cases eb : pgN true (Lib.cut l [58, 58]).2.1 with
      | none => rw [eb] at h; cases h
      | some b =>
        rcases cut_mem (by decide) hm c with hm | hm
        · exact pgN_47 ea hm
        · exact pgN_47 eb hm
  · rw [if_neg c] at h
    cases ea : pgN true l with
    | none => rw [ea] at h; cases h
    | some a => exact pgN_47 ea hm
theorem prsA_47 {l : List UInt8} (hm : (47 : UInt8) ∈ l) : prsA l = none := by
  unfold prsA
  by_cases c : 45 < l.length
  · rw [if_pos c]
  · rw [if_neg c]
    by_cases c2 : hasB l 58 = true
    · rw [if_pos c2]
      cases e : p6N l with
      | none => rfl
      | some xs => exact absurd hm (p6N_47 e)
    · rw [if_neg c2]
      cases e : p4N l with
      | none => rfl
      | some n => exact absurd hm (p4N_47 e)
def errP (e : Int) : AVal := .tuple [.agg [.val (.bool false), .val (.int .u64 0), .val (.int .u64 0), .val (.int .i64 0)], .val (.int .i64 e)]
def pfV (h t : List UInt8) : AVal := match prsA h with
  | none => errP 2
  | some (v, hi, lo) => if canD t = true then (if numOf 0 t ≤ wiN v then (if fstH v hi (numOf 0 t : Nat) = hi ∧ fstL v lo (numOf 0 t : Nat) = lo then .tuple [.agg [.val (.bool v), .val (.int .u64 hi), .val (.int .u64 lo), .val (.int .i64 (numOf 0 t : Nat))], .val (.int .i64 0)] else errP 5) else errP 9) else errP 2
def pfA (l : List UInt8) : AVal := pfV (Lib.cut l [47]).1 (Lib.cut l [47]).2.1
theorem cut_none {l : List UInt8} {c : UInt8} (h : c ∉ l) : Lib.cut l [c] = (l, [], false) := by
  unfold Lib.cut
  rcases Lib.index_spec l [c] with ⟨e, -⟩ | ⟨i, e, hi, ho, -⟩
  · rw [e, if_neg (by decide)]
  · exact absurd (List.mem_of_getElem? (Lib.occAt_head rfl ho)) h
theorem cut_1 {a b : List UInt8} {c : UInt8} (h : c ∉ a) : Lib.cut (a ++ c :: b) [c] = (a, b, true) := by
  have hi : Lib.index (a ++ c :: b) [c] = (a.length : Int) := by
    refine Lib.index_first (by simp) ?_ fun j hj => ?_
    · unfold Lib.occAt
      rw [List.drop_left]
      simp [List.isPrefixOf]
    · cases ho : Lib.occAt (a ++ c :: b) [c] j with
      | false => rfl
      | true =>
        exfalso
        unfold Lib.occAt at ho
        rw [List.drop_append_of_le_length (Nat.le_of_lt hj), List.drop_eq_getElem_cons hj] at ho
        simp only [List.cons_append, List.isPrefixOf, Bool.and_eq_true, beq_iff_eq] at ho
        exact h (ho.1 ▸ List.getElem_mem hj)
  unfold Lib.cut
  rw [hi, if_pos (by omega), Int.toNat_natCast]
  simp
theorem pfV_bad {h t : List UInt8} (hc : canD t = false) : pfV h t = errP 2 := by
  unfold pfV
  rw [hc]
  cases prsA h with
  | none => rfl
  | some a => rfl
theorem pfV_none {h t : List UInt8} (hc : prsA h = none) : pfV h t = errP 2 := by
  unfold pfV
  rw [hc]
theorem pfA_no {l : List UInt8} (h : (47 : UInt8) ∉ l) : pfA l = errP 2 := by
  unfold pfA
  rw [cut_none h]
  exact pfV_bad rfl
theorem pfA_last (H T : List UInt8) : pfA (H ++ 47 :: T) = pfV H T := by
  unfold pfA
  by_cases h : (47 : UInt8) ∈ H
  · rw [pfV_none (prsA_47 h)]
    obtain ⟨a, b, rfl, hn⟩ : ∃ a b, H = a ++ 47 :: b ∧ (47 : UInt8) ∉ a := List.eq_append_cons_of_mem h
    rw [List.append_assoc, List.cons_append, cut_1 hn]
    exact pfV_bad (canD_47 (by simp))
  · rw [cut_1 h]
end Go.Proofs.YtboddbheljenhaaGreatDoor
namespace Go.Proofs.YtboddbheljenhaaGreatDoor
open Go.RowKit
section
variable {k : Nat} {st : St} {o : Oper}
theorem opok_eqQh {yt : TypeId} {x y : Operand} {v1 v2 : Bool} {h1 l1 h2 l2 : Int} {b : Bool} (ho : o.op = .binOp .eql 24 x y yt) (hx : st.aop x = .agg [.val (.bool v1), .val (.int .u64 h1), .val (.int .u64 l1)]) (hy : st.aop y = .agg [.val (.bool v2), .val (.int .u64 h2), .val (.int .u64 l2)]) (he : eqQ v1 h1 l1 v2 h2 l2 = b) :
    OpOk Tryz.prog k st o ⟨.val (.bool b), [], [], []⟩ := he ▸ opok_eqQd ho hx hy
theorem opok_neQh {yt : TypeId} {x y : Operand} {v1 v2 : Bool} {h1 l1 h2 l2 : Int} {b : Bool} (ho : o.op = .binOp .neq 24 x y yt) (hx : st.aop x = .agg [.val (.bool v1), .val (.int .u64 h1), .val (.int .u64 l1)]) (hy : st.aop y = .agg [.val (.bool v2), .val (.int .u64 h2), .val (.int .u64 l2)]) (he : (!eqQ v1 h1 l1 v2 h2 l2) = b) :
    OpOk Tryz.prog k st o ⟨.val (.bool b), [], [], []⟩ := he ▸ opok_neQd ho hx hy
theorem opok_nePh {yt : TypeId} {x y : Operand} {v1 v2 : Bool} {h1 l1 h2 l2 n1 n2 : Int} {b : Bool} (ho : o.op = .binOp .neq 26 x y yt) (hx : st.aop x = .agg [.val (.bool v1), .val (.int .u64 h1), .val (.int .u64 l1), .val (.int .i64 n1)]) (hy : st.aop y = .agg [.val (.bool v2), .val (.int .u64 h2), .val (.int .u64 l2), .val (.int .i64 n2)]) (he : (!eqP v1 h1 l1 n1 v2 h2 l2 n2) = b) :
    OpOk Tryz.prog k st o ⟨.val (.bool b), [], [], []⟩ := he ▸ opok_nePd ho hx hy
theorem opok_eqPh {yt : TypeId} {x y : Operand} {v1 v2 : Bool} {h1 l1 h2 l2 n1 n2 : Int} {b : Bool} (ho : o.op = .binOp .eql 26 x y yt) (hx : st.aop x = .agg [.val (.bool v1), .val (.int .u64 h1), .val (.int .u64 l1), .val (.int .i64 n1)]) (hy : st.aop y = .agg [.val (.bool v2), .val (.int .u64 h2), .val (.int .u64 l2), .val (.int .i64 n2)]) (he : eqP v1 h1 l1 n1 v2 h2 l2 n2 = b) :
    OpOk Tryz.prog k st o ⟨.val (.bool b), [], [], []⟩ := he ▸ opok_eqPd ho hx hy
end
theorem eqP_self (v : Bool) (hi lo n : Int) : eqP v hi lo n v hi lo n = true := by with_unfolding_all simp [eqP, eqQ]
theorem eqQ_self (v : Bool) (hi lo : Int) : eqQ v hi lo v hi lo = true := by with_unfolding_all simp [eqQ]
theorem neP_self (v : Bool) (hi lo n : Int) : (!eqP v hi lo n v hi lo n) = false := by rw [eqP_self]; rfl
theorem neQ_self (v : Bool) (hi lo : Int) : (!eqQ v hi lo v hi lo) = false := by rw [eqQ_self]; rfl
end Go.Proofs.YtboddbheljenhaaGreatDoor
namespace Go.Proofs.YtboddbheljenhaaGreatDoor
open Go.RowKit
section
variable {P : Program} {k : Nat} {st : St} {o : Oper}
theorem opok_min3 {x y z : Operand} {t t' t2 : TypeId} {a b c : Int} (ho : o.op = .call { callee := .builtin .min, args := #[x, y, z], argTypes := #[t, t', t2] }) (hx : st.aop x = .val (.int .i64 a)) (hy : st.aop y = .val (.int .i64 b)) (hz : st.aop z = .val (.int .i64 c)) : OpOk P k st o ⟨.val (.int .i64 (min (min a b) c)), [], [], []⟩ :=
  opok_quiet fun ψ prot obj w ρ _ hr _ => by
    have h1 := (hx ▸ hr x (by simp [ho, Op.operands, Call.operands]) : VRel ψ prot w (.val (.int .i64 a)) (ρ x)).val_eq
    have h2 := (hy ▸ hr y (by simp [ho, Op.operands, Call.operands]) : VRel ψ prot w (.val (.int .i64 b)) (ρ y)).val_eq
    have h3 := (hz ▸ hr z (by simp [ho, Op.operands, Call.operands]) : VRel ψ prot w (.val (.int .i64 c)) (ρ z)).val_eq
    refine ⟨_, ?_, .val _⟩
    by_cases h : b < a
    · have e : min a b = b := by omega
      rw [e]
      by_cases h' : c < b
      · have e' : min b c = c := by omega
        rw [e']
        simp [execOp, ho, resolve, invoke, builtin, h1, h2, h3, Builtin.min_, Builtin.min2, go_sem, h, h']
      · have e' : min b c = b := by omega
        rw [e']
        simp [execOp, ho, resolve, invoke, builtin, h1, h2, h3, Builtin.min_, Builtin.min2, go_sem, h, h']
    · have e : min a b = a := by omega
      rw [e]
      by_cases h' : c < a
      · have e' : min a c = c := by omega
        rw [e']
        simp [execOp, ho, resolve, invoke, builtin, h1, h2, h3, Builtin.min_, Builtin.min2, go_sem, h, h']
      · have e' : min a c = a := by omega
        rw [e']
        simp [execOp, ho, resolve, invoke, builtin, h1, h2, h3, Builtin.min_, Builtin.min2, go_sem, h, h']
end
end Go.Proofs.YtboddbheljenhaaGreatDoor
namespace Go.Proofs.YtboddbheljenhaaGreatDoor
open Go.RowKit
theorem bints_get {l : List UInt8} {i : Nat} {x : UInt8} (h : l[i]? = some x) : (ints .u8 (bints l))[i]? = some (.val (.int .u8 (x.toNat : Int))) := by
  rw [ints_get]
  unfold bints
  rw [List.getElem?_map, h]
  rfl
theorem bints_len (l : List UInt8) : (bints l).length = l.length := by unfold bints; rw [List.length_map]
theorem dig_no_all {l : List UInt8} {i : Nat} {x : UInt8} (h : l[i]? = some x) (hd : isDig x = false) : l.all isDig = false := by
  cases e : l.all isDig with
  | false => rfl
  | true => rw [List.all_eq_true.1 e x (List.mem_of_getElem? h)] at hd; cases hd
theorem dig_step {l : List UInt8} {i : Nat} {x : UInt8} (h : l[i]? = some x) (hd : isDig x = true) (ha : (l.take i).all isDig = true) : (l.take (i + 1)).all isDig = true := by
  rw [take_snoc h, List.all_append, ha]
  simp [hd]
set_option maxHeartbeats 16000000 in
set_option maxRecDepth 100000 in
theorem decimal_spec (l : List UInt8) (hl : l.length ≤ 100000) : Spec Tryz.prog 59 [.val (bstr l)] [] (.val (.bool (canD l))) [] := by
  by_cases c : l = []
  · subst c
    have d : (([] : List UInt8) == []) = true := rfl
    have e : canD [] = false := rfl
    rw [e]
    refine spec_of_awp Tryz.func59 rfl (Nat.le_of_ble_eq_true rfl) fun ini => ?_
    simp only [Tryz.ntmps59]
    (repeat (first | refine awp_reg_seq rfl fun k => ?_ | refine awp_seq ?_ | refine awp_true rfl ?_ | (refine awp_ret ?_; (apply ends_pure ?_ ?_ ?_ ?_ ?_ (.inl rfl); rotate_left 1; (· (exact res_one rfl rfl)); (· rfl); (· rfl); (· rfl); (· rfl))) | (((((apply runk0 rfl rfl (opok_seql rfl ?_ ?_) ?_; rotate_left 2; (· ((conv => (lhs; whnf)); try exact rfl)); (· ((conv => (lhs; whnf)); try exact rfl))))))) | (first | refine runk_off rfl rfl rfl rfl rfl ?_ | refine runk_offU rfl rfl rfl rfl ?_) | (apply runk0 rfl rfl (opok_move rfl ?_) ?_; rotate_left 1; (· (conv => (lhs; whnf)))) | (apply runk0 rfl rfl (opok_assign rfl ?_) ?_; rotate_left 1; (· (conv => (lhs; whnf)))) | (apply runk0 rfl rfl (opok_pick rfl ?_ ?_) ?_; rotate_left 2; (· (conv => (lhs; whnf))); (· ((conv => (lhs; whnf))))) | refine runk_end (by kernel_rfl) ?_))
  · obtain ⟨y, r, hyr⟩ : ∃ y r, l = y :: r := by
      cases l with
      | nil => exact absurd rfl c
      | cons y r => exact ⟨y, r, rfl⟩
    have eC : canD l = ((r.isEmpty || y != 48) && l.all isDig) := by rw [hyr]; rfl
    have d0 : (l == []) = false := by rw [hyr]; rfl
    have hy0 : l[0]? = some y := by rw [hyr]; rfl
    have hb0 : byteAt l 0 = (y.toNat : Int) := byteAt_get hy0
    have hlr : l.length = r.length + 1 := by rw [hyr]; rfl
    clear hyr c
    have y256 : y.toNat < 256 := y.toNat_lt
    have hpos : 0 < l.length := by omega
    obtain ⟨b1, b2, hb1, hb2, hbb⟩ : ∃ b1 b2 : Bool, decide ((l.length : Int) > 1) = b1 ∧ ((y.toNat : Int) == 48) = b2 ∧ (r.isEmpty || y != 48) = (!(b1 && b2)) := by
      refine ⟨_, _, rfl, rfl, ?_⟩
      have e1 : decide ((l.length : Int) > 1) = !r.isEmpty := by
        cases r with
        | nil => rw [hlr]; rfl
        | cons a b => simp only [List.isEmpty_cons, Bool.not_false, decide_eq_true_eq]; rw [hlr]; simp; omega
      have e2 : ((y.toNat : Int) == 48) = (y == 48) := by
        rw [Bool.eq_iff_iff, beq_iff_eq, beq_iff_eq]
        constructor
        · intro h; exact UInt8.toNat_inj.1 (by have : (48 : UInt8).toNat = 48 := rfl; omega)
        · rintro rfl; rfl
      rw [e1, e2]
      cases r.isEmpty <;> cases h : (y == 48) <;> simp [bne, h]
    have hb1' : decide (1 < (l.length : Int)) = b1 := hb1
    have hb1'' : decide (1 < l.length) = b1 := by rw [← hb1, decide_eq_decide]; omega
    rw [hbb] at eC
    clear hbb hy0 hlr
    generalize (y.toNat : Int) = Y at *
    cases b1 <;> cases b2
    case true.true =>
      rw [show (!(true && true)) = false from rfl, Bool.false_and] at eC
      rw [eC]
      refine spec_of_awp Tryz.func59 rfl (Nat.le_of_ble_eq_true rfl) fun ini => ?_
      simp only [Tryz.ntmps59]
      (repeat (first | refine awp_reg_seq rfl fun k => ?_ | refine awp_seq ?_ | (((first | (apply runk0 rfl rfl (opok_seql rfl ?_ ?_) ?_; rotate_left 2; (· ((conv => (lhs; whnf)); try exact rfl)); (· ((conv => (lhs; whnf)); try exact rfl))) | (apply runk0 rfl rfl (opok_slen rfl ?_ rfl) ?_; rotate_left 1; (· ((conv => (lhs; whnf)); try exact rfl))) | (apply runk0 rfl rfl (opok_sindex rfl ?_ ?_ rfl ?_ ?_) ?_; rotate_left 3; (· ((conv => (lhs; whnf)); try exact rfl)); (· (conv => (lhs; whnf))); (· omega); (· omega))))) | (first | refine runk_ung rfl rfl rfl rfl ?_ | refine runk_ung rfl rfl rfl (by assumption) ?_) | (apply runk0 rfl rfl (opok_move rfl ?_) ?_; rotate_left 1; (· (conv => (lhs; whnf)))) | (apply runk0 rfl rfl (opok_assign rfl ?_) ?_; rotate_left 1; (· (conv => (lhs; whnf)))) | (apply runk0 rfl rfl (opok_bin rfl ?_ ?_ ?_) ?_; rotate_left 3; (· (conv => (lhs; whnf))); (· (conv => (lhs; whnf))); (· (intro w; go_simp; rfl))) | (apply runk0 rfl rfl (opok_pick rfl ?_ ?_) ?_; rotate_left 2; (· (conv => (lhs; whnf))); (· first | exact pick_and | (conv => (lhs; whnf)))) | refine runk_end (by kernel_rfl) ?_))
      rw [d0]
      (repeat (first | refine awp_reg_seq rfl fun k => ?_ | refine awp_true rfl ?_ | (refine awp_ret ?_; (apply ends_pure ?_ ?_ ?_ ?_ ?_ (.inl rfl); rotate_left 1; (· (exact res_one rfl rfl)); (· rfl); (· rfl); (· rfl); (· rfl))) | (apply runk0 rfl rfl (opok_assign rfl ?_) ?_; rotate_left 1; (· (conv => (lhs; whnf)))) | refine runk_end (by kernel_rfl) ?_))
    all_goals
      rw [show (!(_ && _)) = true from rfl, Bool.true_and] at eC
      refine spec_of_awp Tryz.func59 rfl (Nat.le_of_ble_eq_true rfl) fun ini => ?_
      simp only [Tryz.ntmps59]
      have hB := bints_len l
      have hG := fun (i : Nat) (x : UInt8) (h : l[i]? = some x) => bints_get h
      (repeat (first | refine awp_reg_seq rfl fun k => ?_ | refine awp_seq ?_ | (((first | (apply runk0 rfl rfl (opok_seql rfl ?_ ?_) ?_; rotate_left 2; (· ((conv => (lhs; whnf)); try exact rfl)); (· ((conv => (lhs; whnf)); try exact rfl))) | (apply runk0 rfl rfl (opok_slen rfl ?_ rfl) ?_; rotate_left 1; (· ((conv => (lhs; whnf)); try exact rfl))) | (apply runk0 rfl rfl (opok_sindex rfl ?_ ?_ rfl ?_ ?_) ?_; rotate_left 3; (· ((conv => (lhs; whnf)); try exact rfl)); (· (conv => (lhs; whnf))); (· omega); (· omega))))) | (first | refine runk_ung rfl rfl rfl rfl ?_ | refine runk_ung rfl rfl rfl (by assumption) ?_) | ((refine runk_off rfl rfl rfl rfl rfl ?_)) | (apply runk0 rfl rfl (opok_move rfl ?_) ?_; rotate_left 1; (· (conv => (lhs; whnf)))) | (apply runk0 rfl rfl (opok_assign rfl ?_) ?_; rotate_left 1; (· (conv => (lhs; whnf)))) | (apply runk0 rfl rfl (opok_bin rfl ?_ ?_ ?_) ?_; rotate_left 3; (· (conv => (lhs; whnf))); (· (conv => (lhs; whnf))); (· (intro w; go_simp; rfl))) | (apply runk0 rfl rfl (opok_pick rfl ?_ ?_) ?_; rotate_left 2; (· (conv => (lhs; whnf))); (· first | exact pick_and | (conv => (lhs; whnf)))) | refine runk_end (by kernel_rfl) ?_))
      rw [d0]
      (repeat (first | refine awp_reg_seq rfl fun k => ?_ | refine awp_seq ?_ | refine awp_false rfl ?_ | refine awp_skip (?_ : Awp _ _ _ _ _ _) | refine awp_block ?_ | (((apply runk0 rfl rfl (opok_convL rfl ?_ rfl rfl rfl) ?_; rotate_left 1; (· ((conv => (lhs; whnf)); try exact rfl))))) | (apply runk0 rfl rfl (opok_move rfl ?_) ?_; rotate_left 1; (· (conv => (lhs; whnf)))) | (((apply runk0 rfl rfl (opok_len rfl ?_ ?_ ?_) ?_; rotate_left 3; (· (conv => (lhs; whnf))); (· (conv => (lhs; whnf; arg 1; whnf))); (· (exact length_ints _ _))))) | refine runk_end (by kernel_rfl) ?_))
      generalize bints l = B at *
      refine awp_loop (fun m st => ∃ i : Nat, i + m = l.length ∧ (l.take i).all isDig = true ∧ st.leB ⟨[(18, .ro (ints .u8 B)), (19, .val (.int .i64 (l.length : Int))), (20, .val (.int .i64 (i : Int)))], []⟩) l.length ⟨0, by omega, rfl, by (refine leB_of ?_ ?_; (· (repeat (first | exact EnvIs.nil | (refine EnvIs.cons ?_ ?_; (· first | rfl | ((conv => (lhs; whnf)); ((simp [hB]; done)))))))); (· (repeat ((exact ObjsAre.nil)))))⟩ ?_
      rintro m st ⟨i, him, hall, hle⟩
      refine awp_less hle ?_
      clear hle st
      have wi : IntKind.i64.wrap ((i : Int) + 1) = ((i + 1 : Nat) : Int) := by rw [IntKind.wrap_i64]; omega
      obtain ⟨j, hj⟩ : ∃ j, i + 1 = j := ⟨_, rfl⟩
      rw [hj] at wi
      (repeat (first | refine awp_reg_seq rfl fun k => ?_ | refine awp_seq ?_ | (apply runk0 rfl rfl (opok_bin rfl ?_ ?_ ?_) ?_; rotate_left 3; (· (conv => (lhs; whnf))); (· (conv => (lhs; whnf))); (· (intro w; go_simp; first | done | rfl))) | refine runk_end (by kernel_rfl) ?_))
      refine awp_if rfl (fun hc => ?_) (fun hc => ?_)
      · have hil : i < l.length := by simp at hc; omega
        clear hc
        obtain ⟨x, hx⟩ : ∃ x, l[i]? = some x := ⟨_, List.getElem?_eq_getElem hil⟩
        have hX := hG i x hx
        clear hG
        have x256 : x.toNat < 256 := x.toNat_lt
        by_cases a1 : x.toNat < 48
        · have hd : isDig x = false := by unfold isDig; simp; omega
          have d1 : decide ((x.toNat : Int) < 48) = true := decide_eq_true (by omega)
          have d1' : decide (x.toNat < 48) = true := decide_eq_true a1
          rw [dig_no_all hx hd] at eC
          try rw [Bool.and_false] at eC
          rw [eC]
          generalize (x.toNat : Int) = X at *
          (repeat (first | refine awp_reg_seq rfl fun k => ?_ | refine awp_seq ?_ | refine awp_true rfl ?_ | refine awp_skip (?_ : Awp _ _ _ _ _ _) | refine awp_block ?_ | (refine awp_ret ?_; (apply ends_pure ?_ ?_ ?_ ?_ ?_ (.inl rfl); rotate_left 1; (· (exact res_one rfl rfl)); (· rfl); (· rfl); (· rfl); (· rfl))) | ((refine runk_off rfl rfl rfl rfl rfl ?_)) | (apply runk0 rfl rfl (opok_move rfl ?_) ?_; rotate_left 1; (· (conv => (lhs; whnf)))) | (apply runk0 rfl rfl (opok_assign rfl ?_) ?_; rotate_left 1; (· (conv => (lhs; whnf)))) | (((apply runk0 rfl rfl (opok_loadR rfl ?_ ?_ ?_) ?_; rotate_left 2; (· (conv => (lhs; whnf))); (· rfl); (· (conv => (lhs; whnf; arg 1; whnf)))))) | (apply runk0 rfl rfl (opok_bin rfl ?_ ?_ ?_) ?_; rotate_left 3; (· (conv => (lhs; whnf))); (· (conv => (lhs; whnf))); (· (intro w; go_simp; rfl))) | (apply runk0 rfl rfl (opok_pick rfl ?_ ?_) ?_; rotate_left 2; (· (conv => (lhs; whnf))); (· ((conv => (lhs; whnf))))) | refine runk_end (by kernel_rfl) ?_ | (apply runk0 rfl rfl (opok_index_ro rfl ?_ ?_ ?_ ?_ ?_ ?_ ?_) ?_; rotate_left 6; (· (conv => (lhs; whnf))); (· (conv => (lhs; whnf))); (· (conv => (lhs; whnf; arg 1; whnf))); (· (unfold sizeIs; conv => (lhs; whnf; arg 1; whnf))); (· (exact widths_ints _ _)); (· omega); (· assumption))))
        · by_cases a2 : 57 < x.toNat
          · have hd : isDig x = false := by unfold isDig; simp; omega
            have d1 : decide ((x.toNat : Int) < 48) = false := decide_eq_false (by omega)
            have d2 : decide (57 < (x.toNat : Int)) = true := decide_eq_true (by omega)
            have d3 : decide ((x.toNat : Int) > 57) = true := decide_eq_true (by omega)
            rw [dig_no_all hx hd] at eC
            try rw [Bool.and_false] at eC
            rw [eC]
            generalize (x.toNat : Int) = X at *
            (repeat (first | refine awp_reg_seq rfl fun k => ?_ | refine awp_seq ?_ | refine awp_true rfl ?_ | refine awp_skip (?_ : Awp _ _ _ _ _ _) | refine awp_block ?_ | (refine awp_ret ?_; (apply ends_pure ?_ ?_ ?_ ?_ ?_ (.inl rfl); rotate_left 1; (· (exact res_one rfl rfl)); (· rfl); (· rfl); (· rfl); (· rfl))) | ((refine runk_ung rfl rfl rfl rfl ?_)) | (apply runk0 rfl rfl (opok_move rfl ?_) ?_; rotate_left 1; (· (conv => (lhs; whnf)))) | (apply runk0 rfl rfl (opok_assign rfl ?_) ?_; rotate_left 1; (· (conv => (lhs; whnf)))) | (((apply runk0 rfl rfl (opok_loadR rfl ?_ ?_ ?_) ?_; rotate_left 2; (· (conv => (lhs; whnf))); (· rfl); (· (conv => (lhs; whnf; arg 1; whnf)))))) | (apply runk0 rfl rfl (opok_bin rfl ?_ ?_ ?_) ?_; rotate_left 3; (· (conv => (lhs; whnf))); (· (conv => (lhs; whnf))); (· (intro w; go_simp; rfl))) | (apply runk0 rfl rfl (opok_pick rfl ?_ ?_) ?_; rotate_left 2; (· (conv => (lhs; whnf))); (· (exact pick_or))) | refine runk_end (by kernel_rfl) ?_ | (apply runk0 rfl rfl (opok_index_ro rfl ?_ ?_ ?_ ?_ ?_ ?_ ?_) ?_; rotate_left 6; (· (conv => (lhs; whnf))); (· (conv => (lhs; whnf))); (· (conv => (lhs; whnf; arg 1; whnf))); (· (unfold sizeIs; conv => (lhs; whnf; arg 1; whnf))); (· (exact widths_ints _ _)); (· omega); (· assumption))))
          · have hd : isDig x = true := by unfold isDig; simp; omega
            have hstep := dig_step hx hd hall
            rw [hj] at hstep
            have d1 : decide ((x.toNat : Int) < 48) = false := decide_eq_false (by omega)
            have d2 : decide (57 < (x.toNat : Int)) = false := decide_eq_false (by omega)
            have d3 : decide ((x.toNat : Int) > 57) = false := decide_eq_false (by omega)
            generalize (x.toNat : Int) = X at *
            (repeat (first | refine awp_reg_seq rfl fun k => ?_ | refine awp_reg rfl fun k => ?_ | refine awp_seq ?_ | refine awp_false rfl ?_ | refine awp_skip (?_ : Awp _ _ _ _ _ _) | refine awp_block ?_ | ((refine runk_ung rfl rfl rfl rfl ?_)) | (apply runk0 rfl rfl (opok_move rfl ?_) ?_; rotate_left 1; (· (conv => (lhs; whnf)))) | (apply runk0 rfl rfl (opok_assign rfl ?_) ?_; rotate_left 1; (· (conv => (lhs; whnf)))) | (((apply runk0 rfl rfl (opok_loadR rfl ?_ ?_ ?_) ?_; rotate_left 2; (· (conv => (lhs; whnf))); (· rfl); (· (conv => (lhs; whnf; arg 1; whnf)))))) | (apply runk0 rfl rfl (opok_bin rfl ?_ ?_ ?_) ?_; rotate_left 3; (· (conv => (lhs; whnf))); (· (conv => (lhs; whnf))); (· (intro w; go_simp; rfl))) | (apply runk0 rfl rfl (opok_pick rfl ?_ ?_) ?_; rotate_left 2; (· (conv => (lhs; whnf))); (· (exact pick_or))) | refine runk_end (by kernel_rfl) ?_ | (apply runk0 rfl rfl (opok_index_ro rfl ?_ ?_ ?_ ?_ ?_ ?_ ?_) ?_; rotate_left 6; (· (conv => (lhs; whnf))); (· (conv => (lhs; whnf))); (· (conv => (lhs; whnf; arg 1; whnf))); (· (unfold sizeIs; conv => (lhs; whnf; arg 1; whnf))); (· (exact widths_ints _ _)); (· omega); (· assumption))))
            exact ⟨l.length - j, by omega, j, by omega, hstep, by (refine leB_of ?_ ?_; (· (repeat (first | exact EnvIs.nil | (refine EnvIs.cons ?_ ?_; (· rfl))))); (· (repeat ((exact ObjsAre.nil)))))⟩
      · have hil : i = l.length := by simp at hc; omega
        subst hil
        rw [List.take_length] at hall
        rw [hall] at eC
        rw [eC]
        clear hc hG
        (repeat (first | refine awp_reg_seq rfl fun k => ?_ | refine awp_exit (?_ : Awp _ _ _ _ _ _) | (refine awp_ret ?_; (apply ends_pure ?_ ?_ ?_ ?_ ?_ (.inl rfl); rotate_left 1; (· (exact res_one rfl rfl)); (· rfl); (· rfl); (· rfl); (· rfl))) | (apply runk0 rfl rfl (opok_assign rfl ?_) ?_; rotate_left 1; (· (conv => (lhs; whnf)))) | refine runk_end (by kernel_rfl) ?_))
end Go.Proofs.YtboddbheljenhaaGreatDoor
