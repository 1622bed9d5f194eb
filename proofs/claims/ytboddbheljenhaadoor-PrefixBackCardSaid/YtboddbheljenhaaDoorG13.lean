/-
  Layer 2: the bits of the first and of the last address of a prefix.
-/
import Derived.Test.YtboddbheljenhaaDoorPf2
import Derived.Test.YtboddbheljenhaaDoorG11
import Derived.Test.YtboddbheljenhaaDoorG12
import Derived.Test.YtboddbheljenhaaDoorG05
import Derived.Test.YtboddbheljenhaaDoorAbsB
namespace Go.Proofs.YtboddbheljenhaaDoor
open Go.RowKit
theorem fstH_idem (v : Bool) (hi n : Int) : fstH v (fstH v hi n) n = fstH v hi n := cutZ_idem _ _
theorem fstL_idem (v : Bool) (lo n : Int) : fstL v (fstL v lo n) n = fstL v lo n := cutZ_idem _ _
theorem lstH_rng {v : Bool} {hi : Int} (n : Int) (h0 : 0 ≤ hi) (h1 : hi < 18446744073709551616) : 0 ≤ lstH v hi n ∧ lstH v hi n < 18446744073709551616 := by
  have := filZ_bd (khN v (clN v n)) 64 h0 h1 (khN_le _ _)
  unfold lstH
  exact ⟨by omega, this.2⟩
theorem lstL_rng {v : Bool} {lo : Int} (n : Int) (h0 : 0 ≤ lo) (h1 : lo < 18446744073709551616) : 0 ≤ lstL v lo n ∧ lstL v lo n < 18446744073709551616 := by
  have := filZ_bd (klN v (clN v n)) 64 h0 h1 (klN_le _ _)
  unfold lstL
  exact ⟨by omega, this.2⟩
theorem cl_of {v : Bool} {N : Nat} (h : N ≤ wiN v) : clN v (N : Int) = N := by have := clN_in v (N : Int) (by omega) (by omega); omega
theorem bit_first {v : Bool} {hi lo : Int} {N i : Nat} (h0 : 0 ≤ hi) (g0 : 0 ≤ lo) (hN : N ≤ wiN v) (hi' : i < wiN v) : bitA v (fstH v hi N) (fstL v lo N) i = if i < N then bitA v hi lo i else 0 := by
  unfold bitA fstH fstL
  rw [cl_of hN, bitZ_cut _ _ _ h0, bitZ_cut _ _ _ g0, bitZ_cut _ _ _ g0]
  cases v with
  | true =>
    have hi2 : i < 128 := hi'
    have hN2 : N ≤ 128 := hN
    simp only [khN, klN, if_true]
    by_cases h : i < 64
    · rw [if_pos h, if_pos h]
      by_cases c : i < N
      · rw [if_neg (by omega), if_pos c]
      · rw [if_pos (by omega), if_neg c]
    · rw [if_neg h, if_neg h]
      by_cases c : i < N
      · rw [if_neg (by omega), if_pos c]
      · rw [if_pos (by omega), if_neg c]
  | false =>
    have hi2 : i < 32 := hi'
    have hN2 : N ≤ 32 := hN
    simp only [khN, klN, Bool.false_eq_true, if_false]
    by_cases c : i < N
    · rw [if_neg (by omega), if_pos c]
    · rw [if_pos (by omega), if_neg c]
theorem bit_last {v : Bool} {hi lo : Int} {N i : Nat} (h0 : 0 ≤ hi) (g0 : 0 ≤ lo) (hN : N ≤ wiN v) (hi' : i < wiN v) (c : ¬ i < N) : bitA v (lstH v hi N) (lstL v lo N) i = 1 := by
  unfold bitA lstH lstL
  rw [cl_of hN, bitZ_fil _ _ _ h0, bitZ_fil _ _ _ g0, bitZ_fil _ _ _ g0]
  cases v with
  | true =>
    have hi2 : i < 128 := hi'
    have hN2 : N ≤ 128 := hN
    simp only [khN, klN, if_true]
    by_cases h : i < 64
    · rw [if_pos h, if_pos (by omega)]
    · rw [if_neg h, if_pos (by omega)]
  | false =>
    have hi2 : i < 32 := hi'
    have hN2 : N ≤ 32 := hN
    simp only [khN, klN, Bool.false_eq_true, if_false]
    rw [if_pos (by omega)]
theorem okA_of {v : Bool} {hi lo : Int} (h : AOk v hi lo) : okA' v hi lo = true := by
  obtain ⟨h0, h1, h2, h3, h4⟩ := h
  unfold okA'
  cases v with
  | true => rfl
  | false =>
    obtain ⟨rfl, h5⟩ := h4 rfl
    simp; omega
/-- The first address of a prefix is valid where the address is. -/
theorem aok_first {v : Bool} {hi lo : Int} (n : Int) (h : AOk v hi lo) : AOk v (fstH v hi n) (fstL v lo n) := by
  obtain ⟨h0, h1, h2, h3, h4⟩ := h
  have a := cutZ_bd (khN v (clN v n)) h0
  have b := cutZ_bd (klN v (clN v n)) h2
  refine ⟨a.1, by unfold fstH; omega, b.1, by unfold fstL; omega, fun hv => ?_⟩
  obtain ⟨rfl, h5⟩ := h4 hv
  unfold fstH fstL
  omega
end Go.Proofs.YtboddbheljenhaaDoor
namespace Go.Proofs.YtboddbheljenhaaDoor
open Go.RowKit
theorem pgF_lt : ∀ (e : Bool) (ps : List (List UInt8)) (xs : List Nat), pgF e ps = some xs → ∀ x ∈ xs, x < 65536
  | e, [], xs, h => by cases h; simp
  | e, p :: r, xs, h => by
    unfold pgF at h
    by_cases c : (e && r.isEmpty && hasB p 46) = true
    · rw [if_pos c] at h
      cases e4 : p4N p with
      | none => rw [e4] at h; cases h
      | some n =>
        rw [e4] at h
        cases h
        intro x hx
        simp only [List.mem_cons, List.not_mem_nil, or_false] at hx
        omega
    · rw [if_neg c] at h
      cases e4 : grpN p with
      | none => rw [e4] at h; cases h
      | some n =>
        rw [e4] at h
        cases e5 : pgF e r with
        | none => rw [e5] at h; cases h
        | some ys =>
          rw [e5] at h
          cases h
          intro x hx
          rcases List.mem_cons.1 hx with rfl | hx
          · exact grpN_lt e4
          · exact pgF_lt e r ys e5 x hx
theorem pgN_lt {e : Bool} {l : List UInt8} {xs : List Nat} (h : pgN e l = some xs) : ∀ x ∈ xs, x < 65536 := by
  unfold pgN at h
  by_cases c : l = []
  · rw [if_pos c] at h; cases h; simp
  · rw [if_neg c] at h
    exact pgF_lt e _ xs h
theorem p6N_ok {l : List UInt8} {xs : List Nat} (h : p6N l = some xs) : xs.length = 8 ∧ ∀ x ∈ xs, x < 65536 := by
  unfold p6N at h
  by_cases c : (Lib.cut l [58, 58]).2.2 = true
  · rw [if_pos c] at h
    cases ea : pgN false (Lib.cut l [58, 58]).1 with
    | none => rw [ea] at h; cases h
    | some a =>
      rw [ea, Option.bind_some] at h
      cases eb : pgN true (Lib.cut l [58, 58]).2.1 with
      | none => rw [eb] at h; cases h
      | some b =>
        rw [eb, Option.bind_some] at h
        by_cases h8 : a.length + b.length < 8
        · rw [if_pos h8] at h
          cases h
          refine ⟨by simp; omega, fun x hx => ?_⟩
          rcases List.mem_append.1 hx with hx | hx
          · rcases List.mem_append.1 hx with hx | hx
            · exact pgN_lt ea x hx
            · rw [(List.mem_replicate.1 hx).2]; omega
          · exact pgN_lt eb x hx
        · rw [if_neg h8] at h; cases h
  · rw [if_neg c] at h
    cases ea : pgN true l with
    | none => rw [ea] at h; cases h
    | some a =>
      rw [ea, Option.bind_some] at h
      by_cases h8 : a.length = 8
      · rw [if_pos h8] at h
        cases h
        exact ⟨h8, pgN_lt ea⟩
      · rw [if_neg h8] at h; cases h
/-- Eight groups as an address. -/
def jn8 (xs : List Nat) : Bool × Int × Int := match xs with
  | [a, b, c, d, e, f, g, i] => (true, (jn a b c d : Int), (jn e f g i : Int))
  | _ => (false, 0, 0)
/-- What Parse reads. -/
def prsA (l : List UInt8) : Option (Bool × Int × Int) := if 45 < l.length then none else if hasB l 58 = true then (p6N l).map jn8 else (p4N l).map fun n => (false, 0, (n : Int))
def prsV (l : List UInt8) : AVal := match prsA l with
  | some a => .tuple [.agg [.val (.bool a.1), .val (.int .u64 a.2.1), .val (.int .u64 a.2.2)], .val (.int .i64 0)]
  | none => .tuple [.agg [.val (.bool false), .val (.int .u64 0), .val (.int .u64 0)], .val (.int .i64 2)]
theorem jn_lt {a b c d : Nat} (ha : a < 65536) (hb : b < 65536) (hc : c < 65536) (hd : d < 65536) : jn a b c d < 18446744073709551616 := by unfold jn; omega
/-- What is read is an address. -/
theorem prsA_ok {l : List UInt8} {v : Bool} {hi lo : Int} (h : prsA l = some (v, hi, lo)) : AOk v hi lo := by
  unfold prsA at h
  by_cases c : 45 < l.length
  · rw [if_pos c] at h; cases h
  · rw [if_neg c] at h
    by_cases c2 : hasB l 58 = true
    · rw [if_pos c2] at h
      cases e : p6N l with
      | none => rw [e] at h; cases h
      | some xs =>
        rw [e] at h
        obtain ⟨h8, hb⟩ := p6N_ok e
        obtain ⟨a, b, c, d, e', f, g, i, rfl⟩ := list8 h8
        simp only [Option.map_some, Option.some.injEq, jn8, Prod.mk.injEq] at h
        obtain ⟨rfl, rfl, rfl⟩ := h
        have q := fun x (hx : x ∈ [a, b, c, d, e', f, g, i]) => hb x hx
        have j1 := jn_lt (q a (by simp)) (q b (by simp)) (q c (by simp)) (q d (by simp))
        have j2 := jn_lt (q e' (by simp)) (q f (by simp)) (q g (by simp)) (q i (by simp))
        exact aok6 ⟨by omega, by omega⟩ ⟨by omega, by omega⟩
    · rw [if_neg c2] at h
      cases e : p4N l with
      | none => rw [e] at h; cases h
      | some n =>
        rw [e] at h
        have h' : some (false, (0 : Int), (n : Int)) = some (v, hi, lo) := h
        simp only [Option.some.injEq, Prod.mk.injEq] at h'
        obtain ⟨rfl, rfl, rfl⟩ := h'
        have := p4N_lt e
        exact aok4 (by omega) (by omega)
theorem jn_grps (x : Nat) (h : x < 18446744073709551616) : jn (x / 281474976710656 % 65536) (x / 4294967296 % 65536) (x / 65536 % 65536) (x % 65536) = x := by unfold jn; omega
/-- What is printed is read back. -/
theorem prsA_prA {v : Bool} {hi lo : Int} (ao : AOk v hi lo) : prsA (prA v hi lo) = some (v, hi, lo) := by
  obtain ⟨h0, h1, g0, g1, h4⟩ := ao
  obtain ⟨H, rfl⟩ := Int.eq_ofNat_of_zero_le h0
  obtain ⟨L, rfl⟩ := Int.eq_ofNat_of_zero_le g0
  cases v with
  | true =>
    have e : prA true (H : Int) (L : Int) = p6 (grps H L) := by unfold prA; rw [if_pos rfl, Int.toNat_natCast, Int.toNat_natCast]
    have h8 := grps_len H L
    have hb := grps_lt H L
    have l45 := p6_len45 h8 hb
    unfold prsA
    rw [e, if_neg (by omega), if_pos (hasB_yes (p6_colon h8)), p6N_p6 h8 hb]
    have j : jn8 (grps H L) = (true, (H : Int), (L : Int)) := by
      unfold jn8 grps
      dsimp only
      rw [jn_grps H (by omega), jn_grps L (by omega)]
    exact congrArg some j
  | false =>
    obtain ⟨hz, hl⟩ := h4 rfl
    have e : prA false (H : Int) (L : Int) = quad L := by unfold prA; rw [if_neg (by decide), Int.toNat_natCast]
    have l15 := quad_len (n := L)
    unfold prsA
    rw [e, if_neg (by omega), if_neg (by rw [hasB_no (quad_no L 58 (by decide) (by decide))]; decide), p4N_quad (by omega), hz]
    rfl
theorem prA_len {v : Bool} {hi lo : Int} (ao : AOk v hi lo) : (prA v hi lo).length ≤ 45 := by
  have h := prsA_prA ao
  unfold prsA at h
  by_cases c : 45 < (prA v hi lo).length
  · rw [if_pos c] at h; cases h
  · omega
theorem prA_no47 (v : Bool) (hi lo : Int) : (47 : UInt8) ∉ prA v hi lo := by
  unfold prA
  cases v with
  | true => rw [if_pos rfl]; exact p6_no47 _
  | false => rw [if_neg (by decide)]; exact quad_no _ 47 (by decide) (by decide)
end Go.Proofs.YtboddbheljenhaaDoor
namespace Go.Proofs.YtboddbheljenhaaDoor
open Go.RowKit Go.Sort
/-- What strconv.Atoi answers. -/
def atoiV (l : List UInt8) (t : TypeId) : AVal := match Lib.atoiAll l with
  | .ok v => .tuple [.val (.int .i64 v), .val .nilIface]
  | .syntax => .tuple [.val (.int .i64 0), .ifc t]
  | .range => .tuple [.val (.int .i64 (Lib.atoiSat l)), .ifc t]
theorem atoi_spec (l : List UInt8) (hl : l.length ≤ 281474976710656) : Spec Tryd.prog 22 [.val (bstr l)] [] (atoiV l 96) [] := by
  have hsz : (⟨l.toArray⟩ : ByteArray).size = l.length := rfl
  unfold atoiV
  cases h : Lib.atoiAll l with
  | ok v =>
    exact spec_belowV (timeless_two (timeless_val _) (timeless_val _)) fun ψ prot w cargs hV hk hs hargs => by
      obtain rfl := one_arg hs hargs
      refine (Tryd.strconv_Atoi_ok ⟨l.toArray⟩ (by rw [hsz]; omega) v h w).mono ?_
      rintro e w' ⟨rfl, hw⟩
      refine ⟨_, rfl, vrel_two (.val _) (.val _), ?_⟩
      rcases hw with rfl | ⟨t, rfl⟩
      · exact Below.refl _ _
      · exact Lib.bytesWorld_below w _ t
  | «syntax» =>
    exact spec_belowV (timeless_two (timeless_val _) (timeless_ifc _)) fun ψ prot w cargs hV hk hs hargs => by
      obtain rfl := one_arg hs hargs
      obtain ⟨tp, p, hv⟩ := vars_syntax hV
      refine (Tryd.strconv_Atoi_syntax_var ⟨l.toArray⟩ (by rw [hsz]; exact hl) h tp p w hv).mono ?_
      rintro e w' ⟨N, rfl, -, -, hb⟩
      exact ⟨_, rfl, vrel_two (.val _) (.ifc _ _), hb⟩
  | range =>
    exact spec_belowV (timeless_two (timeless_val _) (timeless_ifc _)) fun ψ prot w cargs hV hk hs hargs => by
      obtain rfl := one_arg hs hargs
      obtain ⟨tp, p, hv⟩ := vars_range hV
      refine (Tryd.strconv_Atoi_range_var ⟨l.toArray⟩ (by rw [hsz]; exact hl) h tp p w hv).mono ?_
      rintro e w' ⟨N, rfl, -, -, hb⟩
      exact ⟨_, rfl, vrel_two (.val _) (.ifc _ _), hb⟩
end Go.Proofs.YtboddbheljenhaaDoor
namespace Go.Proofs.YtboddbheljenhaaDoor
open Go.RowKit
section
variable {k : Nat} {st : St} {o : Oper}
theorem opok_eqQh {yt : TypeId} {x y : Operand} {v1 v2 : Bool} {h1 l1 h2 l2 : Int} {b : Bool} (ho : o.op = .binOp .eql 27 x y yt) (hx : st.aop x = .agg [.val (.bool v1), .val (.int .u64 h1), .val (.int .u64 l1)]) (hy : st.aop y = .agg [.val (.bool v2), .val (.int .u64 h2), .val (.int .u64 l2)]) (he : eqQ v1 h1 l1 v2 h2 l2 = b) :
    OpOk Tryd.prog k st o ⟨.val (.bool b), [], [], []⟩ := he ▸ opok_eqQd ho hx hy
theorem opok_neQh {yt : TypeId} {x y : Operand} {v1 v2 : Bool} {h1 l1 h2 l2 : Int} {b : Bool} (ho : o.op = .binOp .neq 27 x y yt) (hx : st.aop x = .agg [.val (.bool v1), .val (.int .u64 h1), .val (.int .u64 l1)]) (hy : st.aop y = .agg [.val (.bool v2), .val (.int .u64 h2), .val (.int .u64 l2)]) (he : (!eqQ v1 h1 l1 v2 h2 l2) = b) :
    OpOk Tryd.prog k st o ⟨.val (.bool b), [], [], []⟩ := he ▸ opok_neQd ho hx hy
theorem opok_nePh {yt : TypeId} {x y : Operand} {v1 v2 : Bool} {h1 l1 h2 l2 n1 n2 : Int} {b : Bool} (ho : o.op = .binOp .neq 29 x y yt) (hx : st.aop x = .agg [.val (.bool v1), .val (.int .u64 h1), .val (.int .u64 l1), .val (.int .i64 n1)]) (hy : st.aop y = .agg [.val (.bool v2), .val (.int .u64 h2), .val (.int .u64 l2), .val (.int .i64 n2)]) (he : (!eqP v1 h1 l1 n1 v2 h2 l2 n2) = b) :
    OpOk Tryd.prog k st o ⟨.val (.bool b), [], [], []⟩ := he ▸ opok_nePd ho hx hy
theorem opok_eqPh {yt : TypeId} {x y : Operand} {v1 v2 : Bool} {h1 l1 h2 l2 n1 n2 : Int} {b : Bool} (ho : o.op = .binOp .eql 29 x y yt) (hx : st.aop x = .agg [.val (.bool v1), .val (.int .u64 h1), .val (.int .u64 l1), .val (.int .i64 n1)]) (hy : st.aop y = .agg [.val (.bool v2), .val (.int .u64 h2), .val (.int .u64 l2), .val (.int .i64 n2)]) (he : eqP v1 h1 l1 n1 v2 h2 l2 n2 = b) :
    OpOk Tryd.prog k st o ⟨.val (.bool b), [], [], []⟩ := he ▸ opok_eqPd ho hx hy
end
theorem eqP_self (v : Bool) (hi lo n : Int) : eqP v hi lo n v hi lo n = true := by with_unfolding_all simp [eqP, eqQ]
theorem eqQ_self (v : Bool) (hi lo : Int) : eqQ v hi lo v hi lo = true := by with_unfolding_all simp [eqQ]
theorem neP_self (v : Bool) (hi lo n : Int) : (!eqP v hi lo n v hi lo n) = false := by rw [eqP_self]; rfl
theorem neQ_self (v : Bool) (hi lo : Int) : (!eqQ v hi lo v hi lo) = false := by rw [eqQ_self]; rfl
end Go.Proofs.YtboddbheljenhaaDoor
namespace Go.Proofs.YtboddbheljenhaaDoor
open Go.RowKit
section
variable {P : Program} {k : Nat} {st : St} {o : Oper}
theorem opok_min3 {x y z : Operand} {t t' t2 : TypeId} {a b c : Int} (ho : o.op = .call { callee := .builtin .min, args := #[x, y, z], argTypes := #[t, t', t2] }) (hx : st.aop x = .val (.int .i64 a)) (hy : st.aop y = .val (.int .i64 b)) (hz : st.aop z = .val (.int .i64 c)) : OpOk P k st o ⟨.val (.int .i64 (min (min a b) c)), [], [], []⟩ :=
  opok_quiet fun ψ prot obj w ρ _ hr _ => by
    have h1 := (hx ▸ hr x (by simp [ho, Op.operands, Call.operands]) : VRel ψ prot w (.val (.int .i64 a)) (ρ x)).val_eq
    have h2 := (hy ▸ hr y (by simp [ho, Op.operands, Call.operands]) : VRel ψ prot w (.val (.int .i64 b)) (ρ y)).val_eq
    have h3 := (hz ▸ hr z (by simp [ho, Op.operands, Call.operands]) : VRel ψ prot w (.val (.int .i64 c)) (ρ z)).val_eq
    refine ⟨_, ?_, .val _⟩
    by_cases h : b < a
    · have e : min a b = b := by omega
      rw [e]
      by_cases h' : c < b
      · have e' : min b c = c := by omega
        rw [e']
        simp [execOp, ho, resolve, invoke, builtin, h1, h2, h3, Builtin.min_, Builtin.min2, go_sem, h, h']
      · have e' : min b c = b := by omega
        rw [e']
        simp [execOp, ho, resolve, invoke, builtin, h1, h2, h3, Builtin.min_, Builtin.min2, go_sem, h, h']
    · have e : min a b = a := by omega
      rw [e]
      by_cases h' : c < a
      · have e' : min a c = c := by omega
        rw [e']
        simp [execOp, ho, resolve, invoke, builtin, h1, h2, h3, Builtin.min_, Builtin.min2, go_sem, h, h']
      · have e' : min a c = a := by omega
        rw [e']
        simp [execOp, ho, resolve, invoke, builtin, h1, h2, h3, Builtin.min_, Builtin.min2, go_sem, h, h']
end
end Go.Proofs.YtboddbheljenhaaDoor
