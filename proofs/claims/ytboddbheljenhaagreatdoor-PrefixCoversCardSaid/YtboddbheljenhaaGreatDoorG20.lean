/-
  A value made an interface; the bytes of a text (a value) that nobody writes. No program is named here.
-/
import Derived.Test.YtboddbheljenhaaGreatDoorG07
import Derived.Test.YtboddbheljenhaaGreatDoorG06
import Derived.Test.YtboddbheljenhaaGreatDoorG19
namespace Go.Proofs.YtboddbheljenhaaGreatDoor
open Go.RowKit
theorem bints_range (l : List UInt8) : ∀ z ∈ bints l, 0 ≤ z ∧ z < 256 := by
  intro z hz
  obtain ⟨b, -, rfl⟩ := List.mem_map.1 hz
  have := b.toNat_lt
  omega
section
variable {P : Program} {k : Nat} {st : St} {o : Oper}
theorem opok_convL {s t e : TypeId} {x : Operand} {l : List UInt8} (ho : o.op = .convert s t x) (hx : st.aop x = .val (bstr l)) (hs : P.underlying s = some .string) (ht : P.underlying t = some (.slice e)) (he : P.underlying e = some (.int .u8)) : OpOk P k st o ⟨.ro (ints .u8 (bints l)), [], [], []⟩ := by
  rw [← strOf_bints] at hx
  exact opok_convB ho hx hs ht he (bints_range l)
theorem opok_mkIf {t : TypeId} {x : Operand} {kd kt : IntKind} {v : Int} (ho : o.op = .makeInterface t x) (hx : st.aop x = .val (.int kd v)) (ht : P.underlying t = some (.int kt)) : OpOk P k st o ⟨.val (.iface t (.int kd v)), [], [], []⟩ :=
  opok_quiet fun ψ prot obj w ρ _ hr _ => by
    have h1 := (hx ▸ hr x (by simp [ho, Op.operands]) : VRel ψ prot w (.val (.int kd v)) (ρ x)).val_eq
    exact ⟨.iface t (.int kd v), by simp [execOp, ho, h1, Instr.makeInterface, run_underlying ht, go_sem], .val _⟩
theorem opok_errNeV {t yt it : TypeId} {x y : Operand} {v : Value} (ho : o.op = .binOp .neq t x y yt) (hx : st.aop x = .val (.iface it v)) (hy : st.aop y = .val .nilIface) (ht : P.underlying t = some (.interface (P.methodsAt t))) : OpOk P k st o ⟨.val (.bool true), [], [], []⟩ :=
  opok_quiet fun ψ prot obj w ρ _ hr _ => by
    have h2 := (hy ▸ hr y (by simp [ho, Op.operands]) : VRel ψ prot w (.val .nilIface) (ρ y)).val_eq
    have hv := (hx ▸ hr x (by simp [ho, Op.operands]) : VRel ψ prot w (.val (.iface it v)) (ρ x)).val_eq
    have hb : (binOp .neq t (.iface it v) .nilIface).run P w = .ok (.bool true) w := run_neq_held_nil w t it v ht
    refine ⟨.bool true, ?_, .val _⟩
    simp only [execOp, ho, hv, h2, Sem.run_bind, eqGuard, Bool.not_true, Bool.false_eq_true, if_false, hb, Sem.run_pure, Result.andThen_ok]
end
end Go.Proofs.YtboddbheljenhaaGreatDoor
namespace Go.Proofs.YtboddbheljenhaaGreatDoor
open Go.RowKit
/-- A digit below 16, in small letters. -/
def hexDig (d : Nat) : UInt8 := if d < 10 then UInt8.ofNat (48 + d) else UInt8.ofNat (87 + d)
def hexL (u : Nat) : List UInt8 := if h : u < 16 then [hexDig u] else hexL (u / 16) ++ [hexDig (u % 16)]
termination_by u
decreasing_by omega
theorem hexL_small {u : Nat} (h : u < 16) : hexL u = [hexDig u] := by rw [hexL, dif_pos h]
theorem hexL_big {u : Nat} (h : ¬ u < 16) : hexL u = hexL (u / 16) ++ [hexDig (u % 16)] := by rw [hexL, dif_neg h]
theorem hexDig_toNat {d : Nat} (h : d < 16) : (hexDig d).toNat = if d < 10 then 48 + d else 87 + d := by
  unfold hexDig
  split
  · simp; omega
  · simp; omega
/-- What a byte is worth as a digit, in letters of either case. -/
def hexV (c : UInt8) : Option Nat :=
  if 48 ≤ c.toNat ∧ c.toNat ≤ 57 then some (c.toNat - 48)
  else if 97 ≤ c.toNat ∧ c.toNat ≤ 102 then some (c.toNat - 87)
  else if 65 ≤ c.toNat ∧ c.toNat ≤ 70 then some (c.toNat - 55)
  else none
theorem hexV_lt {c : UInt8} {d : Nat} (h : hexV c = some d) : d < 16 := by
  unfold hexV at h
  split at h
  · injection h with h; omega
  · split at h
    · injection h with h; omega
    · split at h
      · injection h with h; omega
      · cases h
theorem hexV_dig {d : Nat} (h : d < 16) : hexV (hexDig d) = some d := by
  have e := hexDig_toNat h
  unfold hexV
  by_cases h1 : d < 10
  · rw [if_pos h1] at e
    rw [if_pos (by omega), e]
    congr 1; omega
  · rw [if_neg h1] at e
    rw [if_neg (by omega), if_pos (by omega), e]
    congr 1; omega
/-- What digits spell behind a number; none if a byte is no digit. -/
def hexN : Nat → List UInt8 → Option Nat
  | acc, [] => some acc
  | acc, c :: r => match hexV c with
    | some d => hexN (acc * 16 + d) r
    | none => none
theorem hexN_append : ∀ (a b : List UInt8) (acc : Nat), hexN acc (a ++ b) = (hexN acc a).bind fun n => hexN n b
  | [], b, acc => rfl
  | c :: a, b, acc => by
    simp only [List.cons_append, hexN]
    cases hexV c with
    | none => rfl
    | some d => exact hexN_append a b _
theorem hexN_hexL (u : Nat) : hexN 0 (hexL u) = some u := by
  induction u using Nat.strongRecOn with
  | ind u ih =>
    by_cases h : u < 16
    · rw [hexL_small h]
      simp only [hexN, hexV_dig h]
      congr 1; omega
    · rw [hexL_big h, hexN_append, ih (u / 16) (by omega)]
      simp only [Option.bind_some, hexN, hexV_dig (show u % 16 < 16 by omega)]
      congr 1; omega
theorem hexN_lt : ∀ (l : List UInt8) (acc n : Nat), hexN acc l = some n → n < (acc + 1) * 16 ^ l.length
  | [], acc, n, h => by
    simp only [hexN] at h
    injection h with h
    simp; omega
  | c :: r, acc, n, h => by
    simp only [hexN] at h
    cases hc : hexV c with
    | none => rw [hc] at h; cases h
    | some d =>
      rw [hc] at h
      have h1 := hexV_lt hc
      have h2 := hexN_lt r _ n h
      refine Nat.lt_of_lt_of_le h2 ?_
      rw [List.length_cons, Nat.pow_succ]
      have h3 : acc * 16 + d + 1 ≤ (acc + 1) * 16 := by omega
      calc (acc * 16 + d + 1) * 16 ^ r.length ≤ ((acc + 1) * 16) * 16 ^ r.length := Nat.mul_le_mul_right _ h3
        _ = (acc + 1) * (16 ^ r.length * 16) := by rw [Nat.mul_assoc, Nat.mul_comm 16]
theorem hexL_len (k : Nat) : ∀ u, u < 16 ^ (k + 1) → (hexL u).length ≤ k + 1 := by
  induction k with
  | zero => intro u hu; rw [hexL_small (by simpa using hu)]; simp
  | succ k ih =>
    intro u hu
    by_cases h : u < 16
    · rw [hexL_small h]; simp
    · have := ih (u / 16) (by rw [Nat.pow_succ] at hu; omega)
      rw [hexL_big h, List.length_append, List.length_singleton]
      omega
theorem hexL_ne (u : Nat) : hexL u ≠ [] := by
  by_cases h : u < 16
  · rw [hexL_small h]; simp
  · rw [hexL_big h]; simp
theorem hexL_bytes (u : Nat) : ∀ x ∈ hexL u, ∃ d, d < 16 ∧ x = hexDig d := by
  induction u using Nat.strongRecOn with
  | ind u ih =>
    intro x hx
    by_cases h : u < 16
    · rw [hexL_small h] at hx
      simp only [List.mem_singleton] at hx
      exact ⟨u, h, hx⟩
    · rw [hexL_big h, List.mem_append] at hx
      rcases hx with hx | hx
      · exact ih (u / 16) (by omega) x hx
      · simp only [List.mem_singleton] at hx
        exact ⟨u % 16, by omega, hx⟩
end Go.Proofs.YtboddbheljenhaaGreatDoor
namespace Go.Proofs.YtboddbheljenhaaGreatDoor
open Go.RowKit Go.Sort
theorem vrel_three {ψ : Ghost} {prot : Nat → Prop} {w : World} {x y z : AVal} {u v t : Value} (h1 : VRel ψ prot w x u) (h2 : VRel ψ prot w y v) (h3 : VRel ψ prot w z t) : VRel ψ prot w (.tuple [x, y, z]) (.tuple #[u, v, t]) :=
  .tuple _ _ rfl fun i z q e1 e2 => by
    match i, e1, e2 with
    | 0, e1, e2 => cases e1; cases e2; exact h1
    | 1, e1, e2 => cases e1; cases e2; exact h2
    | 2, e1, e2 => cases e1; cases e2; exact h3
    | _ + 3, e1, e2 => cases e1
theorem timeless_three {x y z : AVal} (h1 : Timeless x) (h2 : Timeless y) (h3 : Timeless z) : Timeless (.tuple [x, y, z]) := timeless_tuple fun v hv => by
  simp only [List.mem_cons, List.not_mem_nil, or_false] at hv
  rcases hv with rfl | rfl | rfl
  · exact h1
  · exact h2
  · exact h3
theorem two_vals {ψ : Ghost} {prot : Nat → Prop} {w : World} {cargs : Array Value} {x u : Value} (hsz : cargs.size = [AVal.val x, AVal.val u].length) (h : ∀ (i : Nat) (y : AVal) (v : Value), [AVal.val x, AVal.val u][i]? = some y → cargs[i]? = some v → VRel ψ prot w y v) : cargs = #[x, u] := by
  obtain ⟨v, rfl, hv⟩ := two_args hsz h
  rw [hv.val_eq]
theorem three_vals {ψ : Ghost} {prot : Nat → Prop} {w : World} {cargs : Array Value} {x y z : Value} (hsz : cargs.size = [AVal.val x, AVal.val y, AVal.val z].length) (h : ∀ (i : Nat) (a : AVal) (v : Value), [AVal.val x, AVal.val y, AVal.val z][i]? = some a → cargs[i]? = some v → VRel ψ prot w a v) : cargs = #[x, y, z] := by
  have hs : cargs.size = 3 := hsz
  have h0 := (h 0 (.val x) cargs[0] rfl (by simp [hs])).val_eq
  have h1 := (h 1 (.val y) cargs[1] rfl (by simp [hs])).val_eq
  have h2 := (h 2 (.val z) cargs[2] rfl (by simp [hs])).val_eq
  apply Array.ext
  · simpa using hs
  · intro i q1 q2
    have : i = 0 ∨ i = 1 ∨ i = 2 := by simp at q2; omega
    rcases this with rfl | rfl | rfl
    · simpa using h0
    · simpa using h1
    · simpa using h2
/-- Whether a byte stands in a text. -/
def hasB (l : List UInt8) (c : UInt8) : Bool := decide (0 ≤ Lib.indexByte l c)
theorem contains_spec (l : List UInt8) (c : UInt8) : Spec Tryz.prog 75 [.val (bstr l), .val (bstr [c])] [] (.val (.bool (hasB l c))) [] :=
  spec_belowV (timeless_val _) fun ψ prot w cargs hV hk hsz hargs => by
    obtain rfl := two_vals hsz hargs
    refine (Tryz.strings_Contains_one ⟨l.toArray⟩ c w).mono ?_
    rintro e w' ⟨rfl, rfl⟩
    exact ⟨_, rfl, .val _, Below.refl _ _⟩
theorem cut_spec (l sep : List UInt8) (hl : l.length < 4294967281) : Spec Tryz.prog 57 [.val (bstr l), .val (bstr sep)] [] (.tuple [.val (bstr (Lib.cut l sep).1), .val (bstr (Lib.cut l sep).2.1), .val (.bool (Lib.cut l sep).2.2)]) [] :=
  spec_belowV (timeless_three (timeless_val _) (timeless_val _) (timeless_val _)) fun ψ prot w cargs hV hk hsz hargs => by
    obtain rfl := two_vals hsz hargs
    obtain ⟨m, hm⟩ := vars_maxlen hV
    refine (Tryz.strings_Cut ⟨l.toArray⟩ ⟨sep.toArray⟩ m w hl hm).mono ?_
    rintro e w' ⟨rfl, n, rfl⟩
    exact ⟨_, rfl, vrel_three (.val _) (.val _) (.val _), ⟨rfl, rfl, rfl, Nat.le_refl _, fun _ _ => rfl⟩⟩
/-- What strconv.ParseUint(l, 10, 8) answers. -/
def pu8V (l : List UInt8) (t : TypeId) : AVal := match Lib.parseUintB 8 l with
  | .ok v => .tuple [.val (.int .u64 v), .val .nilIface]
  | .syntax => .tuple [.val (.int .u64 0), .ifc t]
  | .range => .tuple [.val (.int .u64 255), .ifc t]
theorem pu8_spec (l : List UInt8) (hl : l.length ≤ 281474976710656) : Spec Tryz.prog 98 [.val (bstr l), .val (.int .i64 10), .val (.int .i64 8)] [] (pu8V l 128) [] := by
  have hsz : (⟨l.toArray⟩ : ByteArray).size = l.length := rfl
  unfold pu8V
  cases h : Lib.parseUintB 8 l with
  | ok v =>
    exact spec_belowV (timeless_two (timeless_val _) (timeless_val _)) fun ψ prot w cargs hV hk hs hargs => by
      obtain rfl := three_vals hs hargs
      refine (Tryz.strconv_ParseUint_10_at8_ok ⟨l.toArray⟩ (by rw [hsz]; omega) v h w).mono ?_
      rintro e w' ⟨rfl, hw⟩
      refine ⟨_, rfl, vrel_two (.val _) (.val _), ?_⟩
      rcases hw with rfl | rfl
      · exact Below.refl _ _
      · exact Lib.bytesWorld_below w _ _
  | «syntax» =>
    exact spec_belowV (timeless_two (timeless_val _) (timeless_ifc _)) fun ψ prot w cargs hV hk hs hargs => by
      obtain rfl := three_vals hs hargs
      obtain ⟨tp, p, hv⟩ := vars_syntax hV
      refine (Tryz.strconv_ParseUint_10_at8_syntax_var ⟨l.toArray⟩ (by rw [hsz]; exact hl) h tp p w hv).mono ?_
      rintro e w' ⟨N, rfl, -, -, hb⟩
      exact ⟨_, rfl, vrel_two (.val _) (.ifc _ _), hb⟩
  | range =>
    exact spec_belowV (timeless_two (timeless_val _) (timeless_ifc _)) fun ψ prot w cargs hV hk hs hargs => by
      obtain rfl := three_vals hs hargs
      obtain ⟨tp, p, hv⟩ := vars_range hV
      refine (Tryz.strconv_ParseUint_10_at8_range_var ⟨l.toArray⟩ (by rw [hsz]; exact hl) h tp p w hv).mono ?_
      rintro e w' ⟨N, rfl, -, -, hb⟩
      exact ⟨_, rfl, vrel_two (.val _) (.ifc _ _), hb⟩
theorem small_spec (i : Nat) (h : i < 100) : Spec Tryz.prog 92 [.val (.int .i64 i)] [] (.val (bstr (Lib.decDigits i))) [] :=
  spec_belowV (timeless_val _) fun ψ prot w cargs hV hk hsz hargs => by
    obtain rfl := one_arg hsz hargs
    refine (Tryz.internal_strconv_small i h w).mono ?_
    rintro e w' ⟨rfl, rfl⟩
    exact ⟨_, rfl, .val _, Below.refl _ _⟩
end Go.Proofs.YtboddbheljenhaaGreatDoor
