/-
  Texts by their bytes. No program is named here.
-/
import Derived.Test.YtboddbheljenhaaGreatDoorG06
import Derived.Lib.Strings
namespace Go.Proofs.YtboddbheljenhaaGreatDoor
open Go.RowKit
/-- A text, by its bytes. -/
def bstr (l : List UInt8) : Value := .string ⟨l.toArray⟩
theorem bstr_of (s : ByteArray) : Value.string s = bstr s.data.toList := rfl
theorem bstr_inj {a b : List UInt8} : bstr a = bstr b ↔ a = b := by
  unfold bstr
  constructor
  · intro h; injection h with h; injection h with h; injection h
  · rintro rfl; rfl
theorem mk_toList (l : List UInt8) : (⟨l.toArray⟩ : ByteArray).toList = l := Lib.toList_data _
theorem mk_size (l : List UInt8) : (⟨l.toArray⟩ : ByteArray).size = l.length := rfl
theorem mk_append (a b : List UInt8) : (⟨a.toArray⟩ : ByteArray) ++ ⟨b.toArray⟩ = ⟨(a ++ b).toArray⟩ := by
  apply ByteArray.ext
  rw [ByteArray.data_append]
  simp
theorem mk_extract (l : List UInt8) (i j : Nat) : (⟨l.toArray⟩ : ByteArray).extract i j = ⟨((l.drop i).take (j - i)).toArray⟩ := by
  apply ByteArray.ext
  rw [ByteArray.data_extract]
  simp [List.extract_eq_take_drop]
theorem bstr_bytes (xs : List Int) : Value.string (strOfNums xs) = bstr (xs.map fun n => UInt8.ofNat n.toNat) := rfl
section
variable {P : Program} {k : Nat} {st : St} {o : Oper}
theorem opok_scat {t yt : TypeId} {x y : Operand} {a b : List UInt8} (ho : o.op = .binOp .add t x y yt) (hx : st.aop x = .val (bstr a)) (hy : st.aop y = .val (bstr b)) (hl : a.length + b.length ≤ 9223372036854775807) : OpOk P k st o ⟨.val (bstr (a ++ b)), [], [], []⟩ :=
  opok_bin ho hx hy fun w => by
    have h1 : ¬ ((((⟨a.toArray⟩ : ByteArray).size + (⟨b.toArray⟩ : ByteArray).size : Nat) : Int) > IntKind.i64.max) := by
      rw [mk_size, mk_size]
      have : IntKind.i64.max = 9223372036854775807 := rfl
      omega
    simp only [eqGuard, binOp, bstr, Op.stringOp, h1, if_false, mk_append]
    rfl
theorem opok_seql {t yt : TypeId} {x y : Operand} {a b : List UInt8} (ho : o.op = .binOp .eql t x y yt) (hx : st.aop x = .val (bstr a)) (hy : st.aop y = .val (bstr b)) : OpOk P k st o ⟨.val (.bool (a == b)), [], [], []⟩ :=
  opok_bin ho hx hy fun w => by
    simp only [eqGuard, binOp, bstr, Op.stringOp, mk_toList]
    rfl
theorem opok_sneq {t yt : TypeId} {x y : Operand} {a b : List UInt8} (ho : o.op = .binOp .neq t x y yt) (hx : st.aop x = .val (bstr a)) (hy : st.aop y = .val (bstr b)) : OpOk P k st o ⟨.val (.bool (!(a == b))), [], [], []⟩ :=
  opok_bin ho hx hy fun w => by
    simp only [eqGuard, binOp, bstr, Op.stringOp, mk_toList]
    rfl
theorem opok_slss {t yt : TypeId} {x y : Operand} {a b : List UInt8} (ho : o.op = .binOp .lss t x y yt) (hx : st.aop x = .val (bstr a)) (hy : st.aop y = .val (bstr b)) : OpOk P k st o ⟨.val (.bool (Op.bytesLess a b)), [], [], []⟩ :=
  opok_bin ho hx hy fun w => by
    simp only [eqGuard, binOp, bstr, Op.stringOp, mk_toList]
    rfl
theorem opok_slen {x : Operand} {t : TypeId} {a : List UInt8} (ho : o.op = .call { callee := .builtin .len, args := #[x], argTypes := #[t] }) (hx : st.aop x = .val (bstr a)) (ht : P.underlying t = some .string) : OpOk P k st o ⟨.val (.int .i64 a.length), [], [], []⟩ :=
  opok_lenS ho hx ht
/-- The byte of a text at a place. -/
def byteAt (l : List UInt8) (i : Int) : Int := ((l.getD i.toNat 0).toNat : Int)
theorem byteAt_get {l : List UInt8} {i : Nat} {x : UInt8} (h : l[i]? = some x) : byteAt l (i : Int) = (x.toNat : Int) := by
  unfold byteAt
  rw [List.getD_eq_getElem?_getD, Int.toNat_natCast, h]; rfl
theorem byteAt_range (l : List UInt8) (i : Int) : 0 ≤ byteAt l i ∧ byteAt l i < 256 := by
  unfold byteAt
  have := (l.getD i.toNat 0).toNat_lt
  omega
theorem run_sindex {t : TypeId} (ht : P.underlying t = some .string) (l : List UInt8) (kd : IntKind) (i : Int) (h0 : 0 ≤ i) (h1 : i < l.length) (w : World) :
    (Instr.index t (bstr l) (.int kd i)).run P w = .ok (.int .u8 (byteAt l i)) w := by
  show _ = Result.ok (Value.int .u8 ((l.getD i.toNat 0).toNat : Int)) w
  have hi : i.toNat < l.length := by omega
  have e : (⟨l.toArray⟩ : ByteArray)[i.toNat]? = some (l.getD i.toNat 0) := by
    have : (⟨l.toArray⟩ : ByteArray)[i.toNat]? = some (⟨l.toArray⟩ : ByteArray)[i.toNat] := getElem?_pos _ _ (by rw [mk_size]; exact hi)
    rw [this, List.getD_eq_getElem?_getD, List.getElem?_eq_getElem hi]
    rfl
  simp [Instr.index, asIntOf, run_underlying ht, bstr, h0, e, go_sem]
theorem opok_sindex {t : TypeId} {x ix : Operand} {l : List UInt8} {kd : IntKind} {i : Int} (ho : o.op = .index t x ix) (hx : st.aop x = .val (bstr l)) (hi : st.aop ix = .val (.int kd i)) (ht : P.underlying t = some .string) (h0 : 0 ≤ i) (h1 : i < l.length) : OpOk P k st o ⟨.val (.int .u8 (byteAt l i)), [], [], []⟩ :=
  opok_ixv ho hx hi fun w => run_sindex ht l kd i h0 h1 w
theorem VRel.ifc_inv {ψ : Ghost} {prot : Nat → Prop} {w : World} {it : TypeId} {v : Value} (h : VRel ψ prot w (.ifc it) v) : ∃ u, v = .iface it u := by
  cases h with | ifc _ u => exact ⟨u, rfl⟩
/-- An error that is there is not nil. -/
theorem opok_errNe {t yt it : TypeId} {x y : Operand} (ho : o.op = .binOp .neq t x y yt) (hx : st.aop x = .ifc it) (hy : st.aop y = .val .nilIface) (ht : P.underlying t = some (.interface (P.methodsAt t))) : OpOk P k st o ⟨.val (.bool true), [], [], []⟩ :=
  opok_quiet fun ψ prot obj w ρ _ hr _ => by
    have h2 := (hy ▸ hr y (by simp [ho, Op.operands]) : VRel ψ prot w (.val .nilIface) (ρ y)).val_eq
    obtain ⟨v, hv⟩ := (hx ▸ hr x (by simp [ho, Op.operands]) : VRel ψ prot w (.ifc it) (ρ x)).ifc_inv
    have hb : (binOp .neq t (.iface it v) .nilIface).run P w = .ok (.bool true) w := by
      exact run_neq_held_nil w t it v ht
    refine ⟨.bool true, ?_, .val _⟩
    simp only [execOp, ho, hv, h2, Sem.run_bind, eqGuard, Bool.not_true, Bool.false_eq_true, if_false, hb, Sem.run_pure, Result.andThen_ok]
theorem opok_errEq {t yt it : TypeId} {x y : Operand} (ho : o.op = .binOp .eql t x y yt) (hx : st.aop x = .ifc it) (hy : st.aop y = .val .nilIface) (ht : P.underlying t = some (.interface (P.methodsAt t))) : OpOk P k st o ⟨.val (.bool false), [], [], []⟩ :=
  opok_quiet fun ψ prot obj w ρ _ hr _ => by
    have h2 := (hy ▸ hr y (by simp [ho, Op.operands]) : VRel ψ prot w (.val .nilIface) (ρ y)).val_eq
    obtain ⟨v, hv⟩ := (hx ▸ hr x (by simp [ho, Op.operands]) : VRel ψ prot w (.ifc it) (ρ x)).ifc_inv
    have hb : (binOp .eql t (.iface it v) .nilIface).run P w = .ok (.bool false) w := by
      exact run_eql_held_nil w t it v ht
    refine ⟨.bool false, ?_, .val _⟩
    simp only [execOp, ho, hv, h2, Sem.run_bind, eqGuard, Bool.not_true, Bool.false_eq_true, if_false, hb, Sem.run_pure, Result.andThen_ok]
end
end Go.Proofs.YtboddbheljenhaaGreatDoor
