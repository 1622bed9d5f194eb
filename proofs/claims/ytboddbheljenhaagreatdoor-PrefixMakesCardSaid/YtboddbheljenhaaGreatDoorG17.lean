/-
  strconv.Atoi, as a contract on values.
-/
import Derived.Test.YtboddbheljenhaaGreatDoorG14
import Derived.Test.YtboddbheljenhaaGreatDoorAbsB
namespace Go.Proofs.YtboddbheljenhaaGreatDoor
open Go.RowKit Go.Sort
/-- What strconv.Atoi answers. -/
def atoiV (l : List UInt8) (t : TypeId) : AVal := match Lib.atoiAll l with
  | .ok v => .tuple [.val (.int .i64 v), .val .nilIface]
  | .syntax => .tuple [.val (.int .i64 0), .ifc t]
  | .range => .tuple [.val (.int .i64 (Lib.atoiSat l)), .ifc t]
theorem atoi_spec (l : List UInt8) (hl : l.length ≤ 281474976710656) : Spec Tryz.prog 60 [.val (bstr l)] [] (atoiV l 128) [] := by
  have hsz : (⟨l.toArray⟩ : ByteArray).size = l.length := rfl
  unfold atoiV
  cases h : Lib.atoiAll l with
  | ok v =>
    exact spec_belowV (timeless_two (timeless_val _) (timeless_val _)) fun ψ prot w cargs hV hk hs hargs => by
      obtain rfl := one_arg hs hargs
      refine (Tryz.strconv_Atoi_ok ⟨l.toArray⟩ (by rw [hsz]; omega) v h w).mono ?_
      rintro e w' ⟨rfl, hw⟩
      refine ⟨_, rfl, vrel_two (.val _) (.val _), ?_⟩
      rcases hw with rfl | ⟨t, rfl⟩
      · exact Below.refl _ _
      · exact Lib.bytesWorld_below w _ t
  | «syntax» =>
    exact spec_belowV (timeless_two (timeless_val _) (timeless_ifc _)) fun ψ prot w cargs hV hk hs hargs => by
      obtain rfl := one_arg hs hargs
      obtain ⟨tp, p, hv⟩ := vars_syntax hV
      refine (Tryz.strconv_Atoi_syntax_var ⟨l.toArray⟩ (by rw [hsz]; exact hl) h tp p w hv).mono ?_
      rintro e w' ⟨N, rfl, -, -, hb⟩
      exact ⟨_, rfl, vrel_two (.val _) (.ifc _ _), hb⟩
  | range =>
    exact spec_belowV (timeless_two (timeless_val _) (timeless_ifc _)) fun ψ prot w cargs hV hk hs hargs => by
      obtain rfl := one_arg hs hargs
      obtain ⟨tp, p, hv⟩ := vars_range hV
      refine (Tryz.strconv_Atoi_range_var ⟨l.toArray⟩ (by rw [hsz]; exact hl) h tp p w hv).mono ?_
      rintro e w' ⟨N, rfl, -, -, hb⟩
      exact ⟨_, rfl, vrel_two (.val _) (.ifc _ _), hb⟩
end Go.Proofs.YtboddbheljenhaaGreatDoor
namespace Go.Proofs.YtboddbheljenhaaGreatDoor
open Go.RowKit
section
variable {P : Program} {k : Nat} {st : St} {o : Oper}
theorem opok_min3 {x y z : Operand} {t t' t2 : TypeId} {a b c : Int} (ho : o.op = .call { callee := .builtin .min, args := #[x, y, z], argTypes := #[t, t', t2] }) (hx : st.aop x = .val (.int .i64 a)) (hy : st.aop y = .val (.int .i64 b)) (hz : st.aop z = .val (.int .i64 c)) : OpOk P k st o ⟨.val (.int .i64 (min (min a b) c)), [], [], []⟩ :=
  opok_quiet fun ψ prot obj w ρ _ hr _ => by
    have h1 := (hx ▸ hr x (by simp [ho, Op.operands, Call.operands]) : VRel ψ prot w (.val (.int .i64 a)) (ρ x)).val_eq
    have h2 := (hy ▸ hr y (by simp [ho, Op.operands, Call.operands]) : VRel ψ prot w (.val (.int .i64 b)) (ρ y)).val_eq
    have h3 := (hz ▸ hr z (by simp [ho, Op.operands, Call.operands]) : VRel ψ prot w (.val (.int .i64 c)) (ρ z)).val_eq
    refine ⟨_, ?_, .val _⟩
    by_cases h : b < a
    · have e : min a b = b := by omega
      rw [e]
      by_cases h' : c < b
      · have e' : min b c = c := by omega
        rw [e']
        simp [execOp, ho, resolve, invoke, builtin, h1, h2, h3, Builtin.min_, Builtin.min2, go_sem, h, h']
      · have e' : min b c = b := by omega
        rw [e']
        simp [execOp, ho, resolve, invoke, builtin, h1, h2, h3, Builtin.min_, Builtin.min2, go_sem, h, h']
    · have e : min a b = a := by omega
      rw [e]
      by_cases h' : c < a
      · have e' : min a c = c := by omega
        rw [e']
        simp [execOp, ho, resolve, invoke, builtin, h1, h2, h3, Builtin.min_, Builtin.min2, go_sem, h, h']
      · have e' : min a c = a := by omega
        rw [e']
        simp [execOp, ho, resolve, invoke, builtin, h1, h2, h3, Builtin.min_, Builtin.min2, go_sem, h, h']
end
end Go.Proofs.YtboddbheljenhaaGreatDoor
