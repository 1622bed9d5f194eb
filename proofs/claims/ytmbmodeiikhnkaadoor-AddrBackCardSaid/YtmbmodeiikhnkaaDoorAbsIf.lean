/-
  A value made an interface; the bytes of a text (a value) that nobody writes. No program is named here.
-/
import Derived.Test.YtmbmodeiikhnkaaDoorG06
import Derived.Test.YtmbmodeiikhnkaaDoorG04
namespace Go.Proofs.YtmbmodeiikhnkaaDoor
open Go.RowKit
theorem bints_range (l : List UInt8) : ∀ z ∈ bints l, 0 ≤ z ∧ z < 256 := by
  intro z hz
  obtain ⟨b, -, rfl⟩ := List.mem_map.1 hz
  have := b.toNat_lt
  omega
section
variable {P : Program} {k : Nat} {st : St} {o : Oper}
theorem opok_convL {s t e : TypeId} {x : Operand} {l : List UInt8} (ho : o.op = .convert s t x) (hx : st.aop x = .val (bstr l)) (hs : P.underlying s = some .string) (ht : P.underlying t = some (.slice e)) (he : P.underlying e = some (.int .u8)) : OpOk P k st o ⟨.ro (ints .u8 (bints l)), [], [], []⟩ := by
  rw [← strOf_bints] at hx
  exact opok_convB ho hx hs ht he (bints_range l)
theorem opok_mkIf {t : TypeId} {x : Operand} {kd kt : IntKind} {v : Int} (ho : o.op = .makeInterface t x) (hx : st.aop x = .val (.int kd v)) (ht : P.underlying t = some (.int kt)) : OpOk P k st o ⟨.val (.iface t (.int kd v)), [], [], []⟩ :=
  opok_quiet fun ψ prot obj w ρ _ hr _ => by
    have h1 := (hx ▸ hr x (by simp [ho, Op.operands]) : VRel ψ prot w (.val (.int kd v)) (ρ x)).val_eq
    exact ⟨.iface t (.int kd v), by simp [execOp, ho, h1, Instr.makeInterface, run_underlying ht, go_sem], .val _⟩
theorem opok_errNeV {t yt it : TypeId} {x y : Operand} {v : Value} (ho : o.op = .binOp .neq t x y yt) (hx : st.aop x = .val (.iface it v)) (hy : st.aop y = .val .nilIface) (ht : P.underlying t = some (.interface (P.methodsAt t))) : OpOk P k st o ⟨.val (.bool true), [], [], []⟩ :=
  opok_quiet fun ψ prot obj w ρ _ hr _ => by
    have h2 := (hy ▸ hr y (by simp [ho, Op.operands]) : VRel ψ prot w (.val .nilIface) (ρ y)).val_eq
    have hv := (hx ▸ hr x (by simp [ho, Op.operands]) : VRel ψ prot w (.val (.iface it v)) (ρ x)).val_eq
    have hb : (binOp .neq t (.iface it v) .nilIface).run P w = .ok (.bool true) w := run_neq_held_nil w t it v ht
    refine ⟨.bool true, ?_, .val _⟩
    simp only [execOp, ho, hv, h2, Sem.run_bind, eqGuard, Bool.not_true, Bool.false_eq_true, if_false, hb, Sem.run_pure, Result.andThen_ok]
end
end Go.Proofs.YtmbmodeiikhnkaaDoor
