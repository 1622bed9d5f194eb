/-
  The length of a nil slice, by states. No program is named here.
-/
import Derived.Test.YtboddbheljenhaaGreatDoorG04
namespace Go.Proofs.YtboddbheljenhaaGreatDoor
open Go.RowKit
theorem opok_lenN {P : Program} {k : Nat} {st : St} {o : Oper} {x : Operand} {t e : TypeId} (ho : o.op = .call { callee := .builtin .len, args := #[x], argTypes := #[t] }) (hx : st.aop x = .val (.slice none 0 0)) (ht : P.underlying t = some (.slice e)) : OpOk P k st o ⟨.val (.int .i64 0), [], [], []⟩ :=
  opok_quiet fun ψ prot obj w ρ _ hr _ => by
    have h1 := (hx ▸ hr x (by simp [ho, Op.operands, Call.operands]) : VRel ψ prot w (.val (.slice none 0 0)) (ρ x)).val_eq
    exact ⟨.int .i64 0, by simp [execOp, ho, resolve, invoke, builtin, h1, Builtin.len_, run_underlying ht, goInt, Result.andThen], .val _⟩
end Go.Proofs.YtboddbheljenhaaGreatDoor
