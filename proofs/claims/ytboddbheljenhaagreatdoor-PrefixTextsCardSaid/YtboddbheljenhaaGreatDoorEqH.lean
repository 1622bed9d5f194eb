/-
  Addresses and prefixes compared by != and ==, with the answer as a hypothesis.
-/
import Derived.Test.YtboddbheljenhaaGreatDoorG17
namespace Go.Proofs.YtboddbheljenhaaGreatDoor
open Go.RowKit
section
variable {k : Nat} {st : St} {o : Oper}
theorem opok_eqQh {yt : TypeId} {x y : Operand} {v1 v2 : Bool} {h1 l1 h2 l2 : Int} {b : Bool} (ho : o.op = .binOp .eql 24 x y yt) (hx : st.aop x = .agg [.val (.bool v1), .val (.int .u64 h1), .val (.int .u64 l1)]) (hy : st.aop y = .agg [.val (.bool v2), .val (.int .u64 h2), .val (.int .u64 l2)]) (he : eqQ v1 h1 l1 v2 h2 l2 = b) :
    OpOk Tryz.prog k st o ⟨.val (.bool b), [], [], []⟩ := he ▸ opok_eqQd ho hx hy
theorem opok_neQh {yt : TypeId} {x y : Operand} {v1 v2 : Bool} {h1 l1 h2 l2 : Int} {b : Bool} (ho : o.op = .binOp .neq 24 x y yt) (hx : st.aop x = .agg [.val (.bool v1), .val (.int .u64 h1), .val (.int .u64 l1)]) (hy : st.aop y = .agg [.val (.bool v2), .val (.int .u64 h2), .val (.int .u64 l2)]) (he : (!eqQ v1 h1 l1 v2 h2 l2) = b) :
    OpOk Tryz.prog k st o ⟨.val (.bool b), [], [], []⟩ := he ▸ opok_neQd ho hx hy
theorem opok_nePh {yt : TypeId} {x y : Operand} {v1 v2 : Bool} {h1 l1 h2 l2 n1 n2 : Int} {b : Bool} (ho : o.op = .binOp .neq 26 x y yt) (hx : st.aop x = .agg [.val (.bool v1), .val (.int .u64 h1), .val (.int .u64 l1), .val (.int .i64 n1)]) (hy : st.aop y = .agg [.val (.bool v2), .val (.int .u64 h2), .val (.int .u64 l2), .val (.int .i64 n2)]) (he : (!eqP v1 h1 l1 n1 v2 h2 l2 n2) = b) :
    OpOk Tryz.prog k st o ⟨.val (.bool b), [], [], []⟩ := he ▸ opok_nePd ho hx hy
end
theorem eqP_self (v : Bool) (hi lo n : Int) : eqP v hi lo n v hi lo n = true := by with_unfolding_all simp [eqP, eqQ]
theorem eqQ_self (v : Bool) (hi lo : Int) : eqQ v hi lo v hi lo = true := by with_unfolding_all simp [eqQ]
theorem neP_self (v : Bool) (hi lo n : Int) : (!eqP v hi lo n v hi lo n) = false := by rw [eqP_self]; rfl
theorem neQ_self (v : Bool) (hi lo : Int) : (!eqQ v hi lo v hi lo) = false := by rw [eqQ_self]; rfl
end Go.Proofs.YtboddbheljenhaaGreatDoor
