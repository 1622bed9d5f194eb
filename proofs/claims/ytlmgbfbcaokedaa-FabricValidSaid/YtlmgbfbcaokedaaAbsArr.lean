/-
  A whole array that is loaded, by states. No program is named here.
-/
import Derived.Test.YtlmgbfbcaokedaaAbsQue
namespace Go.Proofs.Ytlmgbfbcaokedaa
open Go.RowKit
section
variable {P : Program} {k : Nat} {st : St} {o : Oper}
theorem opok_loadAll {t bt : TypeId} {p : Operand} {n kk m : Nat} {cs : List AVal} (ho : o.op = .load t p) (hp : st.aop p = .ptr n kk 0) (hn : st.obj n = some (kk, .box bt cs)) (ht : aggType P t = true) (hs : sizeIs P t m) (hl : cs.length = m) : OpOk P k st o ⟨.agg cs, [], [n], []⟩ :=
  opok_loadA ho hp hn ht hs (by simp only [AObj.cells, List.drop_zero, ← hl, List.take_length]) hl
end
end Go.Proofs.Ytlmgbfbcaokedaa
