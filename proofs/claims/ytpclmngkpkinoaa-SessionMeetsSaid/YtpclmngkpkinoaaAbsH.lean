/-
  A call that is given an object at any place. No program is named here.
-/
import Derived.Test.YtpclmngkpkinoaaAbsG
namespace Go.Proofs.Ytpclmngkpkinoaa
open Go.RowKit
theorem runk_withJ {P : Program} {k : Nat} {ops : Array Oper} {N : Nat} {draw : Bool} {K : St → Prop} {o : Oper} {os : List Oper} {env : List (Nat × AVal)} {objs : Writes} {acc : List Tr} {d : Nat} {x : Operand} {xs : Array Operand} {ats : Array TypeId} {f : FuncId} {fn : Func} {c : Code} {caps cargs : List AVal} {v : AVal} {ob ob' : AObj} {n kk j : Nat} (hg : o.guard = none) (hd : o.dst = some d)
    (ho : o.op = .call { callee := .value x, args := xs, argTypes := ats }) (hx : (⟨env, objs⟩ : St).aop x = .fn f caps) (hf : P.funcs[f]? = some fn) (hn : (fn.name == "runtime.NumGoroutine") = false) (hb : fn.body = some c)
    (hspec : Spec P f cargs [(j, some (0, ob))] v [(j, some (0, ob'))]) (hr : Rens [(n, kk, j, 0)] (xs.toList.map (⟨env, objs⟩ : St).aop ++ caps) cargs) (hobj : (⟨env, objs⟩ : St).obj n = some (kk, ob)) (hv : v.pure = true) (hp : ob.pure = true) (hp' : ob'.pure = true) (hj : (j < 1000) = true)
    (t : RunK P k ops N draw os ⟨(d, v) :: env, (n, some (kk, ob')) :: objs⟩ (⟨v, [(n, some (kk, ob'))], [n], []⟩ :: acc) K) : RunK P k ops N draw (o :: os) ⟨env, objs⟩ acc K :=
  runk hg hd (opok_call (d := d) [⟨j, n, kk, ob, some ob'⟩] none ho hx hf hn hb hr hspec rfl (.one (.pure _ hv)) (fun b h => by simp at h; subst h; exact hobj) (by simp [bindOk, hp, hp', hj])) t
end Go.Proofs.Ytpclmngkpkinoaa
