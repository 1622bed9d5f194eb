/-
  A call that changes an object and makes a row, and the end of such a function, by states. No program is named here.
-/
import Derived.Test.YtddafnipfkeejaaAbsN
namespace Go.Proofs.Ytddafnipfkeejaa
open Go.RowKit
theorem ends_wm {P : Program} {fn : Func} {st : St} {objs' : Writes} {a n k len len' : Nat} {o o' ob ob' : AObj} (hr : fn.results = #[.tmp a]) (ha : st.get a = .own n k len) (h0 : st.obj 0 = some (0, ob)) (h1 : st.obj n = some (k, o))
    (hout : (objs'.filter fun x => x.2.isSome) = [(0, some (0, ob')), (1000, some (0, o'))]) (hl : len = len') (ho : o = o') (hob : ob = ob') (hne : (0 : Nat) ≠ n) (hp1 : ob'.pure = true) (hp2 : o'.pure = true) (hn : nodupB (objs'.map (·.1)) = true) {e : Exit} (he : e = .ret ∨ e = .normal) : Ends P fn (.own 1000 0 len') objs' e st := by
  subst ho; subst hob
  exact ends [(0, 0, 0, ob), (1000, n, k, o)] (res_one hr ha) (.one (.own _ _ _ _ _ _ hl (List.mem_cons_of_mem _ List.mem_cons_self))) (fun x h => by
    simp at h
    rcases h with rfl | rfl
    · exact h0
    · exact h1) hout hn (by simp [nodupB, hne]) (fun x h => by
    simp at h
    rcases h with rfl | rfl
    · exact hp1
    · exact hp2) rfl he
theorem runk_wm {P : Program} {k : Nat} {ops : Array Oper} {N : Nat} {draw : Bool} {K : St → Prop} {o : Oper} {os : List Oper} {env : List (Nat × AVal)} {objs : Writes} {acc : List Tr} {d : Nat} {x : Operand} {xs : Array Operand} {ats : Array TypeId} {f : FuncId} {fn : Func} {c : Code} {caps cargs : List AVal} {v0 v : AVal} {fo ob ob' : AObj} {n kk : Nat} (hg : o.guard = none) (hd : o.dst = some d)
    (ho : o.op = .call { callee := .value x, args := xs, argTypes := ats }) (hx : (⟨env, objs⟩ : St).aop x = .fn f caps) (hf : P.funcs[f]? = some fn) (hn : (fn.name == "runtime.NumGoroutine") = false) (hb : fn.body = some c)
    (hspec : Spec P f cargs [(0, some (0, ob))] v0 [(0, some (0, ob')), (1000, some (0, fo))]) (hr : Rens [(n, kk, 0, 0)] (xs.toList.map (⟨env, objs⟩ : St).aop ++ caps) cargs) (hobj : (⟨env, objs⟩ : St).obj n = some (kk, ob)) (hv : RenT [(0, 0, n, kk), (1000, 0, d, k)] v0 v) (hp : fo.pure = true) (hp1 : ob.pure = true) (hp2 : ob'.pure = true) (hne : (n != d) = true)
    (t : RunK P k ops N draw os ⟨(d, v) :: env, (n, some (kk, ob')) :: (d, some (k, fo)) :: objs⟩ (⟨v, [(n, some (kk, ob')), (d, some (k, fo))], [n, d], [d]⟩ :: acc) K) : RunK P k ops N draw (o :: os) ⟨env, objs⟩ acc K :=
  runk hg hd (opok_call (d := d) [⟨0, n, kk, ob, some ob'⟩] (some fo) ho hx hf hn hb hr hspec rfl hv (fun b h => by simp at h; subst h; exact hobj) (by simp [bindOk, hp, hp1, hp2, hne])) t
end Go.Proofs.Ytddafnipfkeejaa
