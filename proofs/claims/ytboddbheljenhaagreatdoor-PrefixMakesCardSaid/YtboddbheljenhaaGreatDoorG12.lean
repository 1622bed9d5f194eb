/-
  A call that is given an object at any place. No program is named here.
-/
import Derived.Test.YtboddbheljenhaaGreatDoorG04
import Derived.Test.YtboddbheljenhaaGreatDoorPfm2
import Derived.Test.YtboddbheljenhaaGreatDoorAdz
namespace Go.Proofs.YtboddbheljenhaaGreatDoor
open Go.RowKit
theorem runk_withJ {P : Program} {k : Nat} {ops : Array Oper} {N : Nat} {draw : Bool} {K : St → Prop} {o : Oper} {os : List Oper} {env : List (Nat × AVal)} {objs : Writes} {acc : List Tr} {d : Nat} {x : Operand} {xs : Array Operand} {ats : Array TypeId} {f : FuncId} {fn : Func} {c : Code} {caps cargs : List AVal} {v : AVal} {ob ob' : AObj} {n kk j : Nat} (hg : o.guard = none) (hd : o.dst = some d)
    (ho : o.op = .call { callee := .value x, args := xs, argTypes := ats }) (hx : (⟨env, objs⟩ : St).aop x = .fn f caps) (hf : P.funcs[f]? = some fn) (hn : (fn.name == "runtime.NumGoroutine") = false) (hb : fn.body = some c)
    (hspec : Spec P f cargs [(j, some (0, ob))] v [(j, some (0, ob'))]) (hr : Rens [(n, kk, j, 0)] (xs.toList.map (⟨env, objs⟩ : St).aop ++ caps) cargs) (hobj : (⟨env, objs⟩ : St).obj n = some (kk, ob)) (hv : v.pure = true) (hp : ob.pure = true) (hp' : ob'.pure = true) (hj : (j < 1000) = true)
    (t : RunK P k ops N draw os ⟨(d, v) :: env, (n, some (kk, ob')) :: objs⟩ (⟨v, [(n, some (kk, ob'))], [n], []⟩ :: acc) K) : RunK P k ops N draw (o :: os) ⟨env, objs⟩ acc K :=
  runk hg hd (opok_call (d := d) [⟨j, n, kk, ob, some ob'⟩] none ho hx hf hn hb hr hspec rfl (.one (.pure _ hv)) (fun b h => by simp at h; subst h; exact hobj) (by simp [bindOk, hp, hp', hj])) t
end Go.Proofs.YtboddbheljenhaaGreatDoor
namespace Go.Proofs.YtboddbheljenhaaGreatDoor
open Go.RowKit
section
variable {P : Program} {st : St}
def resEval (tmps : Array Value) : ResultVar → Sem Value
  | .tmp t => pure (tmps.getD t undef)
  | .cell a t => do loadVar t (← asAddr (tmps.getD a undef))
def RV (P : Program) (st : St) (rv : ResultVar) (x : AVal) : Prop :=
  ∀ (ψ : Ghost) (prot : Nat → Prop) (w : World) (tmps : Array Value), RH ψ prot st.obj w → (∀ t, VRel ψ prot w (st.get t) (tmps.getD t undef)) → ∃ cv, (resEval tmps rv).run P w = .ok cv w ∧ VRel ψ prot w x cv
theorem rv_tmp {a : Nat} {x : AVal} (ha : st.get a = x) : RV P st (.tmp a) x := fun ψ prot w tmps _ h => ⟨tmps.getD a undef, rfl, ha ▸ h a⟩
theorem rv_cell {a : Nat} {t : TypeId} {n kk : Nat} {bt : TypeId} {cs : List AVal} (ha : st.get a = .ptr n kk 0) (hn : st.obj n = some (kk, .box bt cs)) (ht : aggType P t = true) (hs : sizeIs P t cs.length) : RV P st (.cell a t) (.agg cs) := fun ψ prot w tmps r h => by
  have h1 := h a
  rw [ha] at h1
  obtain ⟨b, cap, hv, h2⟩ := h1.ptr_inv
  obtain ⟨loc, h3, h4⟩ := r.live n kk _ hn
  rw [h2] at h3; injection h3 with h3; subst h3
  obtain ⟨b', vs, h0, hh, h5⟩ := h4
  injection h0 with h0; subst h0
  have hsz : (P.info? t).map (·.size) = some vs.toArray.size := by have := hs; unfold sizeIs at this; rw [this]; simp [h5.1]
  refine ⟨.agg vs.toArray, ?_, VRels.agg (by simpa using h5)⟩
  have q : (loadVar t ⟨b, 0, none⟩).run P w = .ok (.agg vs.toArray) w := by
    rcases aggType_spec ht with ⟨fs, hu⟩ | ⟨m, e, hu⟩
    · exact run_loadVar_row w b bt t vs.toArray (0, 0) _ hh hu rfl hsz
    · exact run_loadVar_row w b bt t vs.toArray (0, 0) _ hh hu rfl hsz
  simp only [resEval, hv, asAddr, Sem.run_bind, Sem.run_pure, Result.andThen_ok, q]
theorem res3 {fn : Func} {r1 r2 r3 : ResultVar} {x y z : AVal} (hr : fn.results = #[r1, r2, r3]) (h1 : RV P st r1 x) (h2 : RV P st r2 y) (h3 : RV P st r3 z) : ResOk P fn st (.tuple [x, y, z]) := fun ψ prot w tmps r h => by
  obtain ⟨c1, e1, g1⟩ := h1 ψ prot w tmps r h
  obtain ⟨c2, e2, g2⟩ := h2 ψ prot w tmps r h
  obtain ⟨c3, e3, g3⟩ := h3 ψ prot w tmps r h
  have e : results fn tmps = (do let vs ← #[r1, r2, r3].mapM (resEval tmps); pure (if h : vs.size = 1 then vs[0] else .tuple vs)) := by
    unfold results
    rw [hr]
    rfl
  refine ⟨.tuple #[c1, c2, c3], ?_, .tuple _ _ rfl fun i x v h1 h2 => ?_⟩
  · rw [e]
    simp [Sem.run_bind, e1, e2, e3, go_sem]
  · match i with
    | 0 => simp at h1 h2; subst h1; subst h2; exact g1
    | 1 => simp at h1 h2; subst h1; subst h2; exact g2
    | 2 => simp at h1 h2; subst h1; subst h2; exact g3
    | i + 3 => simp at h1
end
end Go.Proofs.YtboddbheljenhaaGreatDoor
namespace Go.Proofs.YtboddbheljenhaaGreatDoor
open Go.RowKit
end Go.Proofs.YtboddbheljenhaaGreatDoor
