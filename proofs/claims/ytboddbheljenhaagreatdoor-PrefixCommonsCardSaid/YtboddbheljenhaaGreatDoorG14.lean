/-
  Layer 2: the longest prefix that covers two. No walk.
-/
import Derived.Test.YtboddbheljenhaaGreatDoorG13
import Derived.Test.YtboddbheljenhaaGreatDoorG10
import Derived.Test.YtboddbheljenhaaGreatDoorG04
namespace Go.Proofs.YtboddbheljenhaaGreatDoor
open Go.RowKit
def comN (v : Bool) (hi lo : Int) (N : Nat) (hi' lo' : Int) (N' : Nat) : Nat := min (min N N') (agN v hi lo hi' lo')
section
variable {v : Bool} {hi lo hi' lo' : Int} {N N' n : Nat}
theorem com_ok (p : POk v hi lo N) (hn : n ≤ N) : POk v (fstH v hi n) (fstL v lo n) n :=
  ⟨aok_first _ p.a, Nat.le_trans hn p.n, fstH_idem _ _ _, fstL_idem _ _ _⟩
theorem com_in (p : POk v hi lo N) (hn : n ≤ N) : inQ v (fstH v hi n) (fstL v lo n) n v hi lo = true :=
  (inQ_iff (com_ok p hn) _ _ _).2 ⟨rfl, rfl, rfl⟩
theorem com_in' (p : POk v hi lo N) (q : POk v hi' lo' N') (hn : n ≤ N) (ha : n ≤ agN v hi lo hi' lo') : inQ v (fstH v hi n) (fstL v lo n) n v hi' lo' = true := by
  obtain ⟨e1, e2⟩ := (ag_iff p.a q.a (Nat.le_trans hn p.n)).1 ha
  exact (inQ_iff (com_ok p hn) _ _ _).2 ⟨rfl, e1.symm, e2.symm⟩
/-- No longer prefix covers both. -/
theorem com_most (p : POk v hi lo N) (q : POk v hi' lo' N') (hn : n = comN v hi lo N hi' lo' N') {y1 y2 : Int} (y : POk v y1 y2 (n + 1)) (h1 : (decide (n + 1 ≤ N) && inQ v y1 y2 ((n + 1 : Nat) : Int) v hi lo) = true) (h2 : (decide (n + 1 ≤ N') && inQ v y1 y2 ((n + 1 : Nat) : Int) v hi' lo') = true) : False := by
  rw [Bool.and_eq_true, decide_eq_true_iff, inQ_iff y] at h1 h2
  obtain ⟨a1, -, a2, a3⟩ := h1
  obtain ⟨b1, -, b2, b3⟩ := h2
  have := (ag_iff p.a q.a y.n).2 ⟨by rw [a2, b2], by rw [a3, b3]⟩
  unfold comN at hn
  omega
theorem com_eq (p : POk v hi lo N) (q : POk v hi' lo' N') (hn : n = comN v hi lo N hi' lo' N') : eqP v (fstH v hi n) (fstL v lo n) n v hi lo N = (decide (N ≤ N') && inQ v hi lo N v hi' lo') := by
  have i := inQ_iff p v hi' lo'
  have g := ag_iff p.a q.a p.n
  rw [p.h, p.l] at g
  unfold comN at hn
  rw [Bool.eq_iff_iff, Bool.and_eq_true, decide_eq_true_iff, i]
  unfold eqP eqQ
  simp only [beq_self_eq_true, Bool.true_and, Bool.and_eq_true, beq_iff_eq, true_and]
  constructor
  · rintro ⟨-, h⟩
    have : n = N := by omega
    obtain ⟨e1, e2⟩ := g.1 (by omega)
    exact ⟨by omega, e1.symm, e2.symm⟩
  · rintro ⟨h1, h2, h3⟩
    have : N ≤ agN v hi lo hi' lo' := g.2 ⟨h2.symm, h3.symm⟩
    have e : n = N := by omega
    rw [e]
    exact ⟨⟨p.h, p.l⟩, rfl⟩
theorem com_eq' (p : POk v hi lo N) (q : POk v hi' lo' N') (hn : n = comN v hi lo N hi' lo' N') : eqP v (fstH v hi n) (fstL v lo n) n v hi' lo' N' = (decide (N' ≤ N) && inQ v hi' lo' N' v hi lo) := by
  have i := inQ_iff q v hi lo
  have g := ag_iff p.a q.a q.n
  rw [q.h, q.l] at g
  unfold comN at hn
  rw [Bool.eq_iff_iff, Bool.and_eq_true, decide_eq_true_iff, i]
  unfold eqP eqQ
  simp only [beq_self_eq_true, Bool.true_and, Bool.and_eq_true, beq_iff_eq, true_and]
  constructor
  · rintro ⟨-, h⟩
    have : n = N' := by omega
    obtain ⟨e1, e2⟩ := g.1 (by omega)
    exact ⟨by omega, e1, e2⟩
  · rintro ⟨h1, h2, h3⟩
    have : N' ≤ agN v hi lo hi' lo' := g.2 ⟨h2, h3⟩
    have e : n = N' := by omega
    rw [e]
    exact ⟨⟨h2, h3⟩, rfl⟩
/-- The order of the common prefix and one of the two. -/
theorem com_cmp (p : POk v hi lo N) (hn : n ≤ N) (he : eqP v (fstH v hi n) (fstL v lo n) n v hi lo N = false) : orZ (cmpA v (fstH v hi n) (fstL v lo n) v hi lo) (cmpZ (n : Int) (N : Int)) = -1 := by
  have c := com_ok p hn
  have f := fst_nA p.a (Nat.le_trans hn p.n)
  have hp := two_pos (wiN v - n)
  have hm := Int.emod_nonneg (nA hi lo) (show (2 : Int) ^ (wiN v - n) ≠ 0 by omega)
  rcases cmpA_key c.a p.a with ⟨e, o⟩ | ⟨e, o⟩ | ⟨e, o⟩
  · rw [e]; rfl
  · rw [e]
    obtain ⟨e1, e2⟩ := nA_eq c.a p.a ((nA_key _ _ _ _ _).2.1 o)
    have hlt : n < N := by
      rcases Nat.lt_or_ge n N with h | h
      · exact h
      · exfalso
        have e3 : n = N := by omega
        rw [e1, e2, e3] at he
        simp [eqP, eqQ] at he
    have : cmpZ (n : Int) (N : Int) = -1 := by
      unfold cmpZ
      rw [decide_eq_true (by omega)]
      rfl
    rw [this]
    rfl
  · exfalso
    have := (nA_key v hi lo (fstH v hi n) (fstL v lo n)).1.1 o
    omega
end
end Go.Proofs.YtboddbheljenhaaGreatDoor
namespace Go.Proofs.YtboddbheljenhaaGreatDoor
open Go.RowKit
theorem runk_withJ {P : Program} {k : Nat} {ops : Array Oper} {N : Nat} {draw : Bool} {K : St → Prop} {o : Oper} {os : List Oper} {env : List (Nat × AVal)} {objs : Writes} {acc : List Tr} {d : Nat} {x : Operand} {xs : Array Operand} {ats : Array TypeId} {f : FuncId} {fn : Func} {c : Code} {caps cargs : List AVal} {v : AVal} {ob ob' : AObj} {n kk j : Nat} (hg : o.guard = none) (hd : o.dst = some d)
    (ho : o.op = .call { callee := .value x, args := xs, argTypes := ats }) (hx : (⟨env, objs⟩ : St).aop x = .fn f caps) (hf : P.funcs[f]? = some fn) (hn : (fn.name == "runtime.NumGoroutine") = false) (hb : fn.body = some c)
    (hspec : Spec P f cargs [(j, some (0, ob))] v [(j, some (0, ob'))]) (hr : Rens [(n, kk, j, 0)] (xs.toList.map (⟨env, objs⟩ : St).aop ++ caps) cargs) (hobj : (⟨env, objs⟩ : St).obj n = some (kk, ob)) (hv : v.pure = true) (hp : ob.pure = true) (hp' : ob'.pure = true) (hj : (j < 1000) = true)
    (t : RunK P k ops N draw os ⟨(d, v) :: env, (n, some (kk, ob')) :: objs⟩ (⟨v, [(n, some (kk, ob'))], [n], []⟩ :: acc) K) : RunK P k ops N draw (o :: os) ⟨env, objs⟩ acc K :=
  runk hg hd (opok_call (d := d) [⟨j, n, kk, ob, some ob'⟩] none ho hx hf hn hb hr hspec rfl (.one (.pure _ hv)) (fun b h => by simp at h; subst h; exact hobj) (by simp [bindOk, hp, hp', hj])) t
end Go.Proofs.YtboddbheljenhaaGreatDoor
namespace Go.Proofs.YtboddbheljenhaaGreatDoor
open Go.RowKit
section
variable {P : Program} {st : St}
def resEval (tmps : Array Value) : ResultVar → Sem Value
  | .tmp t => pure (tmps.getD t undef)
  | .cell a t => do loadVar t (← asAddr (tmps.getD a undef))
def RV (P : Program) (st : St) (rv : ResultVar) (x : AVal) : Prop :=
  ∀ (ψ : Ghost) (prot : Nat → Prop) (w : World) (tmps : Array Value), RH ψ prot st.obj w → (∀ t, VRel ψ prot w (st.get t) (tmps.getD t undef)) → ∃ cv, (resEval tmps rv).run P w = .ok cv w ∧ VRel ψ prot w x cv
theorem rv_tmp {a : Nat} {x : AVal} (ha : st.get a = x) : RV P st (.tmp a) x := fun ψ prot w tmps _ h => ⟨tmps.getD a undef, rfl, ha ▸ h a⟩
theorem rv_cell {a : Nat} {t : TypeId} {n kk : Nat} {bt : TypeId} {cs : List AVal} (ha : st.get a = .ptr n kk 0) (hn : st.obj n = some (kk, .box bt cs)) (ht : aggType P t = true) (hs : sizeIs P t cs.length) : RV P st (.cell a t) (.agg cs) := fun ψ prot w tmps r h => by
  have h1 := h a
  rw [ha] at h1
  obtain ⟨b, cap, hv, h2⟩ := h1.ptr_inv
  obtain ⟨loc, h3, h4⟩ := r.live n kk _ hn
  rw [h2] at h3; injection h3 with h3; subst h3
  obtain ⟨b', vs, h0, hh, h5⟩ := h4
  injection h0 with h0; subst h0
  have hsz : (P.info? t).map (·.size) = some vs.toArray.size := by have := hs; unfold sizeIs at this; rw [this]; simp [h5.1]
  refine ⟨.agg vs.toArray, ?_, VRels.agg (by simpa using h5)⟩
  have q : (loadVar t ⟨b, 0, none⟩).run P w = .ok (.agg vs.toArray) w := by
    rcases aggType_spec ht with ⟨fs, hu⟩ | ⟨m, e, hu⟩
    · exact run_loadVar_row w b bt t vs.toArray (0, 0) _ hh hu rfl hsz
    · exact run_loadVar_row w b bt t vs.toArray (0, 0) _ hh hu rfl hsz
  simp only [resEval, hv, asAddr, Sem.run_bind, Sem.run_pure, Result.andThen_ok, q]
theorem res3 {fn : Func} {r1 r2 r3 : ResultVar} {x y z : AVal} (hr : fn.results = #[r1, r2, r3]) (h1 : RV P st r1 x) (h2 : RV P st r2 y) (h3 : RV P st r3 z) : ResOk P fn st (.tuple [x, y, z]) := fun ψ prot w tmps r h => by
  obtain ⟨c1, e1, g1⟩ := h1 ψ prot w tmps r h
  obtain ⟨c2, e2, g2⟩ := h2 ψ prot w tmps r h
  obtain ⟨c3, e3, g3⟩ := h3 ψ prot w tmps r h
  have e : results fn tmps = (do let vs ← #[r1, r2, r3].mapM (resEval tmps); pure (if h : vs.size = 1 then vs[0] else .tuple vs)) := by
    unfold results
    rw [hr]
    rfl
  refine ⟨.tuple #[c1, c2, c3], ?_, .tuple _ _ rfl fun i x v h1 h2 => ?_⟩
  · rw [e]
    simp [Sem.run_bind, e1, e2, e3, go_sem]
  · match i with
    | 0 => simp at h1 h2; subst h1; subst h2; exact g1
    | 1 => simp at h1 h2; subst h1; subst h2; exact g2
    | 2 => simp at h1 h2; subst h1; subst h2; exact g3
    | i + 3 => simp at h1
end
end Go.Proofs.YtboddbheljenhaaGreatDoor
