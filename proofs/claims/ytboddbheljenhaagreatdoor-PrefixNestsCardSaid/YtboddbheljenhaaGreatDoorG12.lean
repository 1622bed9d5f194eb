/-
  Layer 2: the halves of a prefix. No walk.
-/
import Derived.Test.YtboddbheljenhaaGreatDoorG11
import Derived.Test.YtboddbheljenhaaGreatDoorG03
namespace Go.Proofs.YtboddbheljenhaaGreatDoor
open Go.RowKit
theorem bool_no {b : Bool} (h : b = true → False) : b = false := by
  cases b
  · rfl
  · exact (h rfl).elim
theorem inQ_nA {v : Bool} {hi lo : Int} {N : Nat} (p : POk v hi lo N) {hx lx : Int} (ax : AOk v hx lx) : inQ v hi lo N v hx lx = true ↔ nA hi lo ≤ nA hx lx ∧ nA hx lx ≤ nA hi lo + (2 ^ (wiN v - N) - 1) := by
  have l := lst_nA p.a p.n
  rw [p.h, p.l] at l
  rw [inQ_iff p, ← l, ← in_nA p.a p.n p.h p.l ax]
  have af := aok_first (N : Int) ax
  constructor
  · rintro ⟨-, e1, e2⟩
    rw [e1, e2]
  · intro h
    exact (eqA_key af p.a).2 ((nA_key _ _ _ _ _).2.2 h)
theorem pow_half {k : Nat} (h : 0 < k) : (2 : Int) ^ k = 2 * 2 ^ (k - 1) := by
  obtain ⟨j, rfl⟩ : ∃ j, k = j + 1 := ⟨k - 1, by omega⟩
  rw [Int.pow_succ, show j + 1 - 1 = j by omega]
  omega
theorem half_one {v : Bool} {hi lo : Int} {N : Nat} (p : POk v hi lo N) (h : N < wiN v) : POk v hi lo (N + 1) := by
  obtain ⟨e1, e2⟩ := fst_long p.a.hi0 p.a.lo0 (Nat.le_succ N) h p.h p.l
  exact ⟨p.a, h, e1, e2⟩
theorem half_two {v : Bool} {hi lo : Int} {N : Nat} (p : POk v hi lo N) (h : N < wiN v) : POk v (fstH v (lstH v hi N) ((N + 1 : Nat) : Int)) (fstL v (lstL v lo N) ((N + 1 : Nat) : Int)) (N + 1) :=
  ⟨aok_first _ (aok_last p.a p.n), h, fstH_idem _ _ _, fstL_idem _ _ _⟩
/-- What Contains answers of the halves of a prefix. -/
theorem half_in {v : Bool} {hi lo y1 y2 : Int} {N : Nat} (p : POk v hi lo N) (h : N < wiN v) (q : POk v y1 y2 (N + 1)) (e : nA y1 y2 = nA hi lo + 2 ^ (wiN v - N - 1)) :
    inQ v hi lo ((N + 1 : Nat) : Int) v y1 y2 = false ∧ inQ v y1 y2 ((N + 1 : Nat) : Int) v hi lo = false ∧ inQ v hi lo N v y1 y2 = true ∧ ∀ {vx : Bool} {hx lx : Int}, AOk vx hx lx → inQ v hi lo N vx hx lx = (inQ v hi lo ((N + 1 : Nat) : Int) vx hx lx || inQ v y1 y2 ((N + 1 : Nat) : Int) vx hx lx) := by
  have p1 := half_one p h
  have h2 := pow_half (k := wiN v - N) (by omega)
  have hp := two_pos (wiN v - N - 1)
  have hs : wiN v - (N + 1) = wiN v - N - 1 := by omega
  have a1 := inQ_nA p1 q.a
  have a2 := inQ_nA q p.a
  have a3 := inQ_nA p q.a
  rw [hs] at a1 a2
  rw [h2] at a3
  refine ⟨bool_no fun t => ?_, bool_no fun t => ?_, a3.2 ?_, fun {vx hx lx} ax => ?_⟩
  · have := a1.1 t; omega
  · have := a2.1 t; omega
  · omega
  · by_cases hv : vx = v
    · subst hv
      have b1 := inQ_nA p ax
      have b2 := inQ_nA p1 ax
      have b3 := inQ_nA q ax
      rw [h2] at b1
      rw [hs] at b2 b3
      rw [Bool.eq_iff_iff, Bool.or_eq_true, b1, b2, b3]
      omega
    · have f : ∀ (c d : Int) (M : Nat), inQ v c d M vx hx lx = false := fun c d M => by
        unfold inQ
        rw [show (vx == v) = false by simpa using hv, Bool.false_and]
      rw [f, f, f]
      rfl
theorem lst_POk {v : Bool} {hi lo : Int} {N : Nat} (p : POk v hi lo N) : nA (lstH v hi N) (lstL v lo N) = nA hi lo + (2 ^ (wiN v - N) - 1) := by
  have l := lst_nA p.a p.n
  rw [p.h, p.l] at l
  exact l
theorem nA_eq {v : Bool} {hi lo hi' lo' : Int} (a : AOk v hi lo) (b : AOk v hi' lo') (h : nA hi lo = nA hi' lo') : hi = hi' ∧ lo = lo' := ((eqA_key a b).2 ((nA_key _ _ _ _ _).2.2 h)).2
/-- A prefix as long as can be: its last address is its own. -/
theorem last_own {v : Bool} {hi lo : Int} {N : Nat} (p : POk v hi lo N) (h : N = wiN v) : lstH v hi N = hi ∧ lstL v lo N = lo :=
  nA_eq (aok_last p.a p.n) p.a (by rw [lst_POk p, h, Nat.sub_self]; simp)
/-- The order of the halves, their last addresses, and what follows the first half. -/
theorem half_last {v : Bool} {hi lo y1 y2 : Int} {N : Nat} (p : POk v hi lo N) (h : N < wiN v) (q : POk v y1 y2 (N + 1)) (e : nA y1 y2 = nA hi lo + 2 ^ (wiN v - N - 1)) :
    cmpA v hi lo v y1 y2 = -1 ∧ (lstH v y1 ((N + 1 : Nat) : Int) = lstH v hi N ∧ lstL v y2 ((N + 1 : Nat) : Int) = lstL v lo N) ∧ nextA v (lstH v hi ((N + 1 : Nat) : Int)) (lstL v lo ((N + 1 : Nat) : Int)) = (v, y1, y2, true) := by
  have p1 := half_one p h
  have h2 := pow_half (k := wiN v - N) (by omega)
  have hp := two_pos (wiN v - N - 1)
  have hs : wiN v - (N + 1) = wiN v - N - 1 := by omega
  have l0 := lst_POk p
  have l1 := lst_POk p1
  have l2 := lst_POk q
  rw [hs] at l1 l2
  rw [h2] at l0
  have al1 := aok_last p1.a p1.n
  refine ⟨?_, nA_eq (aok_last q.a q.n) (aok_last p.a p.n) (by omega), ?_⟩
  · rcases cmpA_key p.a q.a with ⟨c, o⟩ | ⟨c, o⟩ | ⟨c, o⟩
    · exact c
    · have := (nA_key v hi lo y1 y2).2.1 o; omega
    · have := (nA_key v y1 y2 hi lo).1.1 o; omega
  · rcases nextA_cases al1 with ⟨-, g⟩ | ⟨hn, ln, c, an, hsum⟩
    · exfalso
      have b := q.a
      obtain ⟨b0, b1, b2, b3, b4⟩ := b
      unfold nA at e l1
      rcases g with ⟨g0, g1, g2⟩ | ⟨g0, g1⟩
      · rw [g1, g2] at l1
        omega
      · have := b4 g0
        have := (p.a.four g0).1
        have := (al1.four g0).1
        omega
    · rw [c]
      obtain ⟨r1, r2⟩ := nA_eq an q.a (by unfold nA at *; omega)
      rw [r1, r2]
end Go.Proofs.YtboddbheljenhaaGreatDoor
namespace Go.Proofs.YtboddbheljenhaaGreatDoor
open Go.RowKit
theorem runk_withJ {P : Program} {k : Nat} {ops : Array Oper} {N : Nat} {draw : Bool} {K : St → Prop} {o : Oper} {os : List Oper} {env : List (Nat × AVal)} {objs : Writes} {acc : List Tr} {d : Nat} {x : Operand} {xs : Array Operand} {ats : Array TypeId} {f : FuncId} {fn : Func} {c : Code} {caps cargs : List AVal} {v : AVal} {ob ob' : AObj} {n kk j : Nat} (hg : o.guard = none) (hd : o.dst = some d)
    (ho : o.op = .call { callee := .value x, args := xs, argTypes := ats }) (hx : (⟨env, objs⟩ : St).aop x = .fn f caps) (hf : P.funcs[f]? = some fn) (hn : (fn.name == "runtime.NumGoroutine") = false) (hb : fn.body = some c)
    (hspec : Spec P f cargs [(j, some (0, ob))] v [(j, some (0, ob'))]) (hr : Rens [(n, kk, j, 0)] (xs.toList.map (⟨env, objs⟩ : St).aop ++ caps) cargs) (hobj : (⟨env, objs⟩ : St).obj n = some (kk, ob)) (hv : v.pure = true) (hp : ob.pure = true) (hp' : ob'.pure = true) (hj : (j < 1000) = true)
    (t : RunK P k ops N draw os ⟨(d, v) :: env, (n, some (kk, ob')) :: objs⟩ (⟨v, [(n, some (kk, ob'))], [n], []⟩ :: acc) K) : RunK P k ops N draw (o :: os) ⟨env, objs⟩ acc K :=
  runk hg hd (opok_call (d := d) [⟨j, n, kk, ob, some ob'⟩] none ho hx hf hn hb hr hspec rfl (.one (.pure _ hv)) (fun b h => by simp at h; subst h; exact hobj) (by simp [bindOk, hp, hp', hj])) t
end Go.Proofs.YtboddbheljenhaaGreatDoor
namespace Go.Proofs.YtboddbheljenhaaGreatDoor
open Go.RowKit
section
variable {P : Program} {st : St}
def resEval (tmps : Array Value) : ResultVar → Sem Value
  | .tmp t => pure (tmps.getD t undef)
  | .cell a t => do loadVar t (← asAddr (tmps.getD a undef))
def RV (P : Program) (st : St) (rv : ResultVar) (x : AVal) : Prop :=
  ∀ (ψ : Ghost) (prot : Nat → Prop) (w : World) (tmps : Array Value), RH ψ prot st.obj w → (∀ t, VRel ψ prot w (st.get t) (tmps.getD t undef)) → ∃ cv, (resEval tmps rv).run P w = .ok cv w ∧ VRel ψ prot w x cv
theorem rv_tmp {a : Nat} {x : AVal} (ha : st.get a = x) : RV P st (.tmp a) x := fun ψ prot w tmps _ h => ⟨tmps.getD a undef, rfl, ha ▸ h a⟩
theorem rv_cell {a : Nat} {t : TypeId} {n kk : Nat} {bt : TypeId} {cs : List AVal} (ha : st.get a = .ptr n kk 0) (hn : st.obj n = some (kk, .box bt cs)) (ht : aggType P t = true) (hs : sizeIs P t cs.length) : RV P st (.cell a t) (.agg cs) := fun ψ prot w tmps r h => by
  have h1 := h a
  rw [ha] at h1
  obtain ⟨b, cap, hv, h2⟩ := h1.ptr_inv
  obtain ⟨loc, h3, h4⟩ := r.live n kk _ hn
  rw [h2] at h3; injection h3 with h3; subst h3
  obtain ⟨b', vs, h0, hh, h5⟩ := h4
  injection h0 with h0; subst h0
  have hsz : (P.info? t).map (·.size) = some vs.toArray.size := by have := hs; unfold sizeIs at this; rw [this]; simp [h5.1]
  refine ⟨.agg vs.toArray, ?_, VRels.agg (by simpa using h5)⟩
  have q : (loadVar t ⟨b, 0, none⟩).run P w = .ok (.agg vs.toArray) w := by
    rcases aggType_spec ht with ⟨fs, hu⟩ | ⟨m, e, hu⟩
    · exact run_loadVar_row w b bt t vs.toArray (0, 0) _ hh hu rfl hsz
    · exact run_loadVar_row w b bt t vs.toArray (0, 0) _ hh hu rfl hsz
  simp only [resEval, hv, asAddr, Sem.run_bind, Sem.run_pure, Result.andThen_ok, q]
theorem res3 {fn : Func} {r1 r2 r3 : ResultVar} {x y z : AVal} (hr : fn.results = #[r1, r2, r3]) (h1 : RV P st r1 x) (h2 : RV P st r2 y) (h3 : RV P st r3 z) : ResOk P fn st (.tuple [x, y, z]) := fun ψ prot w tmps r h => by
  obtain ⟨c1, e1, g1⟩ := h1 ψ prot w tmps r h
  obtain ⟨c2, e2, g2⟩ := h2 ψ prot w tmps r h
  obtain ⟨c3, e3, g3⟩ := h3 ψ prot w tmps r h
  have e : results fn tmps = (do let vs ← #[r1, r2, r3].mapM (resEval tmps); pure (if h : vs.size = 1 then vs[0] else .tuple vs)) := by
    unfold results
    rw [hr]
    rfl
  refine ⟨.tuple #[c1, c2, c3], ?_, .tuple _ _ rfl fun i x v h1 h2 => ?_⟩
  · rw [e]
    simp [Sem.run_bind, e1, e2, e3, go_sem]
  · match i with
    | 0 => simp at h1 h2; subst h1; subst h2; exact g1
    | 1 => simp at h1 h2; subst h1; subst h2; exact g2
    | 2 => simp at h1 h2; subst h1; subst h2; exact g3
    | i + 3 => simp at h1
end
end Go.Proofs.YtboddbheljenhaaGreatDoor
