/-
  Layer 2: leading bits in common, bit by bit; the second half by one bit. No walk.
-/
import Derived.Test.YtboddbheljenhaaGreatDoorG15
import Derived.Test.YtboddbheljenhaaGreatDoorG04
namespace Go.Proofs.YtboddbheljenhaaGreatDoor
open Go.RowKit
theorem fst_eq_iff {v : Bool} {hi lo hi' lo' : Int} {k : Nat} (a : AOk v hi lo) (b : AOk v hi' lo') (hk : k ≤ wiN v) :
    (fstH v hi k = fstH v hi' k ∧ fstL v lo k = fstL v lo' k) ↔ nA hi lo / 2 ^ (wiN v - k) = nA hi' lo' / 2 ^ (wiN v - k) := by
  have fa := fst_nA a hk
  have fb := fst_nA b hk
  have hp := two_pos (wiN v - k)
  have ea := Int.emod_add_mul_ediv (nA hi lo) (2 ^ (wiN v - k))
  have eb := Int.emod_add_mul_ediv (nA hi' lo') (2 ^ (wiN v - k))
  constructor
  · rintro ⟨h1, h2⟩
    rw [h1, h2, fb] at fa
    exact Int.eq_of_mul_eq_mul_left (by omega) (show (2 : Int) ^ (wiN v - k) * _ = 2 ^ (wiN v - k) * _ by omega)
  · intro h
    rw [h] at ea
    exact nA_eq (aok_first _ a) (aok_first _ b) (by omega)
theorem ediv_two (A : Int) (k : Nat) : A / 2 ^ k = 2 * (A / 2 ^ (k + 1)) + A / 2 ^ k % 2 := by
  have hp := two_pos k
  rw [Int.pow_succ, ← Int.ediv_ediv_of_nonneg (by omega)]
  omega
/-- One more leading bit in common. -/
theorem ag_bit {v : Bool} {hi lo hi' lo' : Int} {i : Nat} (a : AOk v hi lo) (b : AOk v hi' lo') (h : i < wiN v) : i + 1 ≤ agN v hi lo hi' lo' ↔ i ≤ agN v hi lo hi' lo' ∧ bitA v hi lo i = bitA v hi' lo' i := by
  rw [ag_iff a b h, ag_iff a b (Nat.le_of_lt h), fst_eq_iff a b h, fst_eq_iff a b (Nat.le_of_lt h), bit_nA a h, bit_nA b h]
  have e1 : wiN v - (i + 1) = wiN v - 1 - i := by omega
  have e2 : wiN v - i = wiN v - 1 - i + 1 := by omega
  rw [e1, e2]
  have ea := ediv_two (nA hi lo) (wiN v - 1 - i)
  have eb := ediv_two (nA hi' lo') (wiN v - 1 - i)
  have ma : nA hi lo / 2 ^ (wiN v - 1 - i) % 2 = 0 ∨ nA hi lo / 2 ^ (wiN v - 1 - i) % 2 = 1 := by omega
  have mb : nA hi' lo' / 2 ^ (wiN v - 1 - i) % 2 = 0 ∨ nA hi' lo' / 2 ^ (wiN v - 1 - i) % 2 = 1 := by omega
  constructor
  · intro h
    exact ⟨by omega, by rw [h]⟩
  · rintro ⟨h1, h2⟩
    omega
/-- A bit set that was not. -/
theorem or_bit {X k : Nat} (h : X % 2 ^ (k + 1) = 0) : X ||| 2 ^ k = X + 2 ^ k := by
  have e : X = 2 ^ (k + 1) * (X / 2 ^ (k + 1)) := by have := Nat.div_add_mod X (2 ^ (k + 1)); omega
  have hl : 2 ^ k < 2 ^ (k + 1) := Nat.pow_lt_pow_right (by decide) (Nat.lt_succ_self k)
  rw [e, Nat.two_pow_add_eq_or_of_lt hl]
theorem or_bit_test (X k t : Nat) : (X ||| 2 ^ k).testBit t = (X.testBit t || decide (t = k)) := by
  rw [Nat.testBit_or, Nat.testBit_two_pow]
  congr 1
  rw [decide_eq_decide]
  omega
/-- The number of the second half. -/
theorem half_num {v : Bool} {hi lo : Int} {N m X : Nat} (p : POk v hi lo N) (h : N < wiN v) (hw : wiN v = 8 * m) (hX : (X : Int) = nA hi lo) :
    ((X ||| 2 ^ (8 * m - 1 - N) : Nat) : Int) = nA (fstH v (lstH v hi N) ((N + 1 : Nat) : Int)) (fstL v (lstL v lo N) ((N + 1 : Nat) : Int)) := by
  rw [half_nA p.a h p.h p.l]
  have f := fst_nA p.a p.n
  rw [p.h, p.l] at f
  have h0 : nA hi lo % 2 ^ (wiN v - N) = 0 := by omega
  rw [hw, ← hX, ← cast_pow, ← Int.natCast_emod, show 8 * m - N = 8 * m - 1 - N + 1 by omega] at h0
  rw [or_bit (by omega), Int.natCast_add, cast_pow, hX, hw, show 8 * m - N - 1 = 8 * m - 1 - N by omega]
end Go.Proofs.YtboddbheljenhaaGreatDoor
namespace Go.Proofs.YtboddbheljenhaaGreatDoor
open Go.RowKit
theorem runk_withJ {P : Program} {k : Nat} {ops : Array Oper} {N : Nat} {draw : Bool} {K : St → Prop} {o : Oper} {os : List Oper} {env : List (Nat × AVal)} {objs : Writes} {acc : List Tr} {d : Nat} {x : Operand} {xs : Array Operand} {ats : Array TypeId} {f : FuncId} {fn : Func} {c : Code} {caps cargs : List AVal} {v : AVal} {ob ob' : AObj} {n kk j : Nat} (hg : o.guard = none) (hd : o.dst = some d)
    (ho : o.op = .call { callee := .value x, args := xs, argTypes := ats }) (hx : (⟨env, objs⟩ : St).aop x = .fn f caps) (hf : P.funcs[f]? = some fn) (hn : (fn.name == "runtime.NumGoroutine") = false) (hb : fn.body = some c)
    (hspec : Spec P f cargs [(j, some (0, ob))] v [(j, some (0, ob'))]) (hr : Rens [(n, kk, j, 0)] (xs.toList.map (⟨env, objs⟩ : St).aop ++ caps) cargs) (hobj : (⟨env, objs⟩ : St).obj n = some (kk, ob)) (hv : v.pure = true) (hp : ob.pure = true) (hp' : ob'.pure = true) (hj : (j < 1000) = true)
    (t : RunK P k ops N draw os ⟨(d, v) :: env, (n, some (kk, ob')) :: objs⟩ (⟨v, [(n, some (kk, ob'))], [n], []⟩ :: acc) K) : RunK P k ops N draw (o :: os) ⟨env, objs⟩ acc K :=
  runk hg hd (opok_call (d := d) [⟨j, n, kk, ob, some ob'⟩] none ho hx hf hn hb hr hspec rfl (.one (.pure _ hv)) (fun b h => by simp at h; subst h; exact hobj) (by simp [bindOk, hp, hp', hj])) t
end Go.Proofs.YtboddbheljenhaaGreatDoor
namespace Go.Proofs.YtboddbheljenhaaGreatDoor
open Go.RowKit
section
variable {P : Program} {st : St}
def resEval (tmps : Array Value) : ResultVar → Sem Value
  | .tmp t => pure (tmps.getD t undef)
  | .cell a t => do loadVar t (← asAddr (tmps.getD a undef))
def RV (P : Program) (st : St) (rv : ResultVar) (x : AVal) : Prop :=
  ∀ (ψ : Ghost) (prot : Nat → Prop) (w : World) (tmps : Array Value), RH ψ prot st.obj w → (∀ t, VRel ψ prot w (st.get t) (tmps.getD t undef)) → ∃ cv, (resEval tmps rv).run P w = .ok cv w ∧ VRel ψ prot w x cv
theorem rv_tmp {a : Nat} {x : AVal} (ha : st.get a = x) : RV P st (.tmp a) x := fun ψ prot w tmps _ h => ⟨tmps.getD a undef, rfl, ha ▸ h a⟩
theorem rv_cell {a : Nat} {t : TypeId} {n kk : Nat} {bt : TypeId} {cs : List AVal} (ha : st.get a = .ptr n kk 0) (hn : st.obj n = some (kk, .box bt cs)) (ht : aggType P t = true) (hs : sizeIs P t cs.length) : RV P st (.cell a t) (.agg cs) := fun ψ prot w tmps r h => by
  have h1 := h a
  rw [ha] at h1
  obtain ⟨b, cap, hv, h2⟩ := h1.ptr_inv
  obtain ⟨loc, h3, h4⟩ := r.live n kk _ hn
  rw [h2] at h3; injection h3 with h3; subst h3
  obtain ⟨b', vs, h0, hh, h5⟩ := h4
  injection h0 with h0; subst h0
  have hsz : (P.info? t).map (·.size) = some vs.toArray.size := by have := hs; unfold sizeIs at this; rw [this]; simp [h5.1]
  refine ⟨.agg vs.toArray, ?_, VRels.agg (by simpa using h5)⟩
  have q : (loadVar t ⟨b, 0, none⟩).run P w = .ok (.agg vs.toArray) w := by
    rcases aggType_spec ht with ⟨fs, hu⟩ | ⟨m, e, hu⟩
    · exact run_loadVar_row w b bt t vs.toArray (0, 0) _ hh hu rfl hsz
    · exact run_loadVar_row w b bt t vs.toArray (0, 0) _ hh hu rfl hsz
  simp only [resEval, hv, asAddr, Sem.run_bind, Sem.run_pure, Result.andThen_ok, q]
theorem res3 {fn : Func} {r1 r2 r3 : ResultVar} {x y z : AVal} (hr : fn.results = #[r1, r2, r3]) (h1 : RV P st r1 x) (h2 : RV P st r2 y) (h3 : RV P st r3 z) : ResOk P fn st (.tuple [x, y, z]) := fun ψ prot w tmps r h => by
  obtain ⟨c1, e1, g1⟩ := h1 ψ prot w tmps r h
  obtain ⟨c2, e2, g2⟩ := h2 ψ prot w tmps r h
  obtain ⟨c3, e3, g3⟩ := h3 ψ prot w tmps r h
  have e : results fn tmps = (do let vs ← #[r1, r2, r3].mapM (resEval tmps); pure (if h : vs.size = 1 then vs[0] else .tuple vs)) := by
    unfold results
    rw [hr]
    rfl
  refine ⟨.tuple #[c1, c2, c3], ?_, .tuple _ _ rfl fun i x v h1 h2 => ?_⟩
  · rw [e]
    simp [Sem.run_bind, e1, e2, e3, go_sem]
  · match i with
    | 0 => simp at h1 h2; subst h1; subst h2; exact g1
    | 1 => simp at h1 h2; subst h1; subst h2; exact g2
    | 2 => simp at h1 h2; subst h1; subst h2; exact g3
    | i + 3 => simp at h1
end
end Go.Proofs.YtboddbheljenhaaGreatDoor
