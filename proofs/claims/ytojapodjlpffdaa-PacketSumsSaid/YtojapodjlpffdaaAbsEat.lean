/-
  Functions that read a slice of numbers, given one that does not change, or a row that the caller gives up. No program is named here.
-/
import Derived.Test.YtojapodjlpffdaaAbsAgg
import Derived.Test.YtojapodjlpffdaaAbsFrz
namespace Go.Proofs.Ytojapodjlpffdaa
open Go.RowKit
/-- An old contract of a function that reads a slice of numbers. -/
theorem spec_reads {P : Program} {f : FuncId} {k : IntKind} {u : Value} {xs : List Int}
    (h : ∀ (w : World) (A : Option Addr) (n c : Nat), xs.length = n → Lies w.heap.size A (xs.map (Value.int k)) w → Calls P f #[.slice A n c] w fun e w' => e = .returned u ∧ Below w.heap.size w w') : Spec P f [.ro (ints k xs)] [] (.val u) [] := by
  intro ψ prot w cargs _ hrh hsz hargs
  have hk : ∀ b, prot b → b < w.heap.size := fun b hb => (hrh.pr b hb).1
  have hs1 : 0 < cargs.size := by simp at hsz; omega
  obtain ⟨A, n, c, hu, hn, -, -, hl⟩ := ro_lies hk (hargs 0 _ cargs[0] rfl (by simp [hs1]))
  obtain rfl : cargs = #[.slice A n c] := by
    apply Array.ext
    · simpa using hsz
    · intro i h1 h2
      have : i = 0 := by simp at h2; omega
      subst this; simpa using hu
  refine Calls.mono (h w A n c hn hl) ?_
  rintro e w' ⟨rfl, hb⟩
  exact ⟨u, ψ, prot, rfl, ⟨hb.os, hb.tape, hb.output, hb.size, fun _ _ _ h => h, fun _ h => h, fun b hb' => ⟨unowned_nil.2 (Nat.lt_of_lt_of_le (unowned_nil.1 hb') hb.size), hb.block b (unowned_nil.1 hb')⟩, fun _ h => .inl h⟩,
    rh_nil fun b hb' => Nat.lt_of_lt_of_le (hk b hb') hb.size, .val u⟩
/-- A row that the caller gives up may be read as a slice that does not change. -/
theorem spec_eat {P : Program} {f : FuncId} {k : IntKind} {t : TypeId} {v : AVal} {xs : List Int} {len : Nat} (hlen : len = xs.length) (h : Spec P f [.ro (ints k xs)] [] v []) (hv : v.pure = true) : Spec P f [.own 0 0 len] [(0, some (0, .row t 1 (ints k xs)))] v [(0, none)] := by
  subst hlen
  intro ψ prot w cargs hgh hrh hsz hargs
  have hs1 : 0 < cargs.size := by simp at hsz; omega
  obtain ⟨loc, hu, hψ⟩ := (hargs 0 _ cargs[0] rfl (by simp [hs1])).own_inv
  obtain ⟨loc', h1, h2⟩ := hrh.live 0 0 (.row t 1 (ints k xs)) rfl
  rw [hψ] at h1; injection h1 with h1; subst h1
  have hown : ∀ b, loc.block = some b → ¬ unowned ψ (updW (fun _ => none) [(0, some (0, .row t 1 (ints k xs)))]) w b := fun b hb hu => hu.2 0 0 _ loc rfl hψ hb
  let prot2 : Nat → Prop := fun b => prot b ∨ loc.block = some b
  have hp2 : ∀ b, prot2 b → b < w.heap.size := fun b hb => hb.elim (fun h => (hrh.pr b h).1) (fun h => h2.inside b h)
  obtain ⟨ys, g1, g2⟩ := h2
  have hro : VRel ψ prot2 w (.ro (ints k xs)) cargs[0] := by
    rw [hu]
    have hl : (xs.map (Value.int k)) = ys := by
      rw [flat_ints] at g2
      apply List.ext_getElem
      · have := g2.1; simp at this; simpa using this.symm
      · intro i e1 e2
        have hi : i < xs.length := by simpa using e1
        have := (g2.2 i (.val (.int k xs[i])) ys[i] (by rw [ints_get]; simp [hi]) (List.getElem?_eq_getElem e2)).val_eq
        simp [this]
    subst hl
    have e := ro_fresh (ψ := ψ) (prot := prot) g1 (by simp)
    simp only [length_ints] at e
    refine e.mono (fun _ _ _ h => h) fun b hb => ⟨?_, rfl⟩
    rcases hb with hb | hb
    · exact .inl hb
    · cases hq : loc.block with
      | none => rw [hq] at hb; cases hb
      | some g =>
        rw [hq] at hb
        refine .inr ?_
        rw [hq]
        exact hb
  refine Calls.mono (h ψ prot2 w cargs hgh (rh_nil hp2) hsz (fun i x u e1 e2 => ?_)) ?_
  · match i, e1, e2 with
    | 0, e1, e2 =>
      cases e1
      rw [Array.getElem?_eq_getElem hs1] at e2
      injection e2 with e2
      subst e2; exact hro
    | _ + 1, e1, e2 => cases e1
  rintro e w' ⟨cv, ψ', prot', rfl, q1, q2, q3⟩
  have hobj : updW (fun _ => none) [(0, (none : Option (Nat × AObj)))] = updW (fun _ => none) [] := by
    funext n
    by_cases h0 : n = 0
    · subst h0; rfl
    · have : (n == 0) = false := by simpa using h0
      simp [updW, List.lookup, this]
  rw [hobj]
  refine ⟨cv, ψ', prot', rfl, ⟨q1.os, q1.tape, q1.output, q1.size, q1.gh, fun b hb => q1.pr b (.inl hb), fun b hb => q1.un b (unowned_nil.2 hb.1), fun b hb => ?_⟩, q2, q3⟩
  rcases q1.new b hb with hb | hb
  · exact hb.elim .inl fun hb => .inr (hown b hb)
  · exact .inr fun hu => hb (unowned_nil.2 hu.1)
/-- A call that uses an object up, and answers a value. -/
theorem runk_eat {P : Program} {k : Nat} {ops : Array Oper} {N : Nat} {draw : Bool} {K : St → Prop} {o : Oper} {os : List Oper} {env : List (Nat × AVal)} {objs : Writes} {acc : List Tr} {d : Nat} {x : Operand} {xs : Array Operand} {ats : Array TypeId} {f : FuncId} {fn : Func} {c : Code} {caps cargs : List AVal} {v : AVal} {r1 : AObj} {n1 k1 : Nat} (hg : o.guard = none) (hd : o.dst = some d)
    (ho : o.op = .call { callee := .value x, args := xs, argTypes := ats }) (hx : (⟨env, objs⟩ : St).aop x = .fn f caps) (hf : P.funcs[f]? = some fn) (hn : (fn.name == "runtime.NumGoroutine") = false) (hb : fn.body = some c)
    (hspec : Spec P f cargs [(0, some (0, r1))] v [(0, none)]) (hr : Rens [(n1, k1, 0, 0)] (xs.toList.map (⟨env, objs⟩ : St).aop ++ caps) cargs) (hobj1 : (⟨env, objs⟩ : St).obj n1 = some (k1, r1)) (hv : v.pure = true) (hp1 : r1.pure = true)
    (t : RunK P k ops N draw os ⟨(d, v) :: env, (n1, none) :: objs⟩ (⟨v, [(n1, none)], [n1], []⟩ :: acc) K) : RunK P k ops N draw (o :: os) ⟨env, objs⟩ acc K :=
  runk hg hd (opok_call (d := d) [⟨0, n1, k1, r1, none⟩] none ho hx hf hn hb hr hspec rfl (.one (.pure _ hv)) (fun b h => by simp at h; subst h; exact hobj1) (by simp [bindOk, hp1])) t
end Go.Proofs.Ytojapodjlpffdaa
