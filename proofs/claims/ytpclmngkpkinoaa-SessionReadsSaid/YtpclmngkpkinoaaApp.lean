/-
  append as an operation's run: what it gives, for regions that draw their order. No program is named here.
-/
import Derived.Test.YtpclmngkpkinoaaPush
import Derived.Test.YtpclmngkpkinoaaUse
namespace Go.Proofs.Ytpclmngkpkinoaa
open Go.RowKit
section
variable {P : Program} {w : World}
theorem run_push_any {ρ : Operand → Value} {o : Oper} (s x : Operand) (t : TypeId) (ho : o.op = .call { callee := .builtin .append, args := #[s, x], argTypes := #[t, t] })
    (base : Nat) (e : TypeId) (z : Value) (bytes : Nat) (ht : P.underlying t = some (.slice e)) (hi : (P.info? e).map (fun i => (i.zero, i.size, i.bytes)) = some (some z, 1, bytes)) (hz : z.cells.size = 1) (hby : bytes ≤ 16)
    (v : Value) (n : Nat) (xs : List Value) (hs : ρ s = v) (hown : w.ownsRow base e 1 v n xs) (A : Option Addr) (m c B : Nat) (ys : List Value)
    (hx : ρ x = .slice A m c) (hl : ys.length = m) (hA : A = none → c = 0) (hys : Lies B A ys w) (hone : ∀ u ∈ ys, u.oneCell' = true) (hN : n + m ≤ 1000000000000) (hbase : base ≤ w.heap.size) :
    ∃ v' w', (execOp ρ o).run P w = .ok (.value v') w' ∧ w'.ownsRow base e 1 v' (n + m) (xs ++ ys) ∧ w.grownBy w' v.ownBlock := by
  obtain ⟨i, hi0, h0, h1, h2⟩ := info_parts hi
  have hby' : (n + m) * bytes ≤ 140737488355328 := by
    calc (n + m) * bytes ≤ 1000000000000 * 16 := Nat.mul_le_mul hN hby
      _ ≤ _ := by omega
  cases A with
  | none =>
    have hc := hA rfl
    subst hc
    have hm : m = 0 := by
      rcases Nat.eq_zero_or_pos m with h' | h'
      · exact h'
      · obtain ⟨a, u, h1, -⟩ := hys 0 (by omega)
        cases h1
    subst hm
    obtain rfl : ys = [] := by cases ys <;> simp_all
    have hrun := run_append_owned_none (P := P) (w := w) base t o.type e i 1 ht hi0 v n xs hown
    refine ⟨v, w, ?_, by simpa using hown, ⟨rfl, rfl, rfl, Nat.le_refl _, fun _ _ _ => rfl⟩⟩
    simp [execOp, ho, resolve, invoke, builtin, hs, hx, hrun, Result.andThen]
  | some ad =>
    obtain ⟨v', w', hr, h3, h4, -⟩ := run_append_own (P := P) w base t o.type e i z 1 bytes ht hi0 h0 h1 h2 hz (by omega) v n xs hown ad m c ys (by omega) (fun j u hj => by
        have hjl : j < ys.length := by
          rcases Nat.lt_or_ge j ys.length with h' | h'
          · exact h'
          · rw [List.getElem?_eq_none h'] at hj; cases hj
        obtain ⟨ad', u', e1, _, e2, e3⟩ := hys j hjl
        injection e1 with e1
        subst e1
        rw [e2] at hj
        injection hj with hj
        rw [← hj]; exact e3) hone (by unfold maxLen; omega) hby' hbase
    refine ⟨v', w', ?_, h3, h4⟩
    unfold execOp
    simp only [ho, resolve, invoke, builtin, Sem.run_bind, Sem.run_pure, Result.andThen_ok, List.map_toArray, List.map_cons, List.map_nil, hs, hx, hr]
/-- The same as a step of a region that draws its order. -/
theorem step_push {ops : Array Oper} {o : Oper} {a : Act} {K : Act → World → Prop} {Q : Exit → Act → World → Prop} {E : Prop} (hgd : o.guard = none) (s x : Operand) (t : TypeId) (ho : o.op = .call { callee := .builtin .append, args := #[s, x], argTypes := #[t, t] })
    (base : Nat) (e : TypeId) (z : Value) (bytes : Nat) (ht : P.underlying t = some (.slice e)) (hi : (P.info? e).map (fun i => (i.zero, i.size, i.bytes)) = some (some z, 1, bytes)) (hz : z.cells.size = 1) (hby : bytes ≤ 16)
    (v : Value) (n : Nat) (xs : List Value) (hs : a.eval s = v) (hown : w.ownsRow base e 1 v n xs) (A : Option Addr) (m c B : Nat) (ys : List Value)
    (hx : a.eval x = .slice A m c) (hl : ys.length = m) (hA : A = none → c = 0) (hys : Lies B A ys w) (hone : ∀ u ∈ ys, u.oneCell' = true) (hN : n + m ≤ 1000000000000) (hbase : base ≤ w.heap.size)
    (hK : ∀ v' w', w'.ownsRow base e 1 v' (n + m) (xs ++ ys) → w.grownBy w' v.ownBlock → K (a.put o.dst v') w') : if Region.wanted o (yielded ops a.tmps) = true then Oper.wp P o a w K Q else E := by
  rw [if_pos (by simp [Region.wanted, hgd])]
  obtain ⟨v', w', hr, h1, h2⟩ := run_push_any (P := P) (w := w) (ρ := a.eval) (o := o) s x t ho base e z bytes ht hi hz hby v n xs hs hown A m c B ys hx hl hA hys hone hN hbase
  unfold Oper.wp
  rw [hr]
  exact hK v' w' h1 h2
/-- From nil: the world grows. -/
theorem grown_nil {w' : World} (h : w.grownBy w' (Value.slice none 0 0).ownBlock) : Below w.heap.size w w' := (Below.refl _ _).grown h (Nat.le_refl _) (fun j hj => by simp [Value.ownBlock] at hj)
end
end Go.Proofs.Ytpclmngkpkinoaa
