/-
  append of elements that are written out, to what the call owns. No program is named here.
-/
import Derived.Test.YtboddbheljenhaaGreatDoorG01
import Derived.Laws.AppendOwnNone
namespace Go.Proofs.YtboddbheljenhaaGreatDoor
open Go.RowKit
section
variable {P : Program} {w : World}
theorem push_lit {ops : Array Oper} {rest : List Oper} {o : Oper} {a : Act} {Q : Exit → Act → World → Prop} (hgd : o.guard = none) (s x : Operand) (t : TypeId)
    (ho : o.op = .call { callee := .builtin .append, args := #[s, x], argTypes := #[t, t] })
    (base : Nat) (e : TypeId) (z : Value) (bytes : Nat) (ht : P.underlying t = some (.slice e)) (hi : (P.info? e).map (fun i => (i.zero, i.size, i.bytes)) = some (some z, 1, bytes)) (hz : z.cells.size = 1) (hby : bytes ≤ 16)
    (v : Value) (n : Nat) (xs : List Value) (hs : a.eval s = v) (hown : w.ownsRow base e 1 v n xs) (us : List Value)
    (hx : a.eval x = .slice (some ⟨w.heap.size, 0, none⟩) us.length us.length) (hu : ∀ u ∈ us, u.oneCell' = true) (_h0 : 0 < us.length) (hN : n + us.length ≤ 1000000000000) (hbase : base ≤ w.heap.size)
    (h : ∀ v' w', w'.ownsRow base e 1 v' (n + us.length) (xs ++ us) → (w.alloc (.cells us.toArray e)).grownBy w' v.ownBlock → wpList P ops Q rest (a.put o.dst v') w') : wpList P ops Q (o :: rest) a (w.alloc (.cells us.toArray e)) := by
  obtain ⟨i0, hi0, h1, h2, h3⟩ := info_parts hi
  refine wpList_append_own _ hgd s x t ho base e i0 z 1 bytes ht hi0 h1 h2 h3 hz (by omega) v n xs hs (hown.alloc _) ⟨w.heap.size, 0, none⟩ us.length us.length us hx (by simp) ?_ hu (by unfold maxLen; omega) ?_ (by simp; omega) (fun v' w' h3 h4 _ => h v' w' h3 h4)
  · intro j u' hj
    have hlt : j < us.length := by
      rcases Nat.lt_or_ge j us.length with h | h
      · exact h
      · rw [List.getElem?_eq_none h] at hj; cases hj
    have e1 : (⟨w.heap.size, 0, none⟩ : Addr).add j = ⟨w.heap.size, j, none⟩ := by unfold Addr.add; split <;> simp_all
    rw [e1]
    have hb : (w.alloc (.cells us.toArray e)).heap[w.heap.size]? = some (.cells us.toArray e (0, 0)) := heap_alloc_new w _
    rw [cell_of_row _ w.heap.size j us.toArray e (0, 0) hb]
    simpa using hj
  · calc (n + us.length) * bytes ≤ 1000000000000 * 16 := Nat.mul_le_mul hN hby
      _ ≤ _ := by omega
/-- What stands below the row's base is as it was behind such a step. -/
theorem lit_below {B base n : Nat} {w0 w1 : World} {e : TypeId} {v : Value} {xs : List Value} {o : Obj} (hb : Below B w0 w) (hown : w.ownsRow base e 1 v n xs) (hg : (w.alloc o).grownBy w1 v.ownBlock) (h1 : B ≤ base) (h2 : B ≤ w.heap.size) : Below B w0 w1 :=
  (hb.alloc h2 o).grown hg (by simp; omega) (fun j hj => by have := (hown.lt j hj).1; omega)
/-- All that lies in another slice, behind what the call owns. -/
theorem push_all {ops : Array Oper} {rest : List Oper} {o : Oper} {a : Act} {Q : Exit → Act → World → Prop} (hgd : o.guard = none) (s x : Operand) (t : TypeId)
    (ho : o.op = .call { callee := .builtin .append, args := #[s, x], argTypes := #[t, t] })
    (base : Nat) (e : TypeId) (z : Value) (bytes : Nat) (ht : P.underlying t = some (.slice e)) (hi : (P.info? e).map (fun i => (i.zero, i.size, i.bytes)) = some (some z, 1, bytes)) (hz : z.cells.size = 1) (hby : bytes ≤ 16)
    (v : Value) (n : Nat) (xs : List Value) (hs : a.eval s = v) (hown : w.ownsRow base e 1 v n xs) (A : Option Addr) (m c B : Nat) (ys : List Value)
    (hx : a.eval x = .slice A m c) (hl : ys.length = m) (hm : 0 < m) (hys : Lies B A ys w) (hone : ∀ u ∈ ys, u.oneCell' = true) (hN : n + m ≤ 1000000000000) (hbase : base ≤ w.heap.size)
    (h : ∀ v' w', w'.ownsRow base e 1 v' (n + m) (xs ++ ys) → w.grownBy w' v.ownBlock → wpList P ops Q rest (a.put o.dst v') w') : wpList P ops Q (o :: rest) a w :=
  push_many hgd s x t ho base e z bytes ht hi hz v n xs hs hown A m c B ys hx hl hm hys hone (by unfold maxLen; omega)
    (by calc (n + m) * bytes ≤ 1000000000000 * 16 := Nat.mul_le_mul hN hby
          _ ≤ _ := by omega) hbase h
/-- All that lies in another slice, be it empty or nil. -/
theorem push_any {ops : Array Oper} {rest : List Oper} {o : Oper} {a : Act} {Q : Exit → Act → World → Prop} (hgd : o.guard = none) (s x : Operand) (t : TypeId)
    (ho : o.op = .call { callee := .builtin .append, args := #[s, x], argTypes := #[t, t] })
    (base : Nat) (e : TypeId) (z : Value) (bytes : Nat) (ht : P.underlying t = some (.slice e)) (hi : (P.info? e).map (fun i => (i.zero, i.size, i.bytes)) = some (some z, 1, bytes)) (hz : z.cells.size = 1) (hby : bytes ≤ 16)
    (v : Value) (n : Nat) (xs : List Value) (hs : a.eval s = v) (hown : w.ownsRow base e 1 v n xs) (A : Option Addr) (m c B : Nat) (ys : List Value)
    (hx : a.eval x = .slice A m c) (hl : ys.length = m) (hA : A = none → c = 0) (hys : Lies B A ys w) (hone : ∀ u ∈ ys, u.oneCell' = true) (hN : n + m ≤ 1000000000000) (hbase : base ≤ w.heap.size)
    (h : ∀ v' w', w'.ownsRow base e 1 v' (n + m) (xs ++ ys) → w.grownBy w' v.ownBlock → wpList P ops Q rest (a.put o.dst v') w') : wpList P ops Q (o :: rest) a w := by
  rcases Nat.eq_zero_or_pos m with hm | hm
  · subst hm
    obtain rfl : ys = [] := by cases ys <;> simp_all
    cases A with
    | none =>
      have hc := hA rfl
      subst hc
      obtain ⟨i0, hi0, h1, h2, h3⟩ := info_parts hi
      refine wpList_append_own_none hgd s x t ho base e i0 1 ht hi0 v n xs hs hown hx (h v w (by simpa using hown) ⟨rfl, rfl, rfl, Nat.le_refl _, fun _ _ _ => rfl⟩)
    | some ad =>
      obtain ⟨i0, hi0, h1, h2, h3⟩ := info_parts hi
      refine wpList_append_own _ hgd s x t ho base e i0 z 1 bytes ht hi0 h1 h2 h3 hz (by omega) v n xs hs hown ad 0 c [] hx rfl (fun j u hj => by simp at hj) (fun u hu => by simp at hu) (by unfold maxLen; omega)
        (by calc (n + 0) * bytes ≤ 1000000000000 * 16 := Nat.mul_le_mul hN hby
              _ ≤ _ := by omega) hbase (fun v' w' h3 h4 _ => h v' w' h3 h4)
  · exact push_all hgd s x t ho base e z bytes ht hi hz hby v n xs hs hown A m c B ys hx hl hm hys hone hN hbase h
end
end Go.Proofs.YtboddbheljenhaaGreatDoor
