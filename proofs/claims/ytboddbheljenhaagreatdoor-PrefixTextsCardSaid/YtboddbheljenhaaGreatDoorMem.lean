/-
  Words of my own for memory: a block that is known whole ('Box'), a slice argument that is read as a list of values ('Lies'), and what keeps them. No program is named here.
-/
import Derived.WalkKit
import Derived.Below
import Derived.OneCell
import Derived.Laws.OwnMore
import Derived.Laws.Rows
import Derived.Deep.AppendLies
import Derived.Deep.Draws
import Derived.Lib.Hide
import Derived.IntWalk
namespace Go.Proofs.YtboddbheljenhaaGreatDoor
open Go.RowKit

def Box (g : Nat) (t : TypeId) (cs : Array Value) (w : World) : Prop := w.heap[g]? = some (.cells cs t (0, 0))

namespace Box
variable {g : Nat} {t : TypeId} {cs : Array Value} {w w' : World}
theorem inside (h : Box g t cs w) : g < w.heap.size := lt_of_block h
theorem at_ (h : Box g t cs w) (i : Nat) : w.cell? ⟨g, i, none⟩ = cs[i]? := cell_of_row w g i cs t (0, 0) h
theorem open_ (h : Box g t cs w) (i : Nat) : w.frozen? ⟨g, i, none⟩ = false := by
  have e : w.heap[g]? = some (.cells cs t (0, 0)) := h
  simp [World.frozen?, e]
theorem made (w : World) (t : TypeId) (cs : Array Value) : Box w.heap.size t cs (w.alloc (.cells cs t)) := heap_alloc_new w _
theorem past (h : Box g t cs w) (o : Obj) : Box g t cs (w.alloc o) := by
  show (w.alloc o).heap[g]? = _
  rw [Below.heap_alloc w o g h.inside]; exact h
theorem drawn (h : Box g t cs w) : Box g t cs w.drew := h
theorem drawnN (h : Box g t cs w) (n : Nat) : Box g t cs (w.drewN n) := h
theorem under {B : Nat} (h : Box g t cs w) (hb : Below B w w') (hg : g < B) : Box g t cs w' := by
  show w'.heap[g]? = _
  rw [hb.block g hg]; exact h
theorem grow {row : Option Nat} (h : Box g t cs w) (hb : w.grownBy w' row) (hg : some g ≠ row) : Box g t cs w' := by
  show w'.heap[g]? = _
  rw [hb.block g h.inside hg]; exact h
theorem aside (h : Box g t cs w) {p : Addr} (hp : g ≠ p.block) (u : Value) : Box g t cs (w.setCell p u) := by
  show (w.setCell p u).heap[g]? = _
  rw [Below.heap_setCell w p u g hp]; exact h
theorem put (h : Box g t cs w) (i : Nat) (u : Value) : Box g t (cs.setIfInBounds i u) (w.setCell ⟨g, i, none⟩ u) := by
  have e : w.heap[g]? = some (.cells cs t (0, 0)) := h
  show (w.setCell ⟨g, i, none⟩ u).heap[g]? = _
  simp [World.setCell, Array.getElem?_modify, e]
theorem apart {g' : Nat} {t' : TypeId} {cs' : Array Value} (h : Box g t cs w) (h' : Box g' t' cs' w) (hne : t ≠ t') : g ≠ g' := by
  intro e
  subst e
  have e1 : w.heap[g]? = some (.cells cs t (0, 0)) := h
  have e2 : w.heap[g]? = some (.cells cs' t' (0, 0)) := h'
  rw [e1] at e2
  simp at e2
  exact hne e2.2
end Box

def Lies (B : Nat) (A : Option Addr) (xs : List Value) (w : World) : Prop :=
  ∀ k, k < xs.length → ∃ a v, A = some a ∧ a.block < B ∧ xs[k]? = some v ∧ w.cell? (a.add k) = some v

theorem block_add (a : Addr) (n : Nat) : (a.add n).block = a.block := by unfold Addr.add; split <;> rfl
namespace Lies
variable {B B' : Nat} {A : Option Addr} {xs : List Value} {w w' : World}
theorem nothing : Lies B A [] w := fun k hk => absurd hk (by simp)
theorem same (h : Lies B A xs w) (hk : ∀ p : Addr, p.block < B → w'.cell? p = w.cell? p) : Lies B A xs w' := fun k hk' => by
  obtain ⟨a, v, e, hb, hx, hc⟩ := h k hk'
  exact ⟨a, v, e, hb, hx, (hk _ (by rw [block_add]; exact hb)).trans hc⟩
theorem more (h : Lies B A xs w) (hB : B ≤ B') : Lies B' A xs w := fun k hk => by
  obtain ⟨a, v, e, hb, hx, hc⟩ := h k hk
  exact ⟨a, v, e, by omega, hx, hc⟩
theorem below (h : Lies B A xs w) (hb : Below B w w') : Lies B A xs w' := h.same fun _ hp => hb.cell hp
theorem alloc (h : Lies B A xs w) (hB : B ≤ w.heap.size) (o : Obj) : Lies B A xs (w.alloc o) := h.same fun p hp => World.cell?_alloc_lt w o p (by omega)
theorem setCell (h : Lies B A xs w) {p : Addr} (hB : B ≤ p.block) (u : Value) : Lies B A xs (w.setCell p u) :=
  h.same fun q hq => World.cell?_setCell_other w p q u (fun e => by subst e; omega)
theorem drew (h : Lies B A xs w) : Lies B A xs w.drew := h
theorem drewN (h : Lies B A xs w) (n : Nat) : Lies B A xs (w.drewN n) := h
theorem grown (h : Lies B A xs w) {row : Option Nat} (hg : w.grownBy w' row) (hB : B ≤ w.heap.size) (hr : ∀ g, row = some g → B ≤ g) : Lies B A xs w' :=
  h.same fun p hp => World.cell?_of_block (hg.block p.block (by omega) (fun e => by have := hr _ e.symm; omega))
theorem own {base n : Nat} {e : TypeId} {c : Nat} (h : w.ownsRow base e 1 (.slice A n c) n xs) : Lies w.heap.size A xs w := fun k hk => by
  have hl : xs.length = n := by have := h.1; omega
  obtain ⟨g, cap, hv, _, hlt⟩ := h.form (by omega)
  have hA : A = some ⟨g, 0, none⟩ := by injection hv
  subst hA
  exact ⟨_, xs[k], rfl, hlt, List.getElem?_eq_getElem hk, h.cells (g := g) rfl k _ (List.getElem?_eq_getElem hk)⟩
end Lies

theorem below_drewN {B : Nat} {a w : World} (h : Below B a w) (n : Nat) : Below B a (w.drewN n) := ⟨h.os, h.tape, h.output, h.size, h.block⟩

theorem ret_int {k : IntKind} {a b : Int} (h : a = b) : Ending.returned (.int k a) = .returned (.int k b) := by rw [h]

end Go.Proofs.YtboddbheljenhaaGreatDoor
