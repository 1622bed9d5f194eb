/-
  An argument that is a slice of integers, laid open; one more element behind a row of the call's own; what a call owns, laid open. No program is named here.
-/
import Derived.Test.YtboddbheljenhaaDoorMem
import Derived.ProofKit
import Derived.ChangeSlices
namespace Go.Proofs.YtboddbheljenhaaDoor
open Go.ChangeShapes Go.WideShapes Go.ChangeAt Go.RowKit

/-- What is known of a slice of integers that came in. -/
structure Ints (k : IntKind) (w : World) (A : Option Addr) (n c : Nat) (zs : List Int) : Prop where
  len : zs.length = n
  cap : n ≤ c
  max : c ≤ maxLen
  lies : Lies w.heap.size A (zs.map (Value.int k)) w
  wf : ∀ z ∈ zs, (Lit.int k z).wf = true
  nil : A = none → c = 0

section
variable {H : Type} {enc : TypeId × Value → H} {P : Program} {W : World}
theorem open_ints_any {t e : TypeId} {k : IntKind} {v : Value} {d : DataW H} {p : List MemPlace} {r : Reach} {b0 : Nat} (ht : P.underlying t = some (.slice e)) (he : P.underlying e = some (.int k)) (hc : P.cellsOf e = 1)
    (hval : Value.okWide P W r b0 t v) (h : DataW.Trod enc P W 0 (fun _ => true) true t v d p) : ∃ A n c zs, v = .slice A n c ∧ Ints k W A n c zs := by
  obtain ⟨a0, n0, c0, rfl⟩ := okWide_slice ht hval
  obtain ⟨fuel, hf⟩ := h
  rcases open_ints ht he hc hf with ⟨h1, h2⟩ | ⟨a, len, cap, zs, h1, h2, h3, h4, h5, h6, h7, h8⟩
  · simp [Value.cells] at h1
    obtain ⟨rfl, rfl, rfl⟩ := h1
    exact ⟨none, 0, 0, [], rfl, rfl, Nat.le_refl _, Nat.zero_le _, Lies.nothing, fun z hz => by simp at hz, fun _ => rfl⟩
  · simp [Value.cells] at h1
    obtain ⟨rfl, rfl, rfl⟩ := h1
    simp at h5
    refine ⟨some a, n0, c0, zs.take n0, rfl, by simp; omega, h3, h4, ?_, fun z hz => h8 z (List.mem_of_mem_take hz), fun h => by cases h⟩
    intro i hi
    have hin : i < n0 ∧ i < zs.length := by simp at hi; omega
    have hcell := h7 i hin.2
    refine ⟨a, .int k (zs.getD i 0), rfl, ?_, ?_, hcell⟩
    · have := World.block_lt_of_cell? _ _ hcell
      rwa [block_add] at this
    · rw [List.getElem?_map, List.getElem?_take_of_lt hin.1, List.getElem?_eq_getElem hin.2, List.getD_eq_getElem?_getD, List.getElem?_eq_getElem hin.2]
      rfl
end

section
variable {P : Program} {w : World}
/-- One more element (one cell) behind what the call owns. -/
theorem push_one {ops : Array Oper} {rest : List Oper} {o : Oper} {a : Act} {Q : Exit → Act → World → Prop} (hgd : o.guard = none) (s x : Operand) (t : TypeId)
    (ho : o.op = .call { callee := .builtin .append, args := #[s, x], argTypes := #[t, t] })
    (base : Nat) (e : TypeId) (z : Value) (bytes : Nat) (ht : P.underlying t = some (.slice e)) (hi : (P.info? e).map (fun i => (i.zero, i.size, i.bytes)) = some (some z, 1, bytes)) (hz : z.cells.size = 1)
    (v : Value) (n : Nat) (xs : List Value) (hs : a.eval s = v) (hown : w.ownsRow base e 1 v n xs) (u : Value)
    (hx : a.eval x = .slice (some ⟨w.heap.size, 0, none⟩) 1 1) (hu : u.oneCell' = true) (hn : n + 1 ≤ maxLen) (hbytes : (n + 1) * bytes ≤ 140737488355328) (hbase : base ≤ w.heap.size)
    (h : ∀ v' w', w'.ownsRow base e 1 v' (n + 1) (xs ++ [u]) → (w.alloc (.cells #[u] e)).grownBy w' v.ownBlock → wpList P ops Q rest (a.put o.dst v') w') : wpList P ops Q (o :: rest) a (w.alloc (.cells #[u] e)) := by
  obtain ⟨i0, hi0, h0, h1, h2⟩ := info_parts hi
  refine wpList_append_own _ hgd s x t ho base e i0 z 1 bytes ht hi0 h0 h1 h2 hz (by omega) v n xs hs (hown.alloc _) ⟨w.heap.size, 0, none⟩ 1 1 [u] hx rfl ?_ ?_ hn hbytes (by simp; omega) (fun v' w' h3 h4 _ => h v' w' h3 h4)
  · intro j u' hj
    match j, hj with
    | 0, hj => simp at hj; subst hj; simp [Addr.add]
  · intro u' hu'; simp at hu'; subst hu'; exact hu

/-- All of another slice (not empty) behind what the call owns. -/
theorem push_many {ops : Array Oper} {rest : List Oper} {o : Oper} {a : Act} {Q : Exit → Act → World → Prop} (hgd : o.guard = none) (s x : Operand) (t : TypeId)
    (ho : o.op = .call { callee := .builtin .append, args := #[s, x], argTypes := #[t, t] })
    (base : Nat) (e : TypeId) (z : Value) (bytes : Nat) (ht : P.underlying t = some (.slice e)) (hi : (P.info? e).map (fun i => (i.zero, i.size, i.bytes)) = some (some z, 1, bytes)) (hz : z.cells.size = 1)
    (v : Value) (n : Nat) (xs : List Value) (hs : a.eval s = v) (hown : w.ownsRow base e 1 v n xs) (A : Option Addr) (m c B : Nat) (ys : List Value)
    (hx : a.eval x = .slice A m c) (hl : ys.length = m) (hm : 0 < m) (hys : Lies B A ys w) (hone : ∀ u ∈ ys, u.oneCell' = true) (hn : n + m ≤ maxLen) (hbytes : (n + m) * bytes ≤ 140737488355328) (hbase : base ≤ w.heap.size)
    (h : ∀ v' w', w'.ownsRow base e 1 v' (n + m) (xs ++ ys) → w.grownBy w' v.ownBlock → wpList P ops Q rest (a.put o.dst v') w') : wpList P ops Q (o :: rest) a w := by
  obtain ⟨i0, hi0, h0, h1, h2⟩ := info_parts hi
  obtain ⟨ad, _, rfl, _, _, _⟩ := hys 0 (by omega)
  refine wpList_append_own _ hgd s x t ho base e i0 z 1 bytes ht hi0 h0 h1 h2 hz (by omega) v n xs hs hown ad m c ys hx (by omega) ?_ hone hn hbytes hbase (fun v' w' h3 h4 _ => h v' w' h3 h4)
  intro j u hj
  have hjl : j < ys.length := by
    rcases Nat.lt_or_ge j ys.length with h' | h'
    · exact h'
    · rw [List.getElem?_eq_none h'] at hj; cases hj
  obtain ⟨ad', u', e1, _, e2, e3⟩ := hys j hjl
  injection e1 with e1
  subst e1
  rw [e2] at hj
  injection hj with hj
  rw [← hj]; exact e3

/-- What stands below the row's base is as it was behind such a step. -/
theorem push_below {B base n : Nat} {w0 w1 : World} {e : TypeId} {v : Value} {xs : List Value} {o : Obj} (hb : Below B w0 w) (hown : w.ownsRow base e 1 v n xs) (hg : (w.alloc o).grownBy w1 v.ownBlock) (h1 : B ≤ base) (h2 : B ≤ w.heap.size) : Below B w0 w1 :=
  (hb.alloc h2 o).grown hg (by simp; omega) (fun j hj => by have := (hown.lt j hj).1; omega)
theorem push_box {g base n : Nat} {w1 : World} {t e : TypeId} {v : Value} {xs : List Value} {cs : Array Value} {o : Obj} (hb : Box g t cs w) (hown : w.ownsRow base e 1 v n xs) (hg : (w.alloc o).grownBy w1 v.ownBlock) (h1 : g < base) : Box g t cs w1 :=
  (hb.past o).grow hg (fun h => by have := (hown.lt g h.symm).1; omega)
end

theorem own_less {w : World} {base base' n : Nat} {e : TypeId} {size : Nat} {v : Value} {xs : List Value} (h : w.ownsRow base e size v n xs) (hb : base' ≤ base) : w.ownsRow base' e size v n xs := by
  obtain ⟨h1, h2 | ⟨g, cap, cur, h2, h3, h4⟩⟩ := h
  · exact ⟨h1, .inl h2⟩
  · exact ⟨h1, .inr ⟨g, cap, cur, h2, by omega, h4⟩⟩
theorem own_open {w : World} {base n : Nat} {e : TypeId} {v : Value} {xs : List Value} (h : w.ownsRow base e 1 v n xs) : ∃ A c, v = .slice A n c ∧ n ≤ c ∧ c ≤ maxLen ∧ xs.length = n ∧ Lies w.heap.size A xs w := by
  have hl : xs.length = n := by have := h.1; omega
  rcases h.2 with ⟨rfl, rfl⟩ | ⟨g, cap, cur, rfl, _, _, h1, h2, _⟩
  · exact ⟨none, 0, rfl, Nat.le_refl _, Nat.zero_le _, hl, fun k hk => absurd hk (by omega)⟩
  · exact ⟨_, cap, rfl, h1, h2, hl, Lies.own h⟩
theorem own_under {w w' : World} {B base n : Nat} {e : TypeId} {size : Nat} {v : Value} {xs : List Value} (h : w.ownsRow base e size v n xs) (hb : Below B w w') (hB : w.heap.size ≤ B) : w'.ownsRow base e size v n xs :=
  h.kept (row := none) ⟨hb.os, hb.tape, hb.output, hb.size, fun i hi _ => hb.block i (by omega)⟩ (by cases h : v.ownBlock <;> simp)
theorem old_cells {w w1 : World} (hb : Below w.heap.size w w1) :
    (∀ b o, b < w.heap.size → w1.cell? ⟨b, o, none⟩ = w.cell? ⟨b, o, none⟩) ∧ (∀ b o, b < w.heap.size → w1.frozen? ⟨b, o, none⟩ = w.frozen? ⟨b, o, none⟩) :=
  ⟨fun b o h => hb.cell (p := ⟨b, o, none⟩) h, fun b o h => hb.frozen (p := ⟨b, o, none⟩) h⟩
theorem Box.madeAt {g : Nat} {w : World} {t : TypeId} {cs : Array Value} (h : g = w.heap.size) : Box g t cs (w.alloc (.cells cs t)) := by subst h; exact Box.made _ _ _

/-- The k-th of a list of integers that lies in memory. -/
theorem Lies.int {B : Nat} {A : Option Addr} {K : IntKind} {zs : List Int} {w : World} (h : Lies B A (zs.map (Value.int K)) w) {k : Nat} (hk : k < zs.length) : ∃ a, A = some a ∧ a.block < B ∧ w.cell? (a.add k) = some (.int K (zs.getD k 0)) := by
  obtain ⟨a, v, h1, h2, h3, h4⟩ := h k (by simpa using hk)
  have e : v = .int K (zs.getD k 0) := by
    rw [List.getElem?_map, List.getElem?_eq_getElem hk] at h3
    rw [List.getD_eq_getElem?_getD, List.getElem?_eq_getElem hk]
    simpa using h3.symm
  exact ⟨a, h1, h2, by rw [h4, e]⟩
theorem Lies.take {B : Nat} {A : Option Addr} {xs : List Value} {w : World} (h : Lies B A xs w) (n : Nat) : Lies B A (xs.take n) w := fun k hk => by
  have hk' : k < n ∧ k < xs.length := by simp at hk; omega
  obtain ⟨a, v, h1, h2, h3, h4⟩ := h k hk'.2
  exact ⟨a, v, h1, h2, by rw [List.getElem?_take_of_lt hk'.1]; exact h3, h4⟩
theorem take_more (zs : List Int) (k : Nat) (hk : k < zs.length) : zs.take (k + 1) = zs.take k ++ [zs.getD k 0] := by
  rw [List.take_add_one, List.getElem?_eq_getElem hk, List.getD_eq_getElem?_getD, List.getElem?_eq_getElem hk]; rfl
end Go.Proofs.YtboddbheljenhaaDoor
